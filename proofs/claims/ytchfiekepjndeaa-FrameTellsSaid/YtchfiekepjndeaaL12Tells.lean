/-
  P12.1, FrameTells: for all bytes and numbers the law returns true: any body's frame, how long it is, and all frames that any bytes begin with, are the document's. No condition.
-/
import Derived.Test.YtchfiekepjndeaaL12S
namespace Go.Proofs.Ytchfiekepjndeaa.frameTells
open Go.ChangeShapes Go.WideShapes Go.ChangeAt Go.RowKit

set_option maxHeartbeats 4000000 in
set_option maxRecDepth 100000 in
theorem walkN (w : World) (A : Option Addr) (n cap : Nat) (bs : List UInt8) (hn : bs.length = n) (hnc : n ≤ cap) (hcm : cap ≤ maxLen) (hA : Lies w A (cells bs)) (z : Int) :
    Calls Try.prog 3 #[.slice A n cap, .int .i64 z] w fun e w' => e = .returned (.bool true) ∧ Below w.heap.size w w' := by
  have HN := Lib.hid hn
  have HA := Lib.hid hA
  clear hn hA
  go_enter Try.func3, Try.ntmps3
  go_wp2_with fail
  refine (head12_any w).mono ?_
  rintro e w1 ⟨rfl, c1⟩
  have HC1 := Lib.hid c1
  clear c1
  by_cases h2 : 20000 < n
  · have hz : (20000 : Int) < (n : Int) := by omega
    go_wp2
    go_ret
    exact ⟨rfl, HC1.out⟩
  · have hz : ¬ (20000 : Int) < (n : Int) := by omega
    have HF := Lib.hid (fall_any A n cap bs w1 HN.out (by omega) hnc hcm (HA.out.below HC1.out))
    go_wp2_with fail
    refine HF.out.mono ?_
    rintro e w2 ⟨v1, rfl, L1, hL1, hR1, c2⟩
    obtain ⟨A1, c1, rfl, -, -, hRd1⟩ := hR1.read
    have HC2 := Lib.hid (HC1.out.trans (c2.mono HC1.out.size))
    have HR1 := Lib.hid hRd1
    have HG := Lib.hid (rall12_any A n cap bs w2 HN.out (by omega) hnc hcm (HA.out.below HC2.out))
    clear hRd1 hR1 c2 HF
    go_wp2_with fail
    refine HG.out.mono ?_
    rintro e w3 ⟨v2, rfl, L2, hL2, hR2, c3⟩
    obtain ⟨A2, c2, rfl, -, -, hRd2⟩ := hR2.read
    have hl2 : L2.length = L1.length := by have := congrArg List.length (hL2.trans hL1.symm); simpa using this
    rw [hl2]
    have hq : L1.length ≤ 1000000 := by
      have h1 := (Fra.all_pre bs).1.len
      have h3 : L1.length = (Fra.all bs).length := by have := congrArg List.length hL1; simpa using this
      have := HN.out
      omega
    have HC3 := Lib.hid (HC2.out.trans (c3.mono HC2.out.size))
    have HRA := Lib.hid (HR1.out.below c3)
    have HRB := Lib.hid hRd2
    have HSM := Lib.hid (fun (W : World) (hW : Below w3.heap.size w3 W) => same12_yes A1 A2 L1.length c1 c2 L1 L2 W rfl hq (hL1.trans hL2.symm) (HRA.out.below hW) (HRB.out.below hW))
    have HP := Lib.hid (fun (W : World) (hW : Below w3.heap.size w3 W) => fput_any A n cap bs W HN.out (HA.out.below (HC3.out.trans (hW.mono HC3.out.size))))
    have HRP := Lib.hid (fun (W : World) (hW : Below w3.heap.size w3 W) => rput12_any A n cap bs W HN.out (HA.out.below (HC3.out.trans (hW.mono HC3.out.size))))
    have HZ := Lib.hid (fun (W : World) => fsize_any z W)
    have HZR := Lib.hid (fun (W : World) => rsize12_any z W)
    clear hRd2 hR2 c3 HG hL1 hL2 hl2 hq HR1 HRA HRB
    generalize Fra.put bs = FP at *
    generalize hq : L1.length = q at *
    clear hq
    generalize ((Fra.size z : Nat) : Int) = Z at *
    generalize ((Fra.tot (Fra.all bs) : Nat) : Int) = T at *
    go_wp2
    refine wp_soft (by kernel_rfl) 52 [(25, [5]), (26, [25]), (27, [0, 26]), (28, [27, 26]), (29, [28, 26]), (30, [0, 26]), (31, [30, 26]), (32, [31, 26]), (33, [29, 32, 26]), (34, [26, 33]), (35, [34]), (36, [1, 35]), (37, [36, 35]), (38, [1, 35]), (39, [38, 35]), (40, [37, 39, 35]), (41, [35, 40]), (42, [41]), (43, [6, 42]), (44, [8, 42]), (45, [43, 44, 42]), (46, [42, 45]), (47, [46]), (48, [7, 47]), (49, [9, 47]), (50, [48, 49, 47]), (51, [47, 50]), (4, [51])]
      [Fact.is (.bool true), Fact.is (.bool true), Fact.is (.slice A n cap), Fact.own FP, Fact.is (.string (str FP)), Fact.is (.slice A n cap), Fact.own FP, Fact.is (.string (str FP)), Fact.is (.bool true), Fact.is (.bool true), Fact.is (.bool true), Fact.is (.int .i64 z), Fact.is (.int .i64 Z), Fact.is (.int .i64 z), Fact.is (.int .i64 Z), Fact.is (.bool true), Fact.is (.bool true), Fact.is (.bool true), Fact.is (.slice A1 q c1), Fact.is (.slice A2 q c2), Fact.is (.bool true), Fact.is (.bool true), Fact.is (.bool true), Fact.is (.int .i64 T), Fact.is (.int .i64 T), Fact.is (.bool true), Fact.is (.bool true), Fact.is (.bool true)]
      (by kernel_rfl) rfl rfl ⟨?s0, ?s1, ?s2, ?s3, ?s4, ?s5, ?s6, ?s7, ?s8, ?s9, ?s10, ?s11, ?s12, ?s13, ?s14, ?s15, ?s16, ?s17, ?s18, ?s19, ?s20, ?s21, ?s22, ?s23, ?s24, ?s25, ?s26, ?s27, trivial⟩ ?fin
    case s0 =>
      intro ρ W hb hc hf hr
      obtain ⟨r5, -⟩ := hr
      have e5 : ρ (.tmp 5) = .bool true := r5
      clear r5
      refine under_none rfl ?_
      exact ⟨e5, Below.refl _ _⟩
    case s1 =>
      intro ρ W hb hc hf hr
      obtain ⟨r25, -⟩ := hr
      have e25 : ρ (.tmp 25) = .bool true := r25
      clear r25
      refine under_none rfl ?_
      exact ⟨e25, Below.refl _ _⟩
    case s2 =>
      intro ρ W hb hc hf hr
      obtain ⟨r0, r26, -⟩ := hr
      have e0 : ρ (.tmp 0) = .slice A n cap := r0
      clear r0
      have e26 : ρ (.tmp 26) = .bool true := r26
      clear r26
      refine ⟨26, rfl, .inl ⟨e26, ?_⟩⟩
      exact ⟨e0, Below.refl _ _⟩
    case s3 =>
      intro ρ W hb hc hf hr
      obtain ⟨r27, r26, -⟩ := hr
      have e27 : ρ (.tmp 27) = .slice A n cap := r27
      clear r27
      have e26 : ρ (.tmp 26) = .bool true := r26
      clear r26
      refine ⟨26, rfl, .inl ⟨e26, ?_⟩⟩
      exact soft_call1 hf e27 (HP.out W (undrew hb)) rfl (by kernel_rfl) made_own
    case s4 =>
      intro ρ W hb hc hf hr
      obtain ⟨r28, r26, -⟩ := hr
      have e26 : ρ (.tmp 26) = .bool true := r26
      clear r26
      refine ⟨26, rfl, .inl ⟨e26, ?_⟩⟩
      exact soft_own r28 rfl
    case s5 =>
      intro ρ W hb hc hf hr
      obtain ⟨r0, r26, -⟩ := hr
      have e0 : ρ (.tmp 0) = .slice A n cap := r0
      clear r0
      have e26 : ρ (.tmp 26) = .bool true := r26
      clear r26
      refine ⟨26, rfl, .inl ⟨e26, ?_⟩⟩
      exact ⟨e0, Below.refl _ _⟩
    case s6 =>
      intro ρ W hb hc hf hr
      obtain ⟨r30, r26, -⟩ := hr
      have e30 : ρ (.tmp 30) = .slice A n cap := r30
      clear r30
      have e26 : ρ (.tmp 26) = .bool true := r26
      clear r26
      refine ⟨26, rfl, .inl ⟨e26, ?_⟩⟩
      exact soft_call1 hf e30 (HRP.out W (undrew hb)) rfl (by kernel_rfl) made_own
    case s7 =>
      intro ρ W hb hc hf hr
      obtain ⟨r31, r26, -⟩ := hr
      have e26 : ρ (.tmp 26) = .bool true := r26
      clear r26
      refine ⟨26, rfl, .inl ⟨e26, ?_⟩⟩
      exact soft_own r31 rfl
    case s8 =>
      intro ρ W hb hc hf hr
      obtain ⟨r29, r32, r26, -⟩ := hr
      have e29 : ρ (.tmp 29) = .string (str FP) := r29
      clear r29
      have e32 : ρ (.tmp 32) = .string (str FP) := r32
      clear r32
      have e26 : ρ (.tmp 26) = .bool true := r26
      clear r26
      refine ⟨26, rfl, .inl ⟨e26, ?_⟩⟩
      exact soft_bin e29 e32 rfl rfl (eqs12 W _)
    case s9 =>
      intro ρ W hb hc hf hr
      obtain ⟨r26, r33, -⟩ := hr
      have e26 : ρ (.tmp 26) = .bool true := r26
      clear r26
      have e33 : ρ (.tmp 33) = .bool true := r33
      clear r33
      refine under_none rfl ?_
      simp [execOp, e26, e33, go_sem, softUpon, Fact.is, Below.refl]
    case s10 =>
      intro ρ W hb hc hf hr
      obtain ⟨r34, -⟩ := hr
      have e34 : ρ (.tmp 34) = .bool true := r34
      clear r34
      refine under_none rfl ?_
      exact ⟨e34, Below.refl _ _⟩
    case s11 =>
      intro ρ W hb hc hf hr
      obtain ⟨r1, r35, -⟩ := hr
      have e1 : ρ (.tmp 1) = .int .i64 z := r1
      clear r1
      have e35 : ρ (.tmp 35) = .bool true := r35
      clear r35
      refine ⟨35, rfl, .inl ⟨e35, ?_⟩⟩
      exact ⟨e1, Below.refl _ _⟩
    case s12 =>
      intro ρ W hb hc hf hr
      obtain ⟨r36, r35, -⟩ := hr
      have e36 : ρ (.tmp 36) = .int .i64 z := r36
      clear r36
      have e35 : ρ (.tmp 35) = .bool true := r35
      clear r35
      refine ⟨35, rfl, .inl ⟨e35, ?_⟩⟩
      exact soft_call1 hf e36 (HZ.out W) rfl (by kernel_rfl) same_is
    case s13 =>
      intro ρ W hb hc hf hr
      obtain ⟨r1, r35, -⟩ := hr
      have e1 : ρ (.tmp 1) = .int .i64 z := r1
      clear r1
      have e35 : ρ (.tmp 35) = .bool true := r35
      clear r35
      refine ⟨35, rfl, .inl ⟨e35, ?_⟩⟩
      exact ⟨e1, Below.refl _ _⟩
    case s14 =>
      intro ρ W hb hc hf hr
      obtain ⟨r38, r35, -⟩ := hr
      have e38 : ρ (.tmp 38) = .int .i64 z := r38
      clear r38
      have e35 : ρ (.tmp 35) = .bool true := r35
      clear r35
      refine ⟨35, rfl, .inl ⟨e35, ?_⟩⟩
      exact soft_call1 hf e38 (HZR.out W) rfl (by kernel_rfl) same_is
    case s15 =>
      intro ρ W hb hc hf hr
      obtain ⟨r37, r39, r35, -⟩ := hr
      have e37 : ρ (.tmp 37) = .int .i64 Z := r37
      clear r37
      have e39 : ρ (.tmp 39) = .int .i64 Z := r39
      clear r39
      have e35 : ρ (.tmp 35) = .bool true := r35
      clear r35
      refine ⟨35, rfl, .inl ⟨e35, ?_⟩⟩
      exact soft_bin e37 e39 rfl rfl (eqi12 W _)
    case s16 =>
      intro ρ W hb hc hf hr
      obtain ⟨r35, r40, -⟩ := hr
      have e35 : ρ (.tmp 35) = .bool true := r35
      clear r35
      have e40 : ρ (.tmp 40) = .bool true := r40
      clear r40
      refine under_none rfl ?_
      simp [execOp, e35, e40, go_sem, softUpon, Fact.is, Below.refl]
    case s17 =>
      intro ρ W hb hc hf hr
      obtain ⟨r41, -⟩ := hr
      have e41 : ρ (.tmp 41) = .bool true := r41
      clear r41
      refine under_none rfl ?_
      exact ⟨e41, Below.refl _ _⟩
    case s18 =>
      intro ρ W hb hc hf hr
      obtain ⟨r6, r42, -⟩ := hr
      have e6 : ρ (.tmp 6) = .slice A1 q c1 := r6
      clear r6
      have e42 : ρ (.tmp 42) = .bool true := r42
      clear r42
      refine ⟨42, rfl, .inl ⟨e42, ?_⟩⟩
      exact ⟨e6, Below.refl _ _⟩
    case s19 =>
      intro ρ W hb hc hf hr
      obtain ⟨r8, r42, -⟩ := hr
      have e8 : ρ (.tmp 8) = .slice A2 q c2 := r8
      clear r8
      have e42 : ρ (.tmp 42) = .bool true := r42
      clear r42
      refine ⟨42, rfl, .inl ⟨e42, ?_⟩⟩
      exact ⟨e8, Below.refl _ _⟩
    case s20 =>
      intro ρ W hb hc hf hr
      obtain ⟨r43, r44, r42, -⟩ := hr
      have e43 : ρ (.tmp 43) = .slice A1 q c1 := r43
      clear r43
      have e44 : ρ (.tmp 44) = .slice A2 q c2 := r44
      clear r44
      have e42 : ρ (.tmp 42) = .bool true := r42
      clear r42
      refine ⟨42, rfl, .inl ⟨e42, ?_⟩⟩
      exact soft_call2 hf e43 e44 (HSM.out W (undrew hb)) rfl (by kernel_rfl) below_is
    case s21 =>
      intro ρ W hb hc hf hr
      obtain ⟨r42, r45, -⟩ := hr
      have e42 : ρ (.tmp 42) = .bool true := r42
      clear r42
      have e45 : ρ (.tmp 45) = .bool true := r45
      clear r45
      refine under_none rfl ?_
      simp [execOp, e42, e45, go_sem, softUpon, Fact.is, Below.refl]
    case s22 =>
      intro ρ W hb hc hf hr
      obtain ⟨r46, -⟩ := hr
      have e46 : ρ (.tmp 46) = .bool true := r46
      clear r46
      refine under_none rfl ?_
      exact ⟨e46, Below.refl _ _⟩
    case s23 =>
      intro ρ W hb hc hf hr
      obtain ⟨r7, r47, -⟩ := hr
      have e7 : ρ (.tmp 7) = .int .i64 T := r7
      clear r7
      have e47 : ρ (.tmp 47) = .bool true := r47
      clear r47
      refine ⟨47, rfl, .inl ⟨e47, ?_⟩⟩
      exact ⟨e7, Below.refl _ _⟩
    case s24 =>
      intro ρ W hb hc hf hr
      obtain ⟨r9, r47, -⟩ := hr
      have e9 : ρ (.tmp 9) = .int .i64 T := r9
      clear r9
      have e47 : ρ (.tmp 47) = .bool true := r47
      clear r47
      refine ⟨47, rfl, .inl ⟨e47, ?_⟩⟩
      exact ⟨e9, Below.refl _ _⟩
    case s25 =>
      intro ρ W hb hc hf hr
      obtain ⟨r48, r49, r47, -⟩ := hr
      have e48 : ρ (.tmp 48) = .int .i64 T := r48
      clear r48
      have e49 : ρ (.tmp 49) = .int .i64 T := r49
      clear r49
      have e47 : ρ (.tmp 47) = .bool true := r47
      clear r47
      refine ⟨47, rfl, .inl ⟨e47, ?_⟩⟩
      exact soft_bin e48 e49 rfl rfl (eqi12 W _)
    case s26 =>
      intro ρ W hb hc hf hr
      obtain ⟨r47, r50, -⟩ := hr
      have e47 : ρ (.tmp 47) = .bool true := r47
      clear r47
      have e50 : ρ (.tmp 50) = .bool true := r50
      clear r50
      refine under_none rfl ?_
      simp [execOp, e47, e50, go_sem, softUpon, Fact.is, Below.refl]
    case s27 =>
      intro ρ W hb hc hf hr
      obtain ⟨r51, -⟩ := hr
      have e51 : ρ (.tmp 51) = .bool true := r51
      clear r51
      refine under_none rfl ?_
      exact ⟨e51, Below.refl _ _⟩
    case fin =>
      intro a w4 hb hd hk
      have h4 : a.tmps.getD 4 undef = .bool true := hk 4
      clear hk
      have hc := HC3.out.trans ((undrew hb).mono HC3.out.size)
      go_wp2
      refine bodyPost_ret (results_tmp rfl _ _ _) hd ?_
      exact ⟨by rw [h4], hc⟩

theorem walk (w : World) (A : Option Addr) (cap : Nat) (bs : List UInt8) (hl : bs.length ≤ cap) (hm : cap ≤ maxLen) (hA : Lies w A (cells bs)) (z : Int) (_ : -9223372036854775808 ≤ z ∧ z ≤ 9223372036854775807) :
    Calls Try.prog 3 #[.slice A bs.length cap, .int .i64 z] w fun e w' => e = .returned (.bool true) ∧ Below w.heap.size w w' :=
  walkN w A bs.length cap bs rfl hl hm hA z


set_option maxRecDepth 100000 in
theorem lifted (os : Os) (started : os.Started) (H : Type) (enc : TypeId × Value → H) :
    ReturnsInHanded {} Try.checked os 3 .any (Rows.frameTellsSpec.pre6 enc Try.prog Try.f3 Rows.frameTellsRow.domain false) (Rows.frameTellsSpec.post enc Try.prog Try.f3 false true false false) := by
  refine returnsInHanded_of_change (C := Try.checked) own started (by kernel_rfl) Try.func3
    (ChangeSpec.witness6 (enc := enc) (C := Try.checked) false ⟨#[], #[.slice none 0 0, .int .i64 0], []⟩ 8 (by kernel_rfl) (by kernel_rfl) (by kernel_rfl) (by kernel_rfl)) ?_
  intro W base args ds gs before hval0 hW hcnd _
  have hval : ∀ (j : Nat) t v, Try.f3.params[j]? = some t → args[j]? = some v → Value.okWide Try.prog W .any base t v := hval0
  have hfin := fun W' => law_post (enc := enc) (P := Try.prog) (f := Try.f3) (s := Rows.frameTellsSpec) (tb := 4) (W := W) (W' := W') (args := args) (ds := ds) (gs := gs) (before := before) laidOut rfl (by kernel_rfl) Try.underlying4 (by kernel_rfl) (fun xs h => by rw [Try.params3] at h; match xs, h with | [_, _], _ => rfl) hW
  have hlt : ∀ x ∈ before, x.block < W.heap.size := fun x hx => hW.lt x hx
  obtain ⟨p, q, hA0, hV, rfl, hfz, hnd⟩ := hW
  have hA : DataW.TrodAll enc Try.prog W 0 (fun _ => true) true Try.f3.params.toList args.toList ds p := hA0
  rw [Try.params3] at hA hval
  obtain ⟨v0, vs0, d0, ds0, p0, q0, hargs, rfl, rfl, h0, r0⟩ := trodAll_cons hA
  obtain ⟨v1, vs1, d1, ds1, p1, q1, rfl, rfl, rfl, h1, r1⟩ := trodAll_cons r0
  obtain ⟨rfl, rfl, rfl⟩ := trodAll_nil r1
  obtain rfl : args = #[v0, v1] := by cases args; simp_all
  obtain ⟨A0, cap0, b0, rfl, hl0, hm0, hB0⟩ := open_bytes (hval 0 22 v0 rfl rfl) h0 (fun x hx => hlt x (by simp [hx]))
  obtain ⟨a1, rfl, rfl, rfl, w1⟩ := open_int Try.underlying3 (hval 1 3 v1 rfl rfl) h1
  refine (walk W A0 cap0 b0 hl0 hm0 hB0 a1 (bounds_i64 w1)).mono fun e W' ⟨he, hg⟩ => ?_
  subst he
  exact ⟨_, rfl, hfin W' hg⟩

theorem proved : Rows.FrameTellsSaid :=
  OpenClaim.holds_of_wide 3 Try.f3 rfl rfl rfl rfl rfl rfl rfl ⟨rfl, rfl, rfl, rfl, rfl⟩ rfl rfl rfl rfl rfl (by kernel_rfl) Try.func3 (by kernel_rfl)
    (of_decide_eq_true (by kernel_rfl)) (by unfold Func.isWrapper; first | (rw [if_pos (by decide +kernel)]; kernel_rfl) | (rw [if_neg (by decide +kernel)]; exact ⟨rfl, rfl⟩))
    (fun os started H enc _ => lifted os started H enc)
#print axioms proved
end Go.Proofs.Ytchfiekepjndeaa.frameTells
