/-
  P1.1, VintTells: for every integer and all bytes the law returns true: its bytes, how many they are, and what any bytes begin with, are the document's. No condition.
-/
import Derived.Test.YtldophaccbakoaaHead1
import Derived.Test.YtldophaccbakoaaClose
import Derived.Test.YtldophaccbakoaaR1G
import Derived.Test.YtldophaccbakoaaSoftV
namespace Go.Proofs.Ytldophaccbakoaa.vintTells
open Go.ChangeShapes Go.WideShapes Go.ChangeAt Go.RowKit

set_option maxHeartbeats 1000000 in
set_option maxRecDepth 100000 in
theorem walk (w : World) (n : Int) (_hn : -9223372036854775808 ≤ n ∧ n ≤ 9223372036854775807) (A : Option Addr) (cap : Nat) (bs : List UInt8) (_hl : bs.length ≤ cap) (_hm : cap ≤ maxLen) (hA : Lies w A (cells bs)) :
    Calls Try.prog 3 #[.int .i64 n, .slice A bs.length cap] w fun e w' => e = .returned (.bool true) ∧ Below w.heap.size w w' := by
  clear _hn
  unfold maxLen at _hm
  by_cases h9 : 9000 < bs.length
  · go_enter Try.func3, Try.ntmps3
    go_wp2_with fail
    refine (head_any _).mono ?_
    rintro e w1 ⟨rfl, hb1⟩
    go_wp2
    go_ret
    exact ⟨rfl, hb1⟩
  · have HP := Lib.hid (fun W (h : Lies W A (cells bs)) => put_any A cap bs n W (by omega) h)
    have HR := Lib.hid (fun W (h : Lies W A (cells bs)) => rput_any A cap bs n W (by omega) h)
    have HZ := Lib.hid (fun W => size_any n W)
    have HY := Lib.hid (fun W => rsize_any n W)
    have HG := Lib.hid (fun W (h : Lies W A (cells bs)) => get_is A bs.length cap bs W _ _ _ rfl (by unfold maxLen; omega) h rfl rfl rfl)
    have HQ := Lib.hid (fun W (h : Lies W A (cells bs)) => rget_is A bs.length cap bs W _ _ _ rfl (by unfold maxLen; omega) h rfl rfl rfl)
    generalize bs ++ Plain.put n = T at *
    generalize Plain.size n = Z at *
    generalize ((Plain.get bs).1 : Int) = x at *
    generalize ((Plain.get bs).2.1 : Int) = y at *
    generalize ((Plain.get bs).2.2 : Int) = z at *
    go_enter Try.func3, Try.ntmps3
    go_wp2_with fail
    refine (head_any _).mono ?_
    rintro e w1 ⟨rfl, hb1⟩
    have hA1 := hA.below hb1
    go_wp2_with fail
    refine (HG.out _ hA1).mono ?_
    rintro e w2 ⟨rfl, hb2⟩
    have hA2 := hA1.below hb2
    go_wp2_with fail
    refine (HQ.out _ hA2).mono ?_
    rintro e w' ⟨rfl, rfl⟩
    have hA2d : Lies w2.drew A (cells bs) := hA2.drew1
    have hbd : Below w.heap.size w w2.drew := (hb1.trans (hb2.mono hb1.size)).drew
    clear hA hA1 hA2 hb1 hb2 HG HQ
    go_wp2
    refine wp_soft (by kernel_rfl) 63 [(29, [5]), (30, [29]), (31, [1, 30]), (32, [0, 30]), (33, [31, 32, 30]), (34, [33, 30]), (35, [1, 30]), (36, [0, 30]), (37, [35, 36, 30]), (38, [37, 30]), (39, [34, 38, 30]), (40, [30, 39]), (41, [40]), (42, [0, 41]), (43, [42, 41]), (44, [0, 41]), (45, [44, 41]), (46, [43, 45, 41]), (47, [41, 46]), (48, [47]), (49, [6, 48]), (50, [9, 48]), (51, [49, 50, 48]), (52, [48, 51]), (53, [52]), (54, [7, 53]), (55, [10, 53]), (56, [54, 55, 53]), (57, [53, 56]), (58, [57]), (59, [8, 58]), (60, [11, 58]), (61, [59, 60, 58]), (62, [58, 61]), (4, [62])]
      [Fact.is (.bool true), Fact.is (.bool true), Fact.is (.slice A bs.length cap), Fact.is (.int .i64 n), Fact.own T, Fact.is (.string (str T)), Fact.is (.slice A bs.length cap), Fact.is (.int .i64 n), Fact.own T, Fact.is (.string (str T)), Fact.is (.bool true), Fact.is (.bool true), Fact.is (.bool true), Fact.is (.int .i64 n), Fact.is (.int .i64 Z), Fact.is (.int .i64 n), Fact.is (.int .i64 Z), Fact.is (.bool true), Fact.is (.bool true), Fact.is (.bool true), Fact.is (.int .i64 x), Fact.is (.int .i64 x), Fact.is (.bool true), Fact.is (.bool true), Fact.is (.bool true), Fact.is (.int .i64 y), Fact.is (.int .i64 y), Fact.is (.bool true), Fact.is (.bool true), Fact.is (.bool true), Fact.is (.int .i64 z), Fact.is (.int .i64 z), Fact.is (.bool true), Fact.is (.bool true), Fact.is (.bool true)]
      (by kernel_rfl) rfl rfl ⟨?s0, ?s1, ?s2, ?s3, ?s4, ?s5, ?s6, ?s7, ?s8, ?s9, ?s10, ?s11, ?s12, ?s13, ?s14, ?s15, ?s16, ?s17, ?s18, ?s19, ?s20, ?s21, ?s22, ?s23, ?s24, ?s25, ?s26, ?s27, ?s28, ?s29, ?s30, ?s31, ?s32, ?s33, ?s34, trivial⟩ ?fin
    case s0 =>
      intro ρ W hb hc hf hr
      obtain ⟨r5, -⟩ := hr
      have e5 : ρ (.tmp 5) = .bool true := r5
      clear r5
      refine under_none rfl ?_
      exact ⟨e5, Below.refl _ _⟩
    case s1 =>
      intro ρ W hb hc hf hr
      obtain ⟨r29, -⟩ := hr
      have e29 : ρ (.tmp 29) = .bool true := r29
      clear r29
      refine under_none rfl ?_
      exact ⟨e29, Below.refl _ _⟩
    case s2 =>
      intro ρ W hb hc hf hr
      obtain ⟨r1, r30, -⟩ := hr
      have e1 : ρ (.tmp 1) = .slice A bs.length cap := r1
      clear r1
      have e30 : ρ (.tmp 30) = .bool true := r30
      clear r30
      refine ⟨30, rfl, .inl ⟨e30, ?_⟩⟩
      exact ⟨e1, Below.refl _ _⟩
    case s3 =>
      intro ρ W hb hc hf hr
      obtain ⟨r0, r30, -⟩ := hr
      have e0 : ρ (.tmp 0) = .int .i64 n := r0
      clear r0
      have e30 : ρ (.tmp 30) = .bool true := r30
      clear r30
      refine ⟨30, rfl, .inl ⟨e30, ?_⟩⟩
      exact ⟨e0, Below.refl _ _⟩
    case s4 =>
      intro ρ W hb hc hf hr
      obtain ⟨r31, r32, r30, -⟩ := hr
      have e31 : ρ (.tmp 31) = .slice A bs.length cap := r31
      clear r31
      have e32 : ρ (.tmp 32) = .int .i64 n := r32
      clear r32
      have e30 : ρ (.tmp 30) = .bool true := r30
      clear r30
      refine ⟨30, rfl, .inl ⟨e30, ?_⟩⟩
      exact soft_call2 hf e31 e32 (HP.out W (hA2d.below hb)) rfl (by kernel_rfl) made_own
    case s5 =>
      intro ρ W hb hc hf hr
      obtain ⟨r33, r30, -⟩ := hr
      have e30 : ρ (.tmp 30) = .bool true := r30
      clear r30
      refine ⟨30, rfl, .inl ⟨e30, ?_⟩⟩
      exact soft_own r33 rfl
    case s6 =>
      intro ρ W hb hc hf hr
      obtain ⟨r1, r30, -⟩ := hr
      have e1 : ρ (.tmp 1) = .slice A bs.length cap := r1
      clear r1
      have e30 : ρ (.tmp 30) = .bool true := r30
      clear r30
      refine ⟨30, rfl, .inl ⟨e30, ?_⟩⟩
      exact ⟨e1, Below.refl _ _⟩
    case s7 =>
      intro ρ W hb hc hf hr
      obtain ⟨r0, r30, -⟩ := hr
      have e0 : ρ (.tmp 0) = .int .i64 n := r0
      clear r0
      have e30 : ρ (.tmp 30) = .bool true := r30
      clear r30
      refine ⟨30, rfl, .inl ⟨e30, ?_⟩⟩
      exact ⟨e0, Below.refl _ _⟩
    case s8 =>
      intro ρ W hb hc hf hr
      obtain ⟨r35, r36, r30, -⟩ := hr
      have e35 : ρ (.tmp 35) = .slice A bs.length cap := r35
      clear r35
      have e36 : ρ (.tmp 36) = .int .i64 n := r36
      clear r36
      have e30 : ρ (.tmp 30) = .bool true := r30
      clear r30
      refine ⟨30, rfl, .inl ⟨e30, ?_⟩⟩
      exact soft_call2 hf e35 e36 (HR.out W (hA2d.below hb)) rfl (by kernel_rfl) made_own
    case s9 =>
      intro ρ W hb hc hf hr
      obtain ⟨r37, r30, -⟩ := hr
      have e30 : ρ (.tmp 30) = .bool true := r30
      clear r30
      refine ⟨30, rfl, .inl ⟨e30, ?_⟩⟩
      exact soft_own r37 rfl
    case s10 =>
      intro ρ W hb hc hf hr
      obtain ⟨r34, r38, r30, -⟩ := hr
      have e34 : ρ (.tmp 34) = .string (str T) := r34
      clear r34
      have e38 : ρ (.tmp 38) = .string (str T) := r38
      clear r38
      have e30 : ρ (.tmp 30) = .bool true := r30
      clear r30
      refine ⟨30, rfl, .inl ⟨e30, ?_⟩⟩
      simp [execOp, e34, e38, go_sem, softUpon, Fact.is, Below.refl]
    case s11 =>
      intro ρ W hb hc hf hr
      obtain ⟨r30, r39, -⟩ := hr
      have e30 : ρ (.tmp 30) = .bool true := r30
      clear r30
      have e39 : ρ (.tmp 39) = .bool true := r39
      clear r39
      refine under_none rfl ?_
      simp [execOp, e30, e39, hc, go_sem, softUpon, Fact.is, Below.refl]
    case s12 =>
      intro ρ W hb hc hf hr
      obtain ⟨r40, -⟩ := hr
      have e40 : ρ (.tmp 40) = .bool true := r40
      clear r40
      refine under_none rfl ?_
      exact ⟨e40, Below.refl _ _⟩
    case s13 =>
      intro ρ W hb hc hf hr
      obtain ⟨r0, r41, -⟩ := hr
      have e0 : ρ (.tmp 0) = .int .i64 n := r0
      clear r0
      have e41 : ρ (.tmp 41) = .bool true := r41
      clear r41
      refine ⟨41, rfl, .inl ⟨e41, ?_⟩⟩
      exact ⟨e0, Below.refl _ _⟩
    case s14 =>
      intro ρ W hb hc hf hr
      obtain ⟨r42, r41, -⟩ := hr
      have e42 : ρ (.tmp 42) = .int .i64 n := r42
      clear r42
      have e41 : ρ (.tmp 41) = .bool true := r41
      clear r41
      refine ⟨41, rfl, .inl ⟨e41, ?_⟩⟩
      exact soft_call1 hf e42 (HZ.out W) rfl (by kernel_rfl) same_is
    case s15 =>
      intro ρ W hb hc hf hr
      obtain ⟨r0, r41, -⟩ := hr
      have e0 : ρ (.tmp 0) = .int .i64 n := r0
      clear r0
      have e41 : ρ (.tmp 41) = .bool true := r41
      clear r41
      refine ⟨41, rfl, .inl ⟨e41, ?_⟩⟩
      exact ⟨e0, Below.refl _ _⟩
    case s16 =>
      intro ρ W hb hc hf hr
      obtain ⟨r44, r41, -⟩ := hr
      have e44 : ρ (.tmp 44) = .int .i64 n := r44
      clear r44
      have e41 : ρ (.tmp 41) = .bool true := r41
      clear r41
      refine ⟨41, rfl, .inl ⟨e41, ?_⟩⟩
      exact soft_call1 hf e44 (HY.out W) rfl (by kernel_rfl) same_is
    case s17 =>
      intro ρ W hb hc hf hr
      obtain ⟨r43, r45, r41, -⟩ := hr
      have e43 : ρ (.tmp 43) = .int .i64 Z := r43
      clear r43
      have e45 : ρ (.tmp 45) = .int .i64 Z := r45
      clear r45
      have e41 : ρ (.tmp 41) = .bool true := r41
      clear r41
      refine ⟨41, rfl, .inl ⟨e41, ?_⟩⟩
      simp [execOp, e43, e45, go_sem, softUpon, Fact.is, Below.refl]
    case s18 =>
      intro ρ W hb hc hf hr
      obtain ⟨r41, r46, -⟩ := hr
      have e41 : ρ (.tmp 41) = .bool true := r41
      clear r41
      have e46 : ρ (.tmp 46) = .bool true := r46
      clear r46
      refine under_none rfl ?_
      simp [execOp, e41, e46, hc, go_sem, softUpon, Fact.is, Below.refl]
    case s19 =>
      intro ρ W hb hc hf hr
      obtain ⟨r47, -⟩ := hr
      have e47 : ρ (.tmp 47) = .bool true := r47
      clear r47
      refine under_none rfl ?_
      exact ⟨e47, Below.refl _ _⟩
    case s20 =>
      intro ρ W hb hc hf hr
      obtain ⟨r6, r48, -⟩ := hr
      have e6 : ρ (.tmp 6) = .int .i64 x := r6
      clear r6
      have e48 : ρ (.tmp 48) = .bool true := r48
      clear r48
      refine ⟨48, rfl, .inl ⟨e48, ?_⟩⟩
      exact ⟨e6, Below.refl _ _⟩
    case s21 =>
      intro ρ W hb hc hf hr
      obtain ⟨r9, r48, -⟩ := hr
      have e9 : ρ (.tmp 9) = .int .i64 x := r9
      clear r9
      have e48 : ρ (.tmp 48) = .bool true := r48
      clear r48
      refine ⟨48, rfl, .inl ⟨e48, ?_⟩⟩
      exact ⟨e9, Below.refl _ _⟩
    case s22 =>
      intro ρ W hb hc hf hr
      obtain ⟨r49, r50, r48, -⟩ := hr
      have e49 : ρ (.tmp 49) = .int .i64 x := r49
      clear r49
      have e50 : ρ (.tmp 50) = .int .i64 x := r50
      clear r50
      have e48 : ρ (.tmp 48) = .bool true := r48
      clear r48
      refine ⟨48, rfl, .inl ⟨e48, ?_⟩⟩
      simp [execOp, e49, e50, go_sem, softUpon, Fact.is, Below.refl]
    case s23 =>
      intro ρ W hb hc hf hr
      obtain ⟨r48, r51, -⟩ := hr
      have e48 : ρ (.tmp 48) = .bool true := r48
      clear r48
      have e51 : ρ (.tmp 51) = .bool true := r51
      clear r51
      refine under_none rfl ?_
      simp [execOp, e48, e51, hc, go_sem, softUpon, Fact.is, Below.refl]
    case s24 =>
      intro ρ W hb hc hf hr
      obtain ⟨r52, -⟩ := hr
      have e52 : ρ (.tmp 52) = .bool true := r52
      clear r52
      refine under_none rfl ?_
      exact ⟨e52, Below.refl _ _⟩
    case s25 =>
      intro ρ W hb hc hf hr
      obtain ⟨r7, r53, -⟩ := hr
      have e7 : ρ (.tmp 7) = .int .i64 y := r7
      clear r7
      have e53 : ρ (.tmp 53) = .bool true := r53
      clear r53
      refine ⟨53, rfl, .inl ⟨e53, ?_⟩⟩
      exact ⟨e7, Below.refl _ _⟩
    case s26 =>
      intro ρ W hb hc hf hr
      obtain ⟨r10, r53, -⟩ := hr
      have e10 : ρ (.tmp 10) = .int .i64 y := r10
      clear r10
      have e53 : ρ (.tmp 53) = .bool true := r53
      clear r53
      refine ⟨53, rfl, .inl ⟨e53, ?_⟩⟩
      exact ⟨e10, Below.refl _ _⟩
    case s27 =>
      intro ρ W hb hc hf hr
      obtain ⟨r54, r55, r53, -⟩ := hr
      have e54 : ρ (.tmp 54) = .int .i64 y := r54
      clear r54
      have e55 : ρ (.tmp 55) = .int .i64 y := r55
      clear r55
      have e53 : ρ (.tmp 53) = .bool true := r53
      clear r53
      refine ⟨53, rfl, .inl ⟨e53, ?_⟩⟩
      simp [execOp, e54, e55, go_sem, softUpon, Fact.is, Below.refl]
    case s28 =>
      intro ρ W hb hc hf hr
      obtain ⟨r53, r56, -⟩ := hr
      have e53 : ρ (.tmp 53) = .bool true := r53
      clear r53
      have e56 : ρ (.tmp 56) = .bool true := r56
      clear r56
      refine under_none rfl ?_
      simp [execOp, e53, e56, hc, go_sem, softUpon, Fact.is, Below.refl]
    case s29 =>
      intro ρ W hb hc hf hr
      obtain ⟨r57, -⟩ := hr
      have e57 : ρ (.tmp 57) = .bool true := r57
      clear r57
      refine under_none rfl ?_
      exact ⟨e57, Below.refl _ _⟩
    case s30 =>
      intro ρ W hb hc hf hr
      obtain ⟨r8, r58, -⟩ := hr
      have e8 : ρ (.tmp 8) = .int .i64 z := r8
      clear r8
      have e58 : ρ (.tmp 58) = .bool true := r58
      clear r58
      refine ⟨58, rfl, .inl ⟨e58, ?_⟩⟩
      exact ⟨e8, Below.refl _ _⟩
    case s31 =>
      intro ρ W hb hc hf hr
      obtain ⟨r11, r58, -⟩ := hr
      have e11 : ρ (.tmp 11) = .int .i64 z := r11
      clear r11
      have e58 : ρ (.tmp 58) = .bool true := r58
      clear r58
      refine ⟨58, rfl, .inl ⟨e58, ?_⟩⟩
      exact ⟨e11, Below.refl _ _⟩
    case s32 =>
      intro ρ W hb hc hf hr
      obtain ⟨r59, r60, r58, -⟩ := hr
      have e59 : ρ (.tmp 59) = .int .i64 z := r59
      clear r59
      have e60 : ρ (.tmp 60) = .int .i64 z := r60
      clear r60
      have e58 : ρ (.tmp 58) = .bool true := r58
      clear r58
      refine ⟨58, rfl, .inl ⟨e58, ?_⟩⟩
      simp [execOp, e59, e60, go_sem, softUpon, Fact.is, Below.refl]
    case s33 =>
      intro ρ W hb hc hf hr
      obtain ⟨r58, r61, -⟩ := hr
      have e58 : ρ (.tmp 58) = .bool true := r58
      clear r58
      have e61 : ρ (.tmp 61) = .bool true := r61
      clear r61
      refine under_none rfl ?_
      simp [execOp, e58, e61, hc, go_sem, softUpon, Fact.is, Below.refl]
    case s34 =>
      intro ρ W hb hc hf hr
      obtain ⟨r62, -⟩ := hr
      have e62 : ρ (.tmp 62) = .bool true := r62
      clear r62
      refine under_none rfl ?_
      exact ⟨e62, Below.refl _ _⟩
    case fin =>
      intro a w' hb hd hk
      have h4 : a.tmps.getD 4 undef = .bool true := hk 4
      clear hk
      go_wp2
      refine bodyPost_ret (results_tmp rfl _ _ _) hd ?_
      exact ⟨by rw [h4], hbd.trans (hb.mono hbd.size)⟩

set_option maxRecDepth 100000 in
theorem lifted (os : Os) (started : os.Started) (H : Type) (enc : TypeId × Value → H) :
    ReturnsInHanded {} Try.checked os 3 .any (Rows.vintTellsSpec.pre6 enc Try.prog Try.f3 Rows.vintTellsRow.domain false) (Rows.vintTellsSpec.post enc Try.prog Try.f3 false true false false) := by
  refine returnsInHanded_of_change (C := Try.checked) own started (by kernel_rfl) Try.func3
    (ChangeSpec.witness6 (enc := enc) (C := Try.checked) false ⟨#[], #[.int .i64 0, .slice none 0 0], []⟩ 8 (by kernel_rfl) (by kernel_rfl) (by kernel_rfl) (by kernel_rfl)) ?_
  intro W base args ds gs before hval0 hW hcnd _
  have hval : ∀ (j : Nat) t v, Try.f3.params[j]? = some t → args[j]? = some v → Value.okWide Try.prog W .any base t v := hval0
  have hfin := fun W' => law_post (enc := enc) (P := Try.prog) (f := Try.f3) (s := Rows.vintTellsSpec) (tb := 4) (W := W) (W' := W') (args := args) (ds := ds) (gs := gs) (before := before) laidOut rfl (by kernel_rfl) Try.underlying4 (by kernel_rfl) (fun xs h => by rw [Try.params3] at h; match xs, h with | [_, _], _ => rfl) hW
  have hlt : ∀ x ∈ before, x.block < W.heap.size := fun x hx => hW.lt x hx
  obtain ⟨p, q, hA0, hV, rfl, hfz, hnd⟩ := hW
  have hA : DataW.TrodAll enc Try.prog W 0 (fun _ => true) true Try.f3.params.toList args.toList ds p := hA0
  rw [Try.params3] at hA hval
  obtain ⟨v0, vs0, d0, ds0, p0, q0, hargs, rfl, rfl, h0, r0⟩ := trodAll_cons hA
  obtain ⟨v1, vs1, d1, ds1, p1, q1, rfl, rfl, rfl, h1, r1⟩ := trodAll_cons r0
  obtain ⟨rfl, rfl, rfl⟩ := trodAll_nil r1
  obtain rfl : args = #[v0, v1] := by cases args; simp_all
  obtain ⟨a0, rfl, rfl, rfl, w0⟩ := open_int Try.underlying2 (hval 0 2 v0 rfl rfl) h0
  obtain ⟨A1, cap1, b1, rfl, hl1, hm1, hB1⟩ := open_bytes (hval 1 22 v1 rfl rfl) h1 (fun x hx => hlt x (by simp [hx]))
  refine (walk W a0 (bounds_i64 w0) A1 cap1 b1 hl1 hm1 hB1).mono fun e W' ⟨he, hg⟩ => ?_
  subst he
  exact ⟨_, rfl, hfin W' hg⟩

theorem proved : Rows.VintTellsSaid :=
  OpenClaim.holds_of_wide 3 Try.f3 rfl rfl rfl rfl rfl rfl rfl ⟨rfl, rfl, rfl, rfl, rfl⟩ rfl rfl rfl rfl rfl (by kernel_rfl) Try.func3 (by kernel_rfl)
    (of_decide_eq_true (by kernel_rfl)) (by unfold Func.isWrapper; first | (rw [if_pos (by decide +kernel)]; kernel_rfl) | (rw [if_neg (by decide +kernel)]; exact ⟨rfl, rfl⟩))
    (fun os started H enc _ => lifted os started H enc)
#print axioms proved
end Go.Proofs.Ytldophaccbakoaa.vintTells
