/-
  P1.1, VintTexts: for every text and all bytes the law returns true: its bytes, and the text that any bytes begin with, are the document's. No condition.
-/
import Derived.Test.YtldophaccbakoaaHead1
import Derived.Test.YtldophaccbakoaaClose
import Derived.Test.YtldophaccbakoaaR1T
import Derived.Test.YtldophaccbakoaaSoftV
namespace Go.Proofs.Ytldophaccbakoaa.vintTexts
open Go.ChangeShapes Go.WideShapes Go.ChangeAt Go.RowKit

set_option maxHeartbeats 1000000 in
set_option maxRecDepth 100000 in
theorem walk (w : World) (s : List UInt8) (hs : s.length ≤ maxLen) (A : Option Addr) (cap : Nat) (bs : List UInt8) (hl : bs.length ≤ cap) (hm : cap ≤ maxLen) (hA : Lies w A (cells bs)) :
    Calls Try.prog 4 #[.string (str s), .slice A bs.length cap] w fun e w' => e = .returned (.bool true) ∧ Below w.heap.size w w' := by
  have HS := Lib.hid hs
  have HM := Lib.hid hm
  have hsl := str_size s
  unfold maxLen at hm hs
  by_cases h9 : 9000 < bs.length
  · generalize str s = S at *
    go_enter Try.func4, Try.ntmps4
    go_wp2_with fail
    refine (head_any _).mono ?_
    rintro e w1 ⟨rfl, hb1⟩
    go_wp2
    go_ret
    exact ⟨rfl, hb1⟩
  · by_cases h9s : 9000 < s.length
    · generalize str s = S at *
      generalize s.length = L at *
      subst hsl
      go_enter Try.func4, Try.ntmps4
      go_wp2_with fail
      refine (head_any _).mono ?_
      rintro e w1 ⟨rfl, hb1⟩
      go_wp2
      go_ret
      exact ⟨rfl, hb1⟩
    · have HP := Lib.hid (fun W (h : Lies W A (cells bs)) => putText_any A cap bs s W (by omega) h HS.out)
      have HR := Lib.hid (fun W (h : Lies W A (cells bs)) => rputText_any A cap bs s W (by omega) h HS.out)
      have HG := Lib.hid (fun W (h : Lies W A (cells bs)) => getText_is A bs.length cap bs W _ _ _ rfl hl HM.out h rfl rfl rfl)
      have HQ := Lib.hid (fun W (h : Lies W A (cells bs)) => rtext_is A bs.length cap bs W _ _ _ rfl hl HM.out h rfl rfl rfl)
      have d9 : decide ((9000 : Int) < (s.length : Int)) = false := by simp; omega
      generalize bs ++ Plain.putText s = T at *
      generalize str (Plain.getText bs).1 = x at *
      generalize ((Plain.getText bs).2.1 : Int) = y at *
      generalize ((Plain.getText bs).2.2 : Int) = z at *
      generalize str s = S at *
      generalize s.length = L at *
      subst hsl
      go_enter Try.func4, Try.ntmps4
      go_wp2_with fail
      refine (head_any _).mono ?_
      rintro e w1 ⟨rfl, hb1⟩
      have hA1 := hA.below hb1
      go_wp2_with fail
      refine (HG.out _ hA1).mono ?_
      rintro e w2 ⟨rfl, hb2⟩
      have hA2 := hA1.below hb2
      go_wp2_with fail
      refine (HQ.out _ hA2).mono ?_
      rintro e w' ⟨rfl, rfl⟩
      have hA2d : Lies w2.drew A (cells bs) := hA2.drew1
      have hbd : Below w.heap.size w w2.drew := (hb1.trans (hb2.mono hb1.size)).drew
      clear hA hA1 hA2 hb1 hb2 HG HQ
      go_wp2
      refine wp_soft (by kernel_rfl) 61 [(34, [5]), (35, [34]), (36, [1, 35]), (37, [0, 35]), (38, [36, 37, 35]), (39, [38, 35]), (40, [1, 35]), (41, [0, 35]), (42, [40, 41, 35]), (43, [42, 35]), (44, [39, 43, 35]), (45, [35, 44]), (46, [45]), (47, [6, 46]), (48, [9, 46]), (49, [47, 48, 46]), (50, [46, 49]), (51, [50]), (52, [7, 51]), (53, [10, 51]), (54, [52, 53, 51]), (55, [51, 54]), (56, [55]), (57, [8, 56]), (58, [11, 56]), (59, [57, 58, 56]), (60, [56, 59]), (4, [60])]
        [Fact.is (.bool true), Fact.is (.bool true), Fact.is (.slice A bs.length cap), Fact.is (.string S), Fact.own T, Fact.is (.string (str T)), Fact.is (.slice A bs.length cap), Fact.is (.string S), Fact.own T, Fact.is (.string (str T)), Fact.is (.bool true), Fact.is (.bool true), Fact.is (.bool true), Fact.is (.string x), Fact.is (.string x), Fact.is (.bool true), Fact.is (.bool true), Fact.is (.bool true), Fact.is (.int .i64 y), Fact.is (.int .i64 y), Fact.is (.bool true), Fact.is (.bool true), Fact.is (.bool true), Fact.is (.int .i64 z), Fact.is (.int .i64 z), Fact.is (.bool true), Fact.is (.bool true), Fact.is (.bool true)]
        (by kernel_rfl) rfl rfl ⟨?s0, ?s1, ?s2, ?s3, ?s4, ?s5, ?s6, ?s7, ?s8, ?s9, ?s10, ?s11, ?s12, ?s13, ?s14, ?s15, ?s16, ?s17, ?s18, ?s19, ?s20, ?s21, ?s22, ?s23, ?s24, ?s25, ?s26, ?s27, trivial⟩ ?fin
      case s0 =>
        intro ρ W hb hc hf hr
        obtain ⟨r5, -⟩ := hr
        have e5 : ρ (.tmp 5) = .bool true := r5
        clear r5
        refine under_none rfl ?_
        exact ⟨e5, Below.refl _ _⟩
      case s1 =>
        intro ρ W hb hc hf hr
        obtain ⟨r34, -⟩ := hr
        have e34 : ρ (.tmp 34) = .bool true := r34
        clear r34
        refine under_none rfl ?_
        exact ⟨e34, Below.refl _ _⟩
      case s2 =>
        intro ρ W hb hc hf hr
        obtain ⟨r1, r35, -⟩ := hr
        have e1 : ρ (.tmp 1) = .slice A bs.length cap := r1
        clear r1
        have e35 : ρ (.tmp 35) = .bool true := r35
        clear r35
        refine ⟨35, rfl, .inl ⟨e35, ?_⟩⟩
        exact ⟨e1, Below.refl _ _⟩
      case s3 =>
        intro ρ W hb hc hf hr
        obtain ⟨r0, r35, -⟩ := hr
        have e0 : ρ (.tmp 0) = .string S := r0
        clear r0
        have e35 : ρ (.tmp 35) = .bool true := r35
        clear r35
        refine ⟨35, rfl, .inl ⟨e35, ?_⟩⟩
        exact ⟨e0, Below.refl _ _⟩
      case s4 =>
        intro ρ W hb hc hf hr
        obtain ⟨r36, r37, r35, -⟩ := hr
        have e36 : ρ (.tmp 36) = .slice A bs.length cap := r36
        clear r36
        have e37 : ρ (.tmp 37) = .string S := r37
        clear r37
        have e35 : ρ (.tmp 35) = .bool true := r35
        clear r35
        refine ⟨35, rfl, .inl ⟨e35, ?_⟩⟩
        exact soft_call2 hf e36 e37 (HP.out W (hA2d.below hb)) rfl (by kernel_rfl) made_own
      case s5 =>
        intro ρ W hb hc hf hr
        obtain ⟨r38, r35, -⟩ := hr
        have e35 : ρ (.tmp 35) = .bool true := r35
        clear r35
        refine ⟨35, rfl, .inl ⟨e35, ?_⟩⟩
        exact soft_own r38 rfl
      case s6 =>
        intro ρ W hb hc hf hr
        obtain ⟨r1, r35, -⟩ := hr
        have e1 : ρ (.tmp 1) = .slice A bs.length cap := r1
        clear r1
        have e35 : ρ (.tmp 35) = .bool true := r35
        clear r35
        refine ⟨35, rfl, .inl ⟨e35, ?_⟩⟩
        exact ⟨e1, Below.refl _ _⟩
      case s7 =>
        intro ρ W hb hc hf hr
        obtain ⟨r0, r35, -⟩ := hr
        have e0 : ρ (.tmp 0) = .string S := r0
        clear r0
        have e35 : ρ (.tmp 35) = .bool true := r35
        clear r35
        refine ⟨35, rfl, .inl ⟨e35, ?_⟩⟩
        exact ⟨e0, Below.refl _ _⟩
      case s8 =>
        intro ρ W hb hc hf hr
        obtain ⟨r40, r41, r35, -⟩ := hr
        have e40 : ρ (.tmp 40) = .slice A bs.length cap := r40
        clear r40
        have e41 : ρ (.tmp 41) = .string S := r41
        clear r41
        have e35 : ρ (.tmp 35) = .bool true := r35
        clear r35
        refine ⟨35, rfl, .inl ⟨e35, ?_⟩⟩
        exact soft_call2 hf e40 e41 (HR.out W (hA2d.below hb)) rfl (by kernel_rfl) made_own
      case s9 =>
        intro ρ W hb hc hf hr
        obtain ⟨r42, r35, -⟩ := hr
        have e35 : ρ (.tmp 35) = .bool true := r35
        clear r35
        refine ⟨35, rfl, .inl ⟨e35, ?_⟩⟩
        exact soft_own r42 rfl
      case s10 =>
        intro ρ W hb hc hf hr
        obtain ⟨r39, r43, r35, -⟩ := hr
        have e39 : ρ (.tmp 39) = .string (str T) := r39
        clear r39
        have e43 : ρ (.tmp 43) = .string (str T) := r43
        clear r43
        have e35 : ρ (.tmp 35) = .bool true := r35
        clear r35
        refine ⟨35, rfl, .inl ⟨e35, ?_⟩⟩
        simp [execOp, e39, e43, go_sem, softUpon, Fact.is, Below.refl]
      case s11 =>
        intro ρ W hb hc hf hr
        obtain ⟨r35, r44, -⟩ := hr
        have e35 : ρ (.tmp 35) = .bool true := r35
        clear r35
        have e44 : ρ (.tmp 44) = .bool true := r44
        clear r44
        refine under_none rfl ?_
        simp [execOp, e35, e44, hc, go_sem, softUpon, Fact.is, Below.refl]
      case s12 =>
        intro ρ W hb hc hf hr
        obtain ⟨r45, -⟩ := hr
        have e45 : ρ (.tmp 45) = .bool true := r45
        clear r45
        refine under_none rfl ?_
        exact ⟨e45, Below.refl _ _⟩
      case s13 =>
        intro ρ W hb hc hf hr
        obtain ⟨r6, r46, -⟩ := hr
        have e6 : ρ (.tmp 6) = .string x := r6
        clear r6
        have e46 : ρ (.tmp 46) = .bool true := r46
        clear r46
        refine ⟨46, rfl, .inl ⟨e46, ?_⟩⟩
        exact ⟨e6, Below.refl _ _⟩
      case s14 =>
        intro ρ W hb hc hf hr
        obtain ⟨r9, r46, -⟩ := hr
        have e9 : ρ (.tmp 9) = .string x := r9
        clear r9
        have e46 : ρ (.tmp 46) = .bool true := r46
        clear r46
        refine ⟨46, rfl, .inl ⟨e46, ?_⟩⟩
        exact ⟨e9, Below.refl _ _⟩
      case s15 =>
        intro ρ W hb hc hf hr
        obtain ⟨r47, r48, r46, -⟩ := hr
        have e47 : ρ (.tmp 47) = .string x := r47
        clear r47
        have e48 : ρ (.tmp 48) = .string x := r48
        clear r48
        have e46 : ρ (.tmp 46) = .bool true := r46
        clear r46
        refine ⟨46, rfl, .inl ⟨e46, ?_⟩⟩
        simp [execOp, e47, e48, go_sem, softUpon, Fact.is, Below.refl]
      case s16 =>
        intro ρ W hb hc hf hr
        obtain ⟨r46, r49, -⟩ := hr
        have e46 : ρ (.tmp 46) = .bool true := r46
        clear r46
        have e49 : ρ (.tmp 49) = .bool true := r49
        clear r49
        refine under_none rfl ?_
        simp [execOp, e46, e49, hc, go_sem, softUpon, Fact.is, Below.refl]
      case s17 =>
        intro ρ W hb hc hf hr
        obtain ⟨r50, -⟩ := hr
        have e50 : ρ (.tmp 50) = .bool true := r50
        clear r50
        refine under_none rfl ?_
        exact ⟨e50, Below.refl _ _⟩
      case s18 =>
        intro ρ W hb hc hf hr
        obtain ⟨r7, r51, -⟩ := hr
        have e7 : ρ (.tmp 7) = .int .i64 y := r7
        clear r7
        have e51 : ρ (.tmp 51) = .bool true := r51
        clear r51
        refine ⟨51, rfl, .inl ⟨e51, ?_⟩⟩
        exact ⟨e7, Below.refl _ _⟩
      case s19 =>
        intro ρ W hb hc hf hr
        obtain ⟨r10, r51, -⟩ := hr
        have e10 : ρ (.tmp 10) = .int .i64 y := r10
        clear r10
        have e51 : ρ (.tmp 51) = .bool true := r51
        clear r51
        refine ⟨51, rfl, .inl ⟨e51, ?_⟩⟩
        exact ⟨e10, Below.refl _ _⟩
      case s20 =>
        intro ρ W hb hc hf hr
        obtain ⟨r52, r53, r51, -⟩ := hr
        have e52 : ρ (.tmp 52) = .int .i64 y := r52
        clear r52
        have e53 : ρ (.tmp 53) = .int .i64 y := r53
        clear r53
        have e51 : ρ (.tmp 51) = .bool true := r51
        clear r51
        refine ⟨51, rfl, .inl ⟨e51, ?_⟩⟩
        simp [execOp, e52, e53, go_sem, softUpon, Fact.is, Below.refl]
      case s21 =>
        intro ρ W hb hc hf hr
        obtain ⟨r51, r54, -⟩ := hr
        have e51 : ρ (.tmp 51) = .bool true := r51
        clear r51
        have e54 : ρ (.tmp 54) = .bool true := r54
        clear r54
        refine under_none rfl ?_
        simp [execOp, e51, e54, hc, go_sem, softUpon, Fact.is, Below.refl]
      case s22 =>
        intro ρ W hb hc hf hr
        obtain ⟨r55, -⟩ := hr
        have e55 : ρ (.tmp 55) = .bool true := r55
        clear r55
        refine under_none rfl ?_
        exact ⟨e55, Below.refl _ _⟩
      case s23 =>
        intro ρ W hb hc hf hr
        obtain ⟨r8, r56, -⟩ := hr
        have e8 : ρ (.tmp 8) = .int .i64 z := r8
        clear r8
        have e56 : ρ (.tmp 56) = .bool true := r56
        clear r56
        refine ⟨56, rfl, .inl ⟨e56, ?_⟩⟩
        exact ⟨e8, Below.refl _ _⟩
      case s24 =>
        intro ρ W hb hc hf hr
        obtain ⟨r11, r56, -⟩ := hr
        have e11 : ρ (.tmp 11) = .int .i64 z := r11
        clear r11
        have e56 : ρ (.tmp 56) = .bool true := r56
        clear r56
        refine ⟨56, rfl, .inl ⟨e56, ?_⟩⟩
        exact ⟨e11, Below.refl _ _⟩
      case s25 =>
        intro ρ W hb hc hf hr
        obtain ⟨r57, r58, r56, -⟩ := hr
        have e57 : ρ (.tmp 57) = .int .i64 z := r57
        clear r57
        have e58 : ρ (.tmp 58) = .int .i64 z := r58
        clear r58
        have e56 : ρ (.tmp 56) = .bool true := r56
        clear r56
        refine ⟨56, rfl, .inl ⟨e56, ?_⟩⟩
        simp [execOp, e57, e58, go_sem, softUpon, Fact.is, Below.refl]
      case s26 =>
        intro ρ W hb hc hf hr
        obtain ⟨r56, r59, -⟩ := hr
        have e56 : ρ (.tmp 56) = .bool true := r56
        clear r56
        have e59 : ρ (.tmp 59) = .bool true := r59
        clear r59
        refine under_none rfl ?_
        simp [execOp, e56, e59, hc, go_sem, softUpon, Fact.is, Below.refl]
      case s27 =>
        intro ρ W hb hc hf hr
        obtain ⟨r60, -⟩ := hr
        have e60 : ρ (.tmp 60) = .bool true := r60
        clear r60
        refine under_none rfl ?_
        exact ⟨e60, Below.refl _ _⟩
      case fin =>
        intro a w' hb hd hk
        have h4 : a.tmps.getD 4 undef = .bool true := hk 4
        clear hk
        go_wp2
        refine bodyPost_ret (results_tmp rfl _ _ _) hd ?_
        exact ⟨by rw [h4], hbd.trans (hb.mono hbd.size)⟩

set_option maxRecDepth 100000 in
theorem lifted (os : Os) (started : os.Started) (H : Type) (enc : TypeId × Value → H) :
    ReturnsInHanded {} Try.checked os 4 .any (Rows.vintTextsSpec.pre6 enc Try.prog Try.f4 Rows.vintTextsRow.domain false) (Rows.vintTextsSpec.post enc Try.prog Try.f4 false true false false) := by
  refine returnsInHanded_of_change (C := Try.checked) own started (by kernel_rfl) Try.func4
    (ChangeSpec.witness6 (enc := enc) (C := Try.checked) false ⟨#[], #[.string .empty, .slice none 0 0], []⟩ 8 (by kernel_rfl) (by kernel_rfl) (by kernel_rfl) (by kernel_rfl)) ?_
  intro W base args ds gs before hval0 hW hcnd _
  have hval : ∀ (j : Nat) t v, Try.f4.params[j]? = some t → args[j]? = some v → Value.okWide Try.prog W .any base t v := hval0
  have hfin := fun W' => law_post (enc := enc) (P := Try.prog) (f := Try.f4) (s := Rows.vintTextsSpec) (tb := 4) (W := W) (W' := W') (args := args) (ds := ds) (gs := gs) (before := before) laidOut rfl (by kernel_rfl) Try.underlying4 (by kernel_rfl) (fun xs h => by rw [Try.params4] at h; match xs, h with | [_, _], _ => rfl) hW
  have hlt : ∀ x ∈ before, x.block < W.heap.size := fun x hx => hW.lt x hx
  obtain ⟨p, q, hA0, hV, rfl, hfz, hnd⟩ := hW
  have hA : DataW.TrodAll enc Try.prog W 0 (fun _ => true) true Try.f4.params.toList args.toList ds p := hA0
  rw [Try.params4] at hA hval
  obtain ⟨v0, vs0, d0, ds0, p0, q0, hargs, rfl, rfl, h0, r0⟩ := trodAll_cons hA
  obtain ⟨v1, vs1, d1, ds1, p1, q1, rfl, rfl, rfl, h1, r1⟩ := trodAll_cons r0
  obtain ⟨rfl, rfl, rfl⟩ := trodAll_nil r1
  obtain rfl : args = #[v0, v1] := by cases args; simp_all
  obtain ⟨s0, rfl, hs0⟩ := open_text (hval 0 9 v0 rfl rfl) h0
  obtain ⟨A1, cap1, b1, rfl, hl1, hm1, hB1⟩ := open_bytes (hval 1 22 v1 rfl rfl) h1 (fun x hx => hlt x (by simp [hx]))
  refine (walk W s0 hs0 A1 cap1 b1 hl1 hm1 hB1).mono fun e W' ⟨he, hg⟩ => ?_
  subst he
  exact ⟨_, rfl, hfin W' hg⟩

theorem proved : Rows.VintTextsSaid :=
  OpenClaim.holds_of_wide 4 Try.f4 rfl rfl rfl rfl rfl rfl rfl ⟨rfl, rfl, rfl, rfl, rfl⟩ rfl rfl rfl rfl rfl (by kernel_rfl) Try.func4 (by kernel_rfl)
    (of_decide_eq_true (by kernel_rfl)) (by unfold Func.isWrapper; first | (rw [if_pos (by decide +kernel)]; kernel_rfl) | (rw [if_neg (by decide +kernel)]; exact ⟨rfl, rfl⟩))
    (fun os started H enc _ => lifted os started H enc)
#print axioms proved
end Go.Proofs.Ytldophaccbakoaa.vintTexts
