/-
  P4.2, BatchBack: for all spans and all bytes the law returns true: a batch is got of its bytes; what is got of any bytes is a batch that has them. No condition; what the row lists is tied to the program's text.
-/
import Derived.Test.YtimelckjbofhbaaDoorBatHd
namespace Go.Proofs.YtimelckjbofhbaaDoor.batchBack
open Go.ChangeShapes Go.WideShapes Go.ChangeAt Go.RowKit
set_option maxRecDepth 100000

theorem fine_of (l : List Plain.Sp) (h : Plain.isB l = true) : Fine l := fun x hx => by
  have := (Plain.Sp.right_iff x).1 (((Plain.isB_iff l).1 h).2 x hx)
  unfold maxLen
  omega

set_option maxHeartbeats 4000000 in
theorem second (w : World) (hT : Handle w ∧ Tab w) (B : Option Addr) (nb capb : Nat) (b : List UInt8) (hnb : b.length = nb) (hlb : nb ≤ capb) (hmb : capb ≤ maxLen) (hB : Lies w B (cells b)) (h20 : nb ≤ 20000) :
    Calls Tryd.prog 11 #[.slice B nb capb] w fun e w' => ∃ (y : List Plain.Sp) (P C : Nat) (A5 : Option Addr) (cap5 : Nat), e = .returned (.tuple #[.slice A5 y.length cap5, .int .i64 P, .int .i64 C]) ∧ y.length ≤ cap5 ∧ cap5 ≤ maxLen ∧ Lies w' A5 (flat y) ∧ Below w.heap.size w w' ∧ ((C = 0 ∧ Fine y ∧ Plain.bput y = b ∧ y.length ≤ 256) ∨ (C ≠ 0 ∧ y = [])) := by
  refine (batchGet_any B nb capb b w hT.1 hT.2 hnb hlb hmb (by omega) hB).mono ?_
  rintro e w' ⟨v, rfl, A5, cap5, rfl, h1, h2, h3, h4⟩
  refine ⟨(Plain.bget b).1, _, _, A5, cap5, rfl, h1, h2, h3, h4, ?_⟩
  by_cases h : (Plain.bget b).2.2 = 0
  · obtain ⟨q1, q2⟩ := Plain.bget_back b h
    exact .inl ⟨h, fine_of _ q1, q2, ((Plain.isB_iff _).1 q1).1⟩
  · exact .inr ⟨h, Plain.bget_none b h⟩

set_option maxHeartbeats 8000000 in
theorem walk (w : World) (hT : Handle w ∧ Tab w) (A : Option Addr) (cap : Nat) (l : List Plain.Sp) (hl : l.length ≤ cap) (hm : cap ≤ maxLen) (hA : Lies w A (flat l)) (hS : ∀ x ∈ l, x.sv.length ≤ maxLen ∧ x.nm.length ≤ maxLen) (B : Option Addr) (capb : Nat) (b : List UInt8) (hlb : b.length ≤ capb) (hmb : capb ≤ maxLen) (hB : Lies w B (cells b)) :
    Calls Tryd.prog 5 #[.slice A l.length cap, .slice B b.length capb] w fun e w' => e = .returned (.bool true) ∧ Below w.heap.size w w' := by
  have HA := Lib.hid hA
  have HB := Lib.hid hB
  have HT := Lib.hid hT
  have HS := Lib.hid (show Fine l from hS)
  obtain ⟨n, hn⟩ : ∃ n, l.length = n := ⟨_, rfl⟩
  rw [hn] at hl ⊢
  have HN := Lib.hid hn
  have HM := Lib.hid hm
  obtain ⟨nb, hnb⟩ : ∃ nb, b.length = nb := ⟨_, rfl⟩
  rw [hnb] at hlb ⊢
  have HNB := Lib.hid hnb
  have HMB := Lib.hid hmb
  unfold maxLen at hm hmb
  clear hA hT hS hn hB hnb
  go_enter Tryd.func5, Tryd.ntmps5
  go_wp2_with fail
  refine (head_any w HT.out).mono ?_
  rintro e w1 ⟨rfl, c1⟩
  go_wp2_with fail
  refine (great_any A n cap l w1 HN.out hl HM.out (HA.out.below c1)).mono ?_
  rintro e w2 ⟨g, rfl, hg, d2⟩
  have c2 := c1.trans (d2.mono c1.size)
  rcases g with _ | _
  rotate_left
  · go_wp2
    go_ret
    exact ⟨rfl, c2⟩
  have h300 := hg rfl
  clear hg
  by_cases h20 : 20000 < nb
  · go_wp2
    go_ret
    exact ⟨rfl, c2⟩
  have hple := Plain.bput_le l
  have HPOS := Lib.hid (Plain.bput_pos l)
  have HGB := Lib.hid (Plain.bget_bput l)
  obtain ⟨T, hTT⟩ : ∃ T, Plain.bput l = T := ⟨_, rfl⟩
  have HP := Lib.hid (batchPut_any A n cap l w2 (HT.out.2.below c2 (Nat.le_refl _)) HN.out (Nat.le_trans hl HM.out) (HA.out.below c2) HS.out)
  rw [hTT] at HP hple HPOS HGB
  clear hTT
  go_wp2_with fail
  refine HP.out.mono ?_
  rintro e w3 ⟨v3, rfl, ho3, d3⟩
  obtain ⟨A3, cap3, rfl, hl3, hm3, -, hL3⟩ := own_form ho3
  have c3 := c2.trans (d3.mono c2.size)
  have HL3 := Lib.hid hL3
  clear ho3 hL3 HP
  obtain ⟨tl, htl⟩ : ∃ tl, T.length = tl := ⟨_, rfl⟩
  rw [htl] at hl3 hple HPOS HGB ⊢
  have HTL := Lib.hid htl
  clear htl
  by_cases ht0 : 0 < tl
  · have hB2 : Plain.isB l = true := HPOS.out.1 ht0
    have hgb := HGB.out hB2
    have HG := Lib.hid (batchGet_any A3 tl cap3 T w3 (HT.out.1.below HT.out.1.lt c3) (HT.out.2.below c3 (Nat.le_refl _)) HTL.out hl3 hm3 (by omega) HL3.out)
    rw [hgb] at HG
    clear hgb hB2 HPOS HGB
    go_wp2_with fail
    refine HG.out.mono ?_
    rintro e w4 ⟨v4, rfl, A4, cap4, rfl, hl4, hm4, hL4, d4⟩
    have c4 := c3.trans (d4.mono c3.size)
    have HL4 := Lib.hid hL4
    clear hL4
    simp only at hl4 HL4
    rw [HN.out] at hl4
    have HSM := Lib.hid (same_yes A4 A n cap4 cap l w4 HN.out hl4 hl hm4 HM.out HL4.out (HA.out.below c4))
    simp only [HN.out]
    go_wp2_with fail
    refine HSM.out.mono ?_
    rintro e w5 ⟨rfl, d5⟩
    have c5 := c4.trans (d5.mono c4.size)
    go_wp2_with fail
    refine (second w5 ⟨HT.out.1.below HT.out.1.lt c5, HT.out.2.below c5 (Nat.le_refl _)⟩ B nb capb b HNB.out hlb HMB.out (HB.out.below c5) (by omega)).mono ?_
    rintro e w6 ⟨y, P, C, A5, cap5, rfl, hl5, hm5, hL5, d6, hor⟩
    have c6 := c5.trans (d6.mono c5.size)
    have HL5 := Lib.hid hL5
    clear hL5
    have hbd : Below w6.heap.size w6 w6.drew := (Below.refl _ _).drew
    rcases hor with ⟨rfl, hfy, hby, hy256⟩ | ⟨hC0, rfl⟩
    · obtain ⟨m, hm0⟩ : ∃ m, y.length = m := ⟨_, rfl⟩
      have HP5 := Lib.hid (fun (W : World) (h : Below w6.heap.size w6 W) => batchPut_any A5 m cap5 y W (HT.out.2.below (c6.trans (h.mono c6.size)) (Nat.le_refl _)) hm0 (by unfold maxLen; omega) (HL5.out.below h) hfy)
      rw [hby] at HP5
      rw [hm0]
      have CV := Lib.hid (fun (W : World) (h : Below w6.heap.size w6 W) => show (convert 23 9 (.slice B nb capb)).run Tryd.prog W = .ok (.string (str b)) W by
        have := conv_str (P := Tryd.prog) (c := capb) (HB.out.below (c6.trans (h.mono c6.size))) 23 5 Tryd.underlying23 Tryd.underlying5 9 Tryd.underlying9
        rwa [HNB.out] at this)
      have EQT := Lib.hid (fun (W : World) => eq_same W b)
      clear hm0 hby hfy hy256 hl5
      go_wp2
      refine wp_soft (by kernel_rfl) 75 [(53, [5]), (54, [53]), (55, [12, 54]), (56, [55, 54]), (57, [56, 54]), (58, [10, 57]), (59, [58, 57]), (60, [59, 57]), (61, [57, 60, 54]), (62, [61, 54]), (63, [12, 62]), (64, [63, 62]), (65, [64, 62]), (66, [10, 65]), (67, [66, 65]), (68, [67, 65]), (69, [1, 65]), (70, [69, 65]), (71, [68, 70, 65]), (72, [65, 71, 62]), (73, [62, 72, 54]), (74, [54, 73]), (4, [74])]
        [Fact.is (.bool true), Fact.is (.bool true), Fact.is (.int .i64 0), Fact.is (.bool false), Fact.is (.bool false), Fact.is (undef), Fact.is (undef), Fact.is (undef), Fact.is (.bool false), Fact.is (.bool false), Fact.is (.int .i64 0), Fact.is (.bool true), Fact.is (.bool true), Fact.is (.slice A5 m cap5), Fact.own b, Fact.is (.string (str b)), Fact.is (.slice B nb capb), Fact.is (.string (str b)), Fact.is (.bool true), Fact.is (.bool true), Fact.is (.bool true), Fact.is (.bool true), Fact.is (.bool true)]
        (by kernel_rfl) rfl rfl ⟨?s0, ?s1, ?s2, ?s3, ?s4, ?s5, ?s6, ?s7, ?s8, ?s9, ?s10, ?s11, ?s12, ?s13, ?s14, ?s15, ?s16, ?s17, ?s18, ?s19, ?s20, ?s21, ?s22, trivial⟩ ?fin
      case s0 =>
        intro ρ W hb hc hf hr
        obtain ⟨r5, -⟩ := hr
        have e5 : ρ (.tmp 5) = .bool true := r5
        clear r5
        refine under_none rfl ?_
        exact ⟨e5, Below.refl _ _⟩
      case s1 =>
        intro ρ W hb hc hf hr
        obtain ⟨r53, -⟩ := hr
        have e53 : ρ (.tmp 53) = .bool true := r53
        clear r53
        refine under_none rfl ?_
        exact ⟨e53, Below.refl _ _⟩
      case s2 =>
        intro ρ W hb hc hf hr
        obtain ⟨r12, r54, -⟩ := hr
        have e12 : ρ (.tmp 12) = .int .i64 0 := r12
        clear r12
        have e54 : ρ (.tmp 54) = .bool true := r54
        clear r54
        refine ⟨54, rfl, .inl ⟨e54, ?_⟩⟩
        exact ⟨e12, Below.refl _ _⟩
      case s3 =>
        intro ρ W hb hc hf hr
        obtain ⟨r55, r54, -⟩ := hr
        have e55 : ρ (.tmp 55) = .int .i64 0 := r55
        clear r55
        have e54 : ρ (.tmp 54) = .bool true := r54
        clear r54
        refine ⟨54, rfl, .inl ⟨e54, ?_⟩⟩
        simp [execOp, e55, hc, go_sem, softUpon, Fact.is, Below.refl]
      case s4 =>
        intro ρ W hb hc hf hr
        obtain ⟨r56, r54, -⟩ := hr
        have e56 : ρ (.tmp 56) = .bool false := r56
        clear r56
        have e54 : ρ (.tmp 54) = .bool true := r54
        clear r54
        refine ⟨54, rfl, .inl ⟨e54, ?_⟩⟩
        exact ⟨e56, Below.refl _ _⟩
      case s5 =>
        intro ρ W hb hc hf hr
        obtain ⟨r10, r57, -⟩ := hr
        have e10 : ρ (.tmp 10) = .slice A5 m cap5 := r10
        clear r10
        have e57 : ρ (.tmp 57) = .bool false := r57
        clear r57
        exact ⟨57, rfl, .inr (.inl ⟨e57, rfl⟩)⟩
      case s6 =>
        intro ρ W hb hc hf hr
        obtain ⟨r58, r57, -⟩ := hr
        have e58 : ρ (.tmp 58) = undef := r58
        clear r58
        have e57 : ρ (.tmp 57) = .bool false := r57
        clear r57
        exact ⟨57, rfl, .inr (.inl ⟨e57, rfl⟩)⟩
      case s7 =>
        intro ρ W hb hc hf hr
        obtain ⟨r59, r57, -⟩ := hr
        have e59 : ρ (.tmp 59) = undef := r59
        clear r59
        have e57 : ρ (.tmp 57) = .bool false := r57
        clear r57
        exact ⟨57, rfl, .inr (.inl ⟨e57, rfl⟩)⟩
      case s8 =>
        intro ρ W hb hc hf hr
        obtain ⟨r57, r60, r54, -⟩ := hr
        have e57 : ρ (.tmp 57) = .bool false := r57
        clear r57
        have e60 : ρ (.tmp 60) = undef := r60
        clear r60
        have e54 : ρ (.tmp 54) = .bool true := r54
        clear r54
        refine ⟨54, rfl, .inl ⟨e54, ?_⟩⟩
        simp [execOp, e57, hc, go_sem, softUpon, Fact.is, Below.refl]
      case s9 =>
        intro ρ W hb hc hf hr
        obtain ⟨r61, r54, -⟩ := hr
        have e61 : ρ (.tmp 61) = .bool false := r61
        clear r61
        have e54 : ρ (.tmp 54) = .bool true := r54
        clear r54
        refine ⟨54, rfl, .inl ⟨e54, ?_⟩⟩
        exact ⟨e61, Below.refl _ _⟩
      case s10 =>
        intro ρ W hb hc hf hr
        obtain ⟨r12, r62, -⟩ := hr
        have e12 : ρ (.tmp 12) = .int .i64 0 := r12
        clear r12
        have e62 : ρ (.tmp 62) = .bool false := r62
        clear r62
        refine ⟨62, rfl, .inl ⟨e62, ?_⟩⟩
        exact ⟨e12, Below.refl _ _⟩
      case s11 =>
        intro ρ W hb hc hf hr
        obtain ⟨r63, r62, -⟩ := hr
        have e63 : ρ (.tmp 63) = .int .i64 0 := r63
        clear r63
        have e62 : ρ (.tmp 62) = .bool false := r62
        clear r62
        refine ⟨62, rfl, .inl ⟨e62, ?_⟩⟩
        simp [execOp, e63, hc, go_sem, softUpon, Fact.is, Below.refl]
      case s12 =>
        intro ρ W hb hc hf hr
        obtain ⟨r64, r62, -⟩ := hr
        have e64 : ρ (.tmp 64) = .bool true := r64
        clear r64
        have e62 : ρ (.tmp 62) = .bool false := r62
        clear r62
        refine ⟨62, rfl, .inl ⟨e62, ?_⟩⟩
        exact ⟨e64, Below.refl _ _⟩
      case s13 =>
        intro ρ W hb hc hf hr
        obtain ⟨r10, r65, -⟩ := hr
        have e10 : ρ (.tmp 10) = .slice A5 m cap5 := r10
        clear r10
        have e65 : ρ (.tmp 65) = .bool true := r65
        clear r65
        refine ⟨65, rfl, .inl ⟨e65, ?_⟩⟩
        exact ⟨e10, Below.refl _ _⟩
      case s14 =>
        intro ρ W hb hc hf hr
        obtain ⟨r66, r65, -⟩ := hr
        have e66 : ρ (.tmp 66) = .slice A5 m cap5 := r66
        clear r66
        have e65 : ρ (.tmp 65) = .bool true := r65
        clear r65
        refine ⟨65, rfl, .inl ⟨e65, ?_⟩⟩
        exact soft_call1 hf e66 (HP5.out W (hbd.trans (hb.mono (by simp)))) rfl (by kernel_rfl) made_own
      case s15 =>
        intro ρ W hb hc hf hr
        obtain ⟨r67, r65, -⟩ := hr
        have e65 : ρ (.tmp 65) = .bool true := r65
        clear r65
        refine ⟨65, rfl, .inl ⟨e65, ?_⟩⟩
        exact soft_own r67 rfl
      case s16 =>
        intro ρ W hb hc hf hr
        obtain ⟨r1, r65, -⟩ := hr
        have e1 : ρ (.tmp 1) = .slice B nb capb := r1
        clear r1
        have e65 : ρ (.tmp 65) = .bool true := r65
        clear r65
        refine ⟨65, rfl, .inl ⟨e65, ?_⟩⟩
        exact ⟨e1, Below.refl _ _⟩
      case s17 =>
        intro ρ W hb hc hf hr
        obtain ⟨r69, r65, -⟩ := hr
        have e69 : ρ (.tmp 69) = .slice B nb capb := r69
        clear r69
        have e65 : ρ (.tmp 65) = .bool true := r65
        clear r65
        refine ⟨65, rfl, .inl ⟨e65, ?_⟩⟩
        exact soft_conv e69 (CV.out W (hbd.trans (hb.mono (by simp)))) rfl
      case s18 =>
        intro ρ W hb hc hf hr
        obtain ⟨r68, r70, r65, -⟩ := hr
        have e68 : ρ (.tmp 68) = .string (str b) := r68
        clear r68
        have e70 : ρ (.tmp 70) = .string (str b) := r70
        clear r70
        have e65 : ρ (.tmp 65) = .bool true := r65
        clear r65
        refine ⟨65, rfl, .inl ⟨e65, ?_⟩⟩
        exact soft_bin e68 e70 rfl rfl (EQT.out W)
      case s19 =>
        intro ρ W hb hc hf hr
        obtain ⟨r65, r71, r62, -⟩ := hr
        have e65 : ρ (.tmp 65) = .bool true := r65
        clear r65
        have e71 : ρ (.tmp 71) = .bool true := r71
        clear r71
        have e62 : ρ (.tmp 62) = .bool false := r62
        clear r62
        refine ⟨62, rfl, .inl ⟨e62, ?_⟩⟩
        simp [execOp, e65, e71, hc, go_sem, softUpon, Fact.is, Below.refl]
      case s20 =>
        intro ρ W hb hc hf hr
        obtain ⟨r62, r72, r54, -⟩ := hr
        have e62 : ρ (.tmp 62) = .bool false := r62
        clear r62
        have e72 : ρ (.tmp 72) = .bool true := r72
        clear r72
        have e54 : ρ (.tmp 54) = .bool true := r54
        clear r54
        refine ⟨54, rfl, .inl ⟨e54, ?_⟩⟩
        simp [execOp, e62, e72, hc, go_sem, softUpon, Fact.is, Below.refl]
      case s21 =>
        intro ρ W hb hc hf hr
        obtain ⟨r54, r73, -⟩ := hr
        have e54 : ρ (.tmp 54) = .bool true := r54
        clear r54
        have e73 : ρ (.tmp 73) = .bool true := r73
        clear r73
        refine under_none rfl ?_
        simp [execOp, e54, e73, hc, go_sem, softUpon, Fact.is, Below.refl]
      case s22 =>
        intro ρ W hb hc hf hr
        obtain ⟨r74, -⟩ := hr
        have e74 : ρ (.tmp 74) = .bool true := r74
        clear r74
        refine under_none rfl ?_
        exact ⟨e74, Below.refl _ _⟩
      case fin =>
        intro a u4 hb hd hk
        have h4 : a.tmps.getD 4 undef = .bool true := hk 4
        clear hk
        go_wp2
        refine bodyPost_ret (results_tmp rfl _ _ _) hd ?_
        exact ⟨by rw [h4], c6.trans ((hbd.trans (hb.mono (by simp))).mono c6.size)⟩
    · have hl0 : ([] : List Plain.Sp).length = 0 := rfl
      rw [hl0]
      clear hl0
      go_wp2
      refine wp_soft (by kernel_rfl) 75 [(53, [5]), (54, [53]), (55, [12, 54]), (56, [55, 54]), (57, [56, 54]), (58, [10, 57]), (59, [58, 57]), (60, [59, 57]), (61, [57, 60, 54]), (62, [61, 54]), (63, [12, 62]), (64, [63, 62]), (65, [64, 62]), (66, [10, 65]), (67, [66, 65]), (68, [67, 65]), (69, [1, 65]), (70, [69, 65]), (71, [68, 70, 65]), (72, [65, 71, 62]), (73, [62, 72, 54]), (74, [54, 73]), (4, [74])]
        [Fact.is (.bool true), Fact.is (.bool true), Fact.is (.int .i64 C), Fact.is (.bool true), Fact.is (.bool true), Fact.is (.slice A5 0 cap5), Fact.is (.int .i64 0), Fact.is (.bool true), Fact.is (.bool true), Fact.is (.bool true), Fact.is (undef), Fact.is (undef), Fact.is (undef), Fact.is (undef), Fact.is (undef), Fact.is (undef), Fact.is (undef), Fact.is (undef), Fact.is (undef), Fact.is (undef), Fact.is (.bool true), Fact.is (.bool true), Fact.is (.bool true)]
        (by kernel_rfl) rfl rfl ⟨?s0, ?s1, ?s2, ?s3, ?s4, ?s5, ?s6, ?s7, ?s8, ?s9, ?s10, ?s11, ?s12, ?s13, ?s14, ?s15, ?s16, ?s17, ?s18, ?s19, ?s20, ?s21, ?s22, trivial⟩ ?fin
      case s0 =>
        intro ρ W hb hc hf hr
        obtain ⟨r5, -⟩ := hr
        have e5 : ρ (.tmp 5) = .bool true := r5
        clear r5
        refine under_none rfl ?_
        exact ⟨e5, Below.refl _ _⟩
      case s1 =>
        intro ρ W hb hc hf hr
        obtain ⟨r53, -⟩ := hr
        have e53 : ρ (.tmp 53) = .bool true := r53
        clear r53
        refine under_none rfl ?_
        exact ⟨e53, Below.refl _ _⟩
      case s2 =>
        intro ρ W hb hc hf hr
        obtain ⟨r12, r54, -⟩ := hr
        have e12 : ρ (.tmp 12) = .int .i64 C := r12
        clear r12
        have e54 : ρ (.tmp 54) = .bool true := r54
        clear r54
        refine ⟨54, rfl, .inl ⟨e54, ?_⟩⟩
        exact ⟨e12, Below.refl _ _⟩
      case s3 =>
        intro ρ W hb hc hf hr
        obtain ⟨r55, r54, -⟩ := hr
        have e55 : ρ (.tmp 55) = .int .i64 C := r55
        clear r55
        have e54 : ρ (.tmp 54) = .bool true := r54
        clear r54
        refine ⟨54, rfl, .inl ⟨e54, ?_⟩⟩
        simp [execOp, e55, hc, hC0, go_sem, softUpon, Fact.is, Below.refl]
      case s4 =>
        intro ρ W hb hc hf hr
        obtain ⟨r56, r54, -⟩ := hr
        have e56 : ρ (.tmp 56) = .bool true := r56
        clear r56
        have e54 : ρ (.tmp 54) = .bool true := r54
        clear r54
        refine ⟨54, rfl, .inl ⟨e54, ?_⟩⟩
        exact ⟨e56, Below.refl _ _⟩
      case s5 =>
        intro ρ W hb hc hf hr
        obtain ⟨r10, r57, -⟩ := hr
        have e10 : ρ (.tmp 10) = .slice A5 0 cap5 := r10
        clear r10
        have e57 : ρ (.tmp 57) = .bool true := r57
        clear r57
        refine ⟨57, rfl, .inl ⟨e57, ?_⟩⟩
        exact ⟨e10, Below.refl _ _⟩
      case s6 =>
        intro ρ W hb hc hf hr
        obtain ⟨r58, r57, -⟩ := hr
        have e58 : ρ (.tmp 58) = .slice A5 0 cap5 := r58
        clear r58
        have e57 : ρ (.tmp 57) = .bool true := r57
        clear r57
        refine ⟨57, rfl, .inl ⟨e57, ?_⟩⟩
        simp [e58, go_sem, softUpon, Fact.is, Below.refl]
      case s7 =>
        intro ρ W hb hc hf hr
        obtain ⟨r59, r57, -⟩ := hr
        have e59 : ρ (.tmp 59) = .int .i64 0 := r59
        clear r59
        have e57 : ρ (.tmp 57) = .bool true := r57
        clear r57
        refine ⟨57, rfl, .inl ⟨e57, ?_⟩⟩
        simp [execOp, e59, hc, go_sem, softUpon, Fact.is, Below.refl]
      case s8 =>
        intro ρ W hb hc hf hr
        obtain ⟨r57, r60, r54, -⟩ := hr
        have e57 : ρ (.tmp 57) = .bool true := r57
        clear r57
        have e60 : ρ (.tmp 60) = .bool true := r60
        clear r60
        have e54 : ρ (.tmp 54) = .bool true := r54
        clear r54
        refine ⟨54, rfl, .inl ⟨e54, ?_⟩⟩
        simp [execOp, e57, e60, hc, go_sem, softUpon, Fact.is, Below.refl]
      case s9 =>
        intro ρ W hb hc hf hr
        obtain ⟨r61, r54, -⟩ := hr
        have e61 : ρ (.tmp 61) = .bool true := r61
        clear r61
        have e54 : ρ (.tmp 54) = .bool true := r54
        clear r54
        refine ⟨54, rfl, .inl ⟨e54, ?_⟩⟩
        exact ⟨e61, Below.refl _ _⟩
      case s10 =>
        intro ρ W hb hc hf hr
        obtain ⟨r12, r62, -⟩ := hr
        have e12 : ρ (.tmp 12) = .int .i64 C := r12
        clear r12
        have e62 : ρ (.tmp 62) = .bool true := r62
        clear r62
        exact ⟨62, rfl, .inr (.inl ⟨e62, rfl⟩)⟩
      case s11 =>
        intro ρ W hb hc hf hr
        obtain ⟨r63, r62, -⟩ := hr
        have e63 : ρ (.tmp 63) = undef := r63
        clear r63
        have e62 : ρ (.tmp 62) = .bool true := r62
        clear r62
        exact ⟨62, rfl, .inr (.inl ⟨e62, rfl⟩)⟩
      case s12 =>
        intro ρ W hb hc hf hr
        obtain ⟨r64, r62, -⟩ := hr
        have e64 : ρ (.tmp 64) = undef := r64
        clear r64
        have e62 : ρ (.tmp 62) = .bool true := r62
        clear r62
        exact ⟨62, rfl, .inr (.inl ⟨e62, rfl⟩)⟩
      case s13 =>
        intro ρ W hb hc hf hr
        obtain ⟨r10, r65, -⟩ := hr
        have e10 : ρ (.tmp 10) = .slice A5 0 cap5 := r10
        clear r10
        have e65 : ρ (.tmp 65) = undef := r65
        clear r65
        exact ⟨65, rfl, .inr (.inr ⟨e65, rfl⟩)⟩
      case s14 =>
        intro ρ W hb hc hf hr
        obtain ⟨r66, r65, -⟩ := hr
        have e66 : ρ (.tmp 66) = undef := r66
        clear r66
        have e65 : ρ (.tmp 65) = undef := r65
        clear r65
        exact ⟨65, rfl, .inr (.inr ⟨e65, rfl⟩)⟩
      case s15 =>
        intro ρ W hb hc hf hr
        obtain ⟨r67, r65, -⟩ := hr
        have e67 : ρ (.tmp 67) = undef := r67
        clear r67
        have e65 : ρ (.tmp 65) = undef := r65
        clear r65
        exact ⟨65, rfl, .inr (.inr ⟨e65, rfl⟩)⟩
      case s16 =>
        intro ρ W hb hc hf hr
        obtain ⟨r1, r65, -⟩ := hr
        have e1 : ρ (.tmp 1) = .slice B nb capb := r1
        clear r1
        have e65 : ρ (.tmp 65) = undef := r65
        clear r65
        exact ⟨65, rfl, .inr (.inr ⟨e65, rfl⟩)⟩
      case s17 =>
        intro ρ W hb hc hf hr
        obtain ⟨r69, r65, -⟩ := hr
        have e69 : ρ (.tmp 69) = undef := r69
        clear r69
        have e65 : ρ (.tmp 65) = undef := r65
        clear r65
        exact ⟨65, rfl, .inr (.inr ⟨e65, rfl⟩)⟩
      case s18 =>
        intro ρ W hb hc hf hr
        obtain ⟨r68, r70, r65, -⟩ := hr
        have e68 : ρ (.tmp 68) = undef := r68
        clear r68
        have e70 : ρ (.tmp 70) = undef := r70
        clear r70
        have e65 : ρ (.tmp 65) = undef := r65
        clear r65
        exact ⟨65, rfl, .inr (.inr ⟨e65, rfl⟩)⟩
      case s19 =>
        intro ρ W hb hc hf hr
        obtain ⟨r65, r71, r62, -⟩ := hr
        have e65 : ρ (.tmp 65) = undef := r65
        clear r65
        have e71 : ρ (.tmp 71) = undef := r71
        clear r71
        have e62 : ρ (.tmp 62) = .bool true := r62
        clear r62
        exact ⟨62, rfl, .inr (.inl ⟨e62, rfl⟩)⟩
      case s20 =>
        intro ρ W hb hc hf hr
        obtain ⟨r62, r72, r54, -⟩ := hr
        have e62 : ρ (.tmp 62) = .bool true := r62
        clear r62
        have e72 : ρ (.tmp 72) = undef := r72
        clear r72
        have e54 : ρ (.tmp 54) = .bool true := r54
        clear r54
        refine ⟨54, rfl, .inl ⟨e54, ?_⟩⟩
        simp [execOp, e62, hc, go_sem, softUpon, Fact.is, Below.refl]
      case s21 =>
        intro ρ W hb hc hf hr
        obtain ⟨r54, r73, -⟩ := hr
        have e54 : ρ (.tmp 54) = .bool true := r54
        clear r54
        have e73 : ρ (.tmp 73) = .bool true := r73
        clear r73
        refine under_none rfl ?_
        simp [execOp, e54, e73, hc, go_sem, softUpon, Fact.is, Below.refl]
      case s22 =>
        intro ρ W hb hc hf hr
        obtain ⟨r74, -⟩ := hr
        have e74 : ρ (.tmp 74) = .bool true := r74
        clear r74
        refine under_none rfl ?_
        exact ⟨e74, Below.refl _ _⟩
      case fin =>
        intro a u4 hb hd hk
        have h4 : a.tmps.getD 4 undef = .bool true := hk 4
        clear hk
        go_wp2
        refine bodyPost_ret (results_tmp rfl _ _ _) hd ?_
        exact ⟨by rw [h4], c6.trans ((hbd.trans (hb.mono (by simp))).mono c6.size)⟩
  · obtain rfl : tl = 0 := by omega
    go_wp2_with fail
    refine (second w3 ⟨HT.out.1.below HT.out.1.lt c3, HT.out.2.below c3 (Nat.le_refl _)⟩ B nb capb b HNB.out hlb HMB.out (HB.out.below c3) (by omega)).mono ?_
    rintro e w6 ⟨y, P, C, A5, cap5, rfl, hl5, hm5, hL5, d6, hor⟩
    have c6 := c3.trans (d6.mono c3.size)
    have HL5 := Lib.hid hL5
    clear hL5
    have hbd : Below w6.heap.size w6 w6.drew := (Below.refl _ _).drew
    rcases hor with ⟨rfl, hfy, hby, hy256⟩ | ⟨hC0, rfl⟩
    · obtain ⟨m, hm0⟩ : ∃ m, y.length = m := ⟨_, rfl⟩
      have HP5 := Lib.hid (fun (W : World) (h : Below w6.heap.size w6 W) => batchPut_any A5 m cap5 y W (HT.out.2.below (c6.trans (h.mono c6.size)) (Nat.le_refl _)) hm0 (by unfold maxLen; omega) (HL5.out.below h) hfy)
      rw [hby] at HP5
      rw [hm0]
      have CV := Lib.hid (fun (W : World) (h : Below w6.heap.size w6 W) => show (convert 23 9 (.slice B nb capb)).run Tryd.prog W = .ok (.string (str b)) W by
        have := conv_str (P := Tryd.prog) (c := capb) (HB.out.below (c6.trans (h.mono c6.size))) 23 5 Tryd.underlying23 Tryd.underlying5 9 Tryd.underlying9
        rwa [HNB.out] at this)
      have EQT := Lib.hid (fun (W : World) => eq_same W b)
      clear hm0 hby hfy hy256 hl5
      go_wp2
      refine wp_soft (by kernel_rfl) 75 [(53, [5]), (54, [53]), (55, [12, 54]), (56, [55, 54]), (57, [56, 54]), (58, [10, 57]), (59, [58, 57]), (60, [59, 57]), (61, [57, 60, 54]), (62, [61, 54]), (63, [12, 62]), (64, [63, 62]), (65, [64, 62]), (66, [10, 65]), (67, [66, 65]), (68, [67, 65]), (69, [1, 65]), (70, [69, 65]), (71, [68, 70, 65]), (72, [65, 71, 62]), (73, [62, 72, 54]), (74, [54, 73]), (4, [74])]
        [Fact.is (.bool true), Fact.is (.bool true), Fact.is (.int .i64 0), Fact.is (.bool false), Fact.is (.bool false), Fact.is (undef), Fact.is (undef), Fact.is (undef), Fact.is (.bool false), Fact.is (.bool false), Fact.is (.int .i64 0), Fact.is (.bool true), Fact.is (.bool true), Fact.is (.slice A5 m cap5), Fact.own b, Fact.is (.string (str b)), Fact.is (.slice B nb capb), Fact.is (.string (str b)), Fact.is (.bool true), Fact.is (.bool true), Fact.is (.bool true), Fact.is (.bool true), Fact.is (.bool true)]
        (by kernel_rfl) rfl rfl ⟨?s0, ?s1, ?s2, ?s3, ?s4, ?s5, ?s6, ?s7, ?s8, ?s9, ?s10, ?s11, ?s12, ?s13, ?s14, ?s15, ?s16, ?s17, ?s18, ?s19, ?s20, ?s21, ?s22, trivial⟩ ?fin
      case s0 =>
        intro ρ W hb hc hf hr
        obtain ⟨r5, -⟩ := hr
        have e5 : ρ (.tmp 5) = .bool true := r5
        clear r5
        refine under_none rfl ?_
        exact ⟨e5, Below.refl _ _⟩
      case s1 =>
        intro ρ W hb hc hf hr
        obtain ⟨r53, -⟩ := hr
        have e53 : ρ (.tmp 53) = .bool true := r53
        clear r53
        refine under_none rfl ?_
        exact ⟨e53, Below.refl _ _⟩
      case s2 =>
        intro ρ W hb hc hf hr
        obtain ⟨r12, r54, -⟩ := hr
        have e12 : ρ (.tmp 12) = .int .i64 0 := r12
        clear r12
        have e54 : ρ (.tmp 54) = .bool true := r54
        clear r54
        refine ⟨54, rfl, .inl ⟨e54, ?_⟩⟩
        exact ⟨e12, Below.refl _ _⟩
      case s3 =>
        intro ρ W hb hc hf hr
        obtain ⟨r55, r54, -⟩ := hr
        have e55 : ρ (.tmp 55) = .int .i64 0 := r55
        clear r55
        have e54 : ρ (.tmp 54) = .bool true := r54
        clear r54
        refine ⟨54, rfl, .inl ⟨e54, ?_⟩⟩
        simp [execOp, e55, hc, go_sem, softUpon, Fact.is, Below.refl]
      case s4 =>
        intro ρ W hb hc hf hr
        obtain ⟨r56, r54, -⟩ := hr
        have e56 : ρ (.tmp 56) = .bool false := r56
        clear r56
        have e54 : ρ (.tmp 54) = .bool true := r54
        clear r54
        refine ⟨54, rfl, .inl ⟨e54, ?_⟩⟩
        exact ⟨e56, Below.refl _ _⟩
      case s5 =>
        intro ρ W hb hc hf hr
        obtain ⟨r10, r57, -⟩ := hr
        have e10 : ρ (.tmp 10) = .slice A5 m cap5 := r10
        clear r10
        have e57 : ρ (.tmp 57) = .bool false := r57
        clear r57
        exact ⟨57, rfl, .inr (.inl ⟨e57, rfl⟩)⟩
      case s6 =>
        intro ρ W hb hc hf hr
        obtain ⟨r58, r57, -⟩ := hr
        have e58 : ρ (.tmp 58) = undef := r58
        clear r58
        have e57 : ρ (.tmp 57) = .bool false := r57
        clear r57
        exact ⟨57, rfl, .inr (.inl ⟨e57, rfl⟩)⟩
      case s7 =>
        intro ρ W hb hc hf hr
        obtain ⟨r59, r57, -⟩ := hr
        have e59 : ρ (.tmp 59) = undef := r59
        clear r59
        have e57 : ρ (.tmp 57) = .bool false := r57
        clear r57
        exact ⟨57, rfl, .inr (.inl ⟨e57, rfl⟩)⟩
      case s8 =>
        intro ρ W hb hc hf hr
        obtain ⟨r57, r60, r54, -⟩ := hr
        have e57 : ρ (.tmp 57) = .bool false := r57
        clear r57
        have e60 : ρ (.tmp 60) = undef := r60
        clear r60
        have e54 : ρ (.tmp 54) = .bool true := r54
        clear r54
        refine ⟨54, rfl, .inl ⟨e54, ?_⟩⟩
        simp [execOp, e57, hc, go_sem, softUpon, Fact.is, Below.refl]
      case s9 =>
        intro ρ W hb hc hf hr
        obtain ⟨r61, r54, -⟩ := hr
        have e61 : ρ (.tmp 61) = .bool false := r61
        clear r61
        have e54 : ρ (.tmp 54) = .bool true := r54
        clear r54
        refine ⟨54, rfl, .inl ⟨e54, ?_⟩⟩
        exact ⟨e61, Below.refl _ _⟩
      case s10 =>
        intro ρ W hb hc hf hr
        obtain ⟨r12, r62, -⟩ := hr
        have e12 : ρ (.tmp 12) = .int .i64 0 := r12
        clear r12
        have e62 : ρ (.tmp 62) = .bool false := r62
        clear r62
        refine ⟨62, rfl, .inl ⟨e62, ?_⟩⟩
        exact ⟨e12, Below.refl _ _⟩
      case s11 =>
        intro ρ W hb hc hf hr
        obtain ⟨r63, r62, -⟩ := hr
        have e63 : ρ (.tmp 63) = .int .i64 0 := r63
        clear r63
        have e62 : ρ (.tmp 62) = .bool false := r62
        clear r62
        refine ⟨62, rfl, .inl ⟨e62, ?_⟩⟩
        simp [execOp, e63, hc, go_sem, softUpon, Fact.is, Below.refl]
      case s12 =>
        intro ρ W hb hc hf hr
        obtain ⟨r64, r62, -⟩ := hr
        have e64 : ρ (.tmp 64) = .bool true := r64
        clear r64
        have e62 : ρ (.tmp 62) = .bool false := r62
        clear r62
        refine ⟨62, rfl, .inl ⟨e62, ?_⟩⟩
        exact ⟨e64, Below.refl _ _⟩
      case s13 =>
        intro ρ W hb hc hf hr
        obtain ⟨r10, r65, -⟩ := hr
        have e10 : ρ (.tmp 10) = .slice A5 m cap5 := r10
        clear r10
        have e65 : ρ (.tmp 65) = .bool true := r65
        clear r65
        refine ⟨65, rfl, .inl ⟨e65, ?_⟩⟩
        exact ⟨e10, Below.refl _ _⟩
      case s14 =>
        intro ρ W hb hc hf hr
        obtain ⟨r66, r65, -⟩ := hr
        have e66 : ρ (.tmp 66) = .slice A5 m cap5 := r66
        clear r66
        have e65 : ρ (.tmp 65) = .bool true := r65
        clear r65
        refine ⟨65, rfl, .inl ⟨e65, ?_⟩⟩
        exact soft_call1 hf e66 (HP5.out W (hbd.trans (hb.mono (by simp)))) rfl (by kernel_rfl) made_own
      case s15 =>
        intro ρ W hb hc hf hr
        obtain ⟨r67, r65, -⟩ := hr
        have e65 : ρ (.tmp 65) = .bool true := r65
        clear r65
        refine ⟨65, rfl, .inl ⟨e65, ?_⟩⟩
        exact soft_own r67 rfl
      case s16 =>
        intro ρ W hb hc hf hr
        obtain ⟨r1, r65, -⟩ := hr
        have e1 : ρ (.tmp 1) = .slice B nb capb := r1
        clear r1
        have e65 : ρ (.tmp 65) = .bool true := r65
        clear r65
        refine ⟨65, rfl, .inl ⟨e65, ?_⟩⟩
        exact ⟨e1, Below.refl _ _⟩
      case s17 =>
        intro ρ W hb hc hf hr
        obtain ⟨r69, r65, -⟩ := hr
        have e69 : ρ (.tmp 69) = .slice B nb capb := r69
        clear r69
        have e65 : ρ (.tmp 65) = .bool true := r65
        clear r65
        refine ⟨65, rfl, .inl ⟨e65, ?_⟩⟩
        exact soft_conv e69 (CV.out W (hbd.trans (hb.mono (by simp)))) rfl
      case s18 =>
        intro ρ W hb hc hf hr
        obtain ⟨r68, r70, r65, -⟩ := hr
        have e68 : ρ (.tmp 68) = .string (str b) := r68
        clear r68
        have e70 : ρ (.tmp 70) = .string (str b) := r70
        clear r70
        have e65 : ρ (.tmp 65) = .bool true := r65
        clear r65
        refine ⟨65, rfl, .inl ⟨e65, ?_⟩⟩
        exact soft_bin e68 e70 rfl rfl (EQT.out W)
      case s19 =>
        intro ρ W hb hc hf hr
        obtain ⟨r65, r71, r62, -⟩ := hr
        have e65 : ρ (.tmp 65) = .bool true := r65
        clear r65
        have e71 : ρ (.tmp 71) = .bool true := r71
        clear r71
        have e62 : ρ (.tmp 62) = .bool false := r62
        clear r62
        refine ⟨62, rfl, .inl ⟨e62, ?_⟩⟩
        simp [execOp, e65, e71, hc, go_sem, softUpon, Fact.is, Below.refl]
      case s20 =>
        intro ρ W hb hc hf hr
        obtain ⟨r62, r72, r54, -⟩ := hr
        have e62 : ρ (.tmp 62) = .bool false := r62
        clear r62
        have e72 : ρ (.tmp 72) = .bool true := r72
        clear r72
        have e54 : ρ (.tmp 54) = .bool true := r54
        clear r54
        refine ⟨54, rfl, .inl ⟨e54, ?_⟩⟩
        simp [execOp, e62, e72, hc, go_sem, softUpon, Fact.is, Below.refl]
      case s21 =>
        intro ρ W hb hc hf hr
        obtain ⟨r54, r73, -⟩ := hr
        have e54 : ρ (.tmp 54) = .bool true := r54
        clear r54
        have e73 : ρ (.tmp 73) = .bool true := r73
        clear r73
        refine under_none rfl ?_
        simp [execOp, e54, e73, hc, go_sem, softUpon, Fact.is, Below.refl]
      case s22 =>
        intro ρ W hb hc hf hr
        obtain ⟨r74, -⟩ := hr
        have e74 : ρ (.tmp 74) = .bool true := r74
        clear r74
        refine under_none rfl ?_
        exact ⟨e74, Below.refl _ _⟩
      case fin =>
        intro a u4 hb hd hk
        have h4 : a.tmps.getD 4 undef = .bool true := hk 4
        clear hk
        go_wp2
        refine bodyPost_ret (results_tmp rfl _ _ _) hd ?_
        exact ⟨by rw [h4], c6.trans ((hbd.trans (hb.mono (by simp))).mono c6.size)⟩
    · have hl0 : ([] : List Plain.Sp).length = 0 := rfl
      rw [hl0]
      clear hl0
      go_wp2
      refine wp_soft (by kernel_rfl) 75 [(53, [5]), (54, [53]), (55, [12, 54]), (56, [55, 54]), (57, [56, 54]), (58, [10, 57]), (59, [58, 57]), (60, [59, 57]), (61, [57, 60, 54]), (62, [61, 54]), (63, [12, 62]), (64, [63, 62]), (65, [64, 62]), (66, [10, 65]), (67, [66, 65]), (68, [67, 65]), (69, [1, 65]), (70, [69, 65]), (71, [68, 70, 65]), (72, [65, 71, 62]), (73, [62, 72, 54]), (74, [54, 73]), (4, [74])]
        [Fact.is (.bool true), Fact.is (.bool true), Fact.is (.int .i64 C), Fact.is (.bool true), Fact.is (.bool true), Fact.is (.slice A5 0 cap5), Fact.is (.int .i64 0), Fact.is (.bool true), Fact.is (.bool true), Fact.is (.bool true), Fact.is (undef), Fact.is (undef), Fact.is (undef), Fact.is (undef), Fact.is (undef), Fact.is (undef), Fact.is (undef), Fact.is (undef), Fact.is (undef), Fact.is (undef), Fact.is (.bool true), Fact.is (.bool true), Fact.is (.bool true)]
        (by kernel_rfl) rfl rfl ⟨?s0, ?s1, ?s2, ?s3, ?s4, ?s5, ?s6, ?s7, ?s8, ?s9, ?s10, ?s11, ?s12, ?s13, ?s14, ?s15, ?s16, ?s17, ?s18, ?s19, ?s20, ?s21, ?s22, trivial⟩ ?fin
      case s0 =>
        intro ρ W hb hc hf hr
        obtain ⟨r5, -⟩ := hr
        have e5 : ρ (.tmp 5) = .bool true := r5
        clear r5
        refine under_none rfl ?_
        exact ⟨e5, Below.refl _ _⟩
      case s1 =>
        intro ρ W hb hc hf hr
        obtain ⟨r53, -⟩ := hr
        have e53 : ρ (.tmp 53) = .bool true := r53
        clear r53
        refine under_none rfl ?_
        exact ⟨e53, Below.refl _ _⟩
      case s2 =>
        intro ρ W hb hc hf hr
        obtain ⟨r12, r54, -⟩ := hr
        have e12 : ρ (.tmp 12) = .int .i64 C := r12
        clear r12
        have e54 : ρ (.tmp 54) = .bool true := r54
        clear r54
        refine ⟨54, rfl, .inl ⟨e54, ?_⟩⟩
        exact ⟨e12, Below.refl _ _⟩
      case s3 =>
        intro ρ W hb hc hf hr
        obtain ⟨r55, r54, -⟩ := hr
        have e55 : ρ (.tmp 55) = .int .i64 C := r55
        clear r55
        have e54 : ρ (.tmp 54) = .bool true := r54
        clear r54
        refine ⟨54, rfl, .inl ⟨e54, ?_⟩⟩
        simp [execOp, e55, hc, hC0, go_sem, softUpon, Fact.is, Below.refl]
      case s4 =>
        intro ρ W hb hc hf hr
        obtain ⟨r56, r54, -⟩ := hr
        have e56 : ρ (.tmp 56) = .bool true := r56
        clear r56
        have e54 : ρ (.tmp 54) = .bool true := r54
        clear r54
        refine ⟨54, rfl, .inl ⟨e54, ?_⟩⟩
        exact ⟨e56, Below.refl _ _⟩
      case s5 =>
        intro ρ W hb hc hf hr
        obtain ⟨r10, r57, -⟩ := hr
        have e10 : ρ (.tmp 10) = .slice A5 0 cap5 := r10
        clear r10
        have e57 : ρ (.tmp 57) = .bool true := r57
        clear r57
        refine ⟨57, rfl, .inl ⟨e57, ?_⟩⟩
        exact ⟨e10, Below.refl _ _⟩
      case s6 =>
        intro ρ W hb hc hf hr
        obtain ⟨r58, r57, -⟩ := hr
        have e58 : ρ (.tmp 58) = .slice A5 0 cap5 := r58
        clear r58
        have e57 : ρ (.tmp 57) = .bool true := r57
        clear r57
        refine ⟨57, rfl, .inl ⟨e57, ?_⟩⟩
        simp [e58, go_sem, softUpon, Fact.is, Below.refl]
      case s7 =>
        intro ρ W hb hc hf hr
        obtain ⟨r59, r57, -⟩ := hr
        have e59 : ρ (.tmp 59) = .int .i64 0 := r59
        clear r59
        have e57 : ρ (.tmp 57) = .bool true := r57
        clear r57
        refine ⟨57, rfl, .inl ⟨e57, ?_⟩⟩
        simp [execOp, e59, hc, go_sem, softUpon, Fact.is, Below.refl]
      case s8 =>
        intro ρ W hb hc hf hr
        obtain ⟨r57, r60, r54, -⟩ := hr
        have e57 : ρ (.tmp 57) = .bool true := r57
        clear r57
        have e60 : ρ (.tmp 60) = .bool true := r60
        clear r60
        have e54 : ρ (.tmp 54) = .bool true := r54
        clear r54
        refine ⟨54, rfl, .inl ⟨e54, ?_⟩⟩
        simp [execOp, e57, e60, hc, go_sem, softUpon, Fact.is, Below.refl]
      case s9 =>
        intro ρ W hb hc hf hr
        obtain ⟨r61, r54, -⟩ := hr
        have e61 : ρ (.tmp 61) = .bool true := r61
        clear r61
        have e54 : ρ (.tmp 54) = .bool true := r54
        clear r54
        refine ⟨54, rfl, .inl ⟨e54, ?_⟩⟩
        exact ⟨e61, Below.refl _ _⟩
      case s10 =>
        intro ρ W hb hc hf hr
        obtain ⟨r12, r62, -⟩ := hr
        have e12 : ρ (.tmp 12) = .int .i64 C := r12
        clear r12
        have e62 : ρ (.tmp 62) = .bool true := r62
        clear r62
        exact ⟨62, rfl, .inr (.inl ⟨e62, rfl⟩)⟩
      case s11 =>
        intro ρ W hb hc hf hr
        obtain ⟨r63, r62, -⟩ := hr
        have e63 : ρ (.tmp 63) = undef := r63
        clear r63
        have e62 : ρ (.tmp 62) = .bool true := r62
        clear r62
        exact ⟨62, rfl, .inr (.inl ⟨e62, rfl⟩)⟩
      case s12 =>
        intro ρ W hb hc hf hr
        obtain ⟨r64, r62, -⟩ := hr
        have e64 : ρ (.tmp 64) = undef := r64
        clear r64
        have e62 : ρ (.tmp 62) = .bool true := r62
        clear r62
        exact ⟨62, rfl, .inr (.inl ⟨e62, rfl⟩)⟩
      case s13 =>
        intro ρ W hb hc hf hr
        obtain ⟨r10, r65, -⟩ := hr
        have e10 : ρ (.tmp 10) = .slice A5 0 cap5 := r10
        clear r10
        have e65 : ρ (.tmp 65) = undef := r65
        clear r65
        exact ⟨65, rfl, .inr (.inr ⟨e65, rfl⟩)⟩
      case s14 =>
        intro ρ W hb hc hf hr
        obtain ⟨r66, r65, -⟩ := hr
        have e66 : ρ (.tmp 66) = undef := r66
        clear r66
        have e65 : ρ (.tmp 65) = undef := r65
        clear r65
        exact ⟨65, rfl, .inr (.inr ⟨e65, rfl⟩)⟩
      case s15 =>
        intro ρ W hb hc hf hr
        obtain ⟨r67, r65, -⟩ := hr
        have e67 : ρ (.tmp 67) = undef := r67
        clear r67
        have e65 : ρ (.tmp 65) = undef := r65
        clear r65
        exact ⟨65, rfl, .inr (.inr ⟨e65, rfl⟩)⟩
      case s16 =>
        intro ρ W hb hc hf hr
        obtain ⟨r1, r65, -⟩ := hr
        have e1 : ρ (.tmp 1) = .slice B nb capb := r1
        clear r1
        have e65 : ρ (.tmp 65) = undef := r65
        clear r65
        exact ⟨65, rfl, .inr (.inr ⟨e65, rfl⟩)⟩
      case s17 =>
        intro ρ W hb hc hf hr
        obtain ⟨r69, r65, -⟩ := hr
        have e69 : ρ (.tmp 69) = undef := r69
        clear r69
        have e65 : ρ (.tmp 65) = undef := r65
        clear r65
        exact ⟨65, rfl, .inr (.inr ⟨e65, rfl⟩)⟩
      case s18 =>
        intro ρ W hb hc hf hr
        obtain ⟨r68, r70, r65, -⟩ := hr
        have e68 : ρ (.tmp 68) = undef := r68
        clear r68
        have e70 : ρ (.tmp 70) = undef := r70
        clear r70
        have e65 : ρ (.tmp 65) = undef := r65
        clear r65
        exact ⟨65, rfl, .inr (.inr ⟨e65, rfl⟩)⟩
      case s19 =>
        intro ρ W hb hc hf hr
        obtain ⟨r65, r71, r62, -⟩ := hr
        have e65 : ρ (.tmp 65) = undef := r65
        clear r65
        have e71 : ρ (.tmp 71) = undef := r71
        clear r71
        have e62 : ρ (.tmp 62) = .bool true := r62
        clear r62
        exact ⟨62, rfl, .inr (.inl ⟨e62, rfl⟩)⟩
      case s20 =>
        intro ρ W hb hc hf hr
        obtain ⟨r62, r72, r54, -⟩ := hr
        have e62 : ρ (.tmp 62) = .bool true := r62
        clear r62
        have e72 : ρ (.tmp 72) = undef := r72
        clear r72
        have e54 : ρ (.tmp 54) = .bool true := r54
        clear r54
        refine ⟨54, rfl, .inl ⟨e54, ?_⟩⟩
        simp [execOp, e62, hc, go_sem, softUpon, Fact.is, Below.refl]
      case s21 =>
        intro ρ W hb hc hf hr
        obtain ⟨r54, r73, -⟩ := hr
        have e54 : ρ (.tmp 54) = .bool true := r54
        clear r54
        have e73 : ρ (.tmp 73) = .bool true := r73
        clear r73
        refine under_none rfl ?_
        simp [execOp, e54, e73, hc, go_sem, softUpon, Fact.is, Below.refl]
      case s22 =>
        intro ρ W hb hc hf hr
        obtain ⟨r74, -⟩ := hr
        have e74 : ρ (.tmp 74) = .bool true := r74
        clear r74
        refine under_none rfl ?_
        exact ⟨e74, Below.refl _ _⟩
      case fin =>
        intro a u4 hb hd hk
        have h4 : a.tmps.getD 4 undef = .bool true := hk 4
        clear hk
        go_wp2
        refine bodyPost_ret (results_tmp rfl _ _ _) hd ?_
        exact ⟨by rw [h4], c6.trans ((hbd.trans (hb.mono (by simp))).mono c6.size)⟩


set_option maxRecDepth 100000 in
theorem lifted (os : Os) (started : os.Started) (H : Type) (enc : TypeId × Value → H) :
    ReturnsInHanded {} Tryd.checked os 5 .any (fun w args => (Rows.batchBackSpec.pre enc Tryd.prog Tryd.f5 [] false w args ∧ laidMetH Tryd.prog laidBoth w) ∧ sizedMet enc Tryd.prog Tryd.f5 (OpenSpec.ofChange Rows.batchBackSpec) false w args) (Rows.batchBackSpec.post enc Tryd.prog Tryd.f5 false true false false) := by
  refine returnsInHanded_of_change_and (C := Tryd.checked) (X := fun w _ => laidMetH Tryd.prog laidBoth w) (fun _ _ _ hh h => h.of_heap hh) own started (by kernel_rfl) Tryd.func5
    (ChangeSpec.witness_at (enc := enc) (C := Tryd.checked) (os := os) (X := fun w _ => laidMetH Tryd.prog laidBoth w) false (bothWorld os) #[.slice none 0 0, .slice none 0 0] 8 rfl (by kernel_rfl) (by kernel_rfl) (by kernel_rfl) (by kernel_rfl) (by kernel_rfl) (bothWorld_met os _)) ?_
  intro W base args ds gs before hval0 hW _ _ hL _
  have hval : ∀ (j : Nat) t v, Tryd.f5.params[j]? = some t → args[j]? = some v → Value.okWide Tryd.prog W .any base t v := hval0
  have hfin := fun W' => law_post (enc := enc) (P := Tryd.prog) (f := Tryd.f5) (s := Rows.batchBackSpec) (tb := 4) (W := W) (W' := W') (args := args) (ds := ds) (gs := gs) (before := before) laidOut rfl (by kernel_rfl) Tryd.underlying4 (by kernel_rfl) (fun xs h => by rw [Tryd.params5] at h; match xs, h with | [_, _], _ => rfl) hW
  have hlt : ∀ x ∈ before, x.block < W.heap.size := fun x hx => hW.lt x hx
  obtain ⟨p, q, hA0, hV, rfl, hfz, hnd⟩ := hW
  have hA : DataW.TrodAll enc Tryd.prog W 0 (fun _ => true) true Tryd.f5.params.toList args.toList ds p := hA0
  rw [Tryd.params5] at hA hval
  obtain ⟨v0, vs0, d0, ds0, p0, q0, hargs, rfl, rfl, h0, r0⟩ := trodAll_cons hA
  obtain ⟨v1, vs1, d1, ds1, p1, q1, rfl, rfl, rfl, h1, r1⟩ := trodAll_cons r0
  obtain ⟨rfl, rfl, rfl⟩ := trodAll_nil r1
  obtain rfl : args = #[v0, v1] := by cases args; simp_all
  obtain ⟨A0, cap0, l0, rfl, hl0, hm0, hB0, hS0⟩ := open_spans (hval 0 22 v0 rfl rfl) h0 (fun x hx => hlt x (by simp [hx]))
  obtain ⟨A1, cap1, b1, rfl, hl1, hm1, hB1⟩ := open_bytes (hval 1 23 v1 rfl rfl) h1 (fun x hx => hlt x (by simp [hx]))
  refine (walk W (of_both hL) A0 cap0 l0 hl0 hm0 hB0 hS0 A1 cap1 b1 hl1 hm1 hB1).mono fun e W' ⟨he, hg⟩ => ?_
  subst he
  exact ⟨_, rfl, hfin W' hg⟩

theorem proved : Rows.BatchBackSaid :=
  OpenClaim.holds_of_wide 5 Tryd.f5 rfl rfl rfl rfl rfl rfl rfl ⟨rfl, rfl, rfl, rfl, rfl⟩ rfl rfl rfl rfl rfl (by kernel_rfl) Tryd.func5 (by kernel_rfl)
    (of_decide_eq_true (by kernel_rfl)) (by unfold Func.isWrapper; first | (rw [if_pos (by decide +kernel)]; kernel_rfl) | (rw [if_neg (by decide +kernel)]; exact ⟨rfl, rfl⟩))
    (fun os started H enc _ => lifted os started H enc)

set_option maxRecDepth 100000 in
theorem card : Rows.BatchBackCardSaid :=
  Claim7.holds_tied_plain_at .later [] kindsBoth true _ true
    proved (fun _ h => by cases h) (by kernel_rfl) (fun _ h => by cases h) batchBack_row_tie rfl ⟨rfl, rfl⟩ (by kernel_rfl) rfl
    (fun f fn hf hfn => by
      obtain rfl : f = 5 := Option.some.inj ((show Tryd.prog.funcNamed "turntable/turntablelaw04.BatchBack" = some 5 by kernel_rfl).symm.trans hf) |>.symm
      obtain rfl : fn = Tryd.f5 := (Option.some.inj (Tryd.func5.symm.trans hfn)).symm
      exact ⟨by kernel_rfl, fun j t ht => by
        rw [Tryd.params5] at ht
        have hm : t ∈ [22, 23] := by simpa using Array.mem_of_getElem? ht
        have hall : ([22, 23].all fun u => !Tryd.prog.wantsStandIn u) = true := by kernel_rfl
        exact (show Tryd.prog.wantsStandIn t = false by simpa using List.all_eq_true.1 hall t hm)⟩)
    (by kernel_rfl)
#print axioms card
end Go.Proofs.YtimelckjbofhbaaDoor.batchBack
