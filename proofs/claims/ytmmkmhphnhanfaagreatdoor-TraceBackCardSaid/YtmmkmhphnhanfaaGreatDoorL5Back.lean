/-
  P5.2, TraceBack: for all spans and all bytes the law returns true: a trace's spans are got of their bytes; what is got of any bytes is a trace's, and has them. No condition; what the row lists is tied to the program's text.
-/
import Derived.Test.YtmmkmhphnhanfaaGreatDoorTrHd
namespace Go.Proofs.YtmmkmhphnhanfaaGreatDoor.traceBack
open Go.ChangeShapes Go.WideShapes Go.ChangeAt Go.RowKit
set_option maxRecDepth 100000

theorem second (w : World) (hT : Handle w) (B : Option Addr) (nb capb : Nat) (b : List UInt8) (hnb : b.length = nb) (hlb : nb ≤ capb) (hmb : capb ≤ maxLen) (hB : Lies w B (cells b)) (h90 : nb ≤ 9000) :
    Calls Tryz.prog 14 #[.slice B nb capb] w fun e w' => ∃ (y : List Plain.Sp) (C : Nat) (A5 : Option Addr) (cap5 : Nat), e = .returned (.tuple #[.slice A5 y.length cap5, .int .i64 C]) ∧ y.length ≤ cap5 ∧ cap5 ≤ maxLen ∧ Lies w' A5 (flat y) ∧ Below w.heap.size w w' ∧ ((C = 0 ∧ Plain.isT y = true ∧ Plain.tput y = b) ∨ (C ≠ 0 ∧ y = [])) := by
  refine (tget_any B nb capb b w hT hnb hlb hmb (by omega) hB).mono ?_
  rintro e w' ⟨v, rfl, A5, cap5, rfl, h1, h2, h3, h4⟩
  refine ⟨(Plain.tget b).1, _, A5, cap5, rfl, h1, h2, h3, h4, ?_⟩
  by_cases h : (Plain.tget b).2 = 0
  · obtain ⟨q1, q2⟩ := Plain.tget_back (b := b) (l := (Plain.tget b).1) (by rw [← h])
    exact .inl ⟨h, q1, q2⟩
  · exact .inr ⟨h, Plain.tget_none b h⟩

set_option maxHeartbeats 8000000 in
theorem walk (w : World) (hT : Handle w) (A : Option Addr) (cap : Nat) (l : List Plain.Sp) (hl : l.length ≤ cap) (hm : cap ≤ maxLen) (hA : Lies w A (flat l)) (hS : ∀ x ∈ l, x.sv.length ≤ maxLen ∧ x.nm.length ≤ maxLen) (B : Option Addr) (capb : Nat) (b : List UInt8) (hlb : b.length ≤ capb) (hmb : capb ≤ maxLen) (hB : Lies w B (cells b)) :
    Calls Tryz.prog 4 #[.slice A l.length cap, .slice B b.length capb] w fun e w' => e = .returned (.bool true) ∧ Below w.heap.size w w' := by
  have HA := Lib.hid hA
  have HH := Lib.hid (show ∀ u, Below w.heap.size w u → Handle u from fun u h => hT.below hT.lt h)
  have HT := Lib.hid hT
  have HS := Lib.hid (show Fine l from hS)
  obtain ⟨n, hn⟩ : ∃ n, l.length = n := ⟨_, rfl⟩
  rw [hn] at hl ⊢
  have HN := Lib.hid hn
  have HM := Lib.hid hm
  unfold maxLen at hm
  clear hA hT hS hn
  have HB := Lib.hid hB
  obtain ⟨nb, hnb⟩ : ∃ nb, b.length = nb := ⟨_, rfl⟩
  rw [hnb] at hlb ⊢
  have HNB := Lib.hid hnb
  have HMB := Lib.hid hmb
  unfold maxLen at hmb
  clear hB hnb
  go_enter Tryz.func4, Tryz.ntmps4
  go_wp2_with fail
  refine (head_any w HT.out).mono ?_
  rintro e w1 ⟨rfl, c1⟩
  go_wp2_with fail
  refine (great_any A n cap l w1 HN.out hl HM.out (HA.out.below c1)).mono ?_
  rintro e w2 ⟨g, rfl, hg, d2⟩
  have c2 := c1.trans (d2.mono c1.size)
  rcases g with _ | _
  rotate_left
  · go_wp2
    go_ret
    exact ⟨rfl, c2⟩
  have h300 := hg rfl
  clear hg
  by_cases h90 : 9000 < nb
  · go_wp2
    go_ret
    exact ⟨rfl, c2⟩
  have HSO := Lib.hid (tsort_any A n cap l w2 HN.out (Nat.le_trans hl HM.out) (HA.out.below c2) HS.out)
  have hts := Plain.ts_isT (l := l)
  have htn := Plain.ts_no (l := l)
  have hf := fine_ts l
  have htl := Plain.ts_len l
  obtain ⟨R, hR⟩ : ∃ R, Plain.isT (Plain.srt l) = R := ⟨_, rfl⟩
  rw [hR] at HSO hts htn
  obtain ⟨s, hs⟩ : ∃ s, Plain.ts l = s := ⟨_, rfl⟩
  rw [hs] at HSO hts htn hf htl
  clear hR hs
  go_wp2_with fail
  refine HSO.out.mono ?_
  rintro e w3 ⟨v3, rfl, A3, cap3, rfl, hl3, hm3, hL3, d3⟩
  have c3 := c2.trans (d3.mono c2.size)
  obtain ⟨m3, hm3l⟩ : ∃ m3, s.length = m3 := ⟨_, rfl⟩
  have HP := Lib.hid (tput_any A3 m3 cap3 s w3 hm3l (by unfold maxLen; omega) hL3 hf)
  have HL3 := Lib.hid hL3
  have HSL := Lib.hid hm3l
  rw [hm3l] at hl3 htl ⊢
  have hpl := Plain.tput_len s
  have HPOS := Lib.hid (Plain.tput_pos s)
  have HGB := Lib.hid (Plain.tget_tput (l := s))
  obtain ⟨T, hTT⟩ : ∃ T, Plain.tput s = T := ⟨_, rfl⟩
  rw [hTT] at HP hpl HPOS HGB
  have HTS := Lib.hid hts
  have HTN := Lib.hid htn
  clear hTT hL3 hm3l hts htn hf HSO
  go_wp2_with fail
  refine HP.out.mono ?_
  rintro e w4 ⟨v4, rfl, ho4, d4⟩
  obtain ⟨A4, cap4, rfl, hl4, hm4, -, hL4⟩ := own_form ho4
  have c4 := c3.trans (d4.mono c3.size)
  have HL4 := Lib.hid hL4
  have HS4 := Lib.hid (HL3.out.below d4)
  clear ho4 hL4 HP
  obtain ⟨tl, htl4⟩ : ∃ tl, T.length = tl := ⟨_, rfl⟩
  rw [htl4] at hl4 hpl HPOS ⊢
  have HTL := Lib.hid htl4
  clear htl4
  rcases R with _ | _
  · have hs0 := HTN.out (by trivial)
    subst hs0
    have htl0 : tl = 0 := by
      rcases Nat.eq_zero_or_pos tl with h | h
      · exact h
      · have := HPOS.out.1 h; rw [Plain.isT_nil] at this; cases this
    subst htl0
    go_wp2_with fail
    refine (second w4 (HH.out _ c4) B nb capb b HNB.out hlb HMB.out (HB.out.below c4) (by omega)).mono ?_
    rintro e w6 ⟨y, C, A5, cap5, rfl, hl5, hm5, hL5, d6, hor⟩
    have c6 := c4.trans (d6.mono c4.size)
    have HL5 := Lib.hid hL5
    clear hL5
    have hbd : Below w6.heap.size w6 w6.drew := (Below.refl _ _).drew
    rcases hor with ⟨rfl, hty, hby⟩ | ⟨hC0, rfl⟩
    · obtain ⟨m, hm0⟩ : ∃ m, y.length = m := ⟨_, rfl⟩
      have hm64 := (Plain.isT_len hty).2
      have HRI := Lib.hid (fun (W : World) (h : Below w6.heap.size w6 W) => tright_any A5 m cap5 y W hm0 (by unfold maxLen; omega) (HL5.out.below h) (fine_isT hty))
      rw [hty] at HRI
      have HP5 := Lib.hid (fun (W : World) (h : Below w6.heap.size w6 W) => tput_any A5 m cap5 y W hm0 (by unfold maxLen; omega) (HL5.out.below h) (fine_isT hty))
      rw [hby] at HP5
      rw [hm0]
      have CV := Lib.hid (fun (W : World) (h : Below w6.heap.size w6 W) => show (convert 23 9 (.slice B nb capb)).run Tryz.prog W = .ok (.string (str b)) W by
        have := conv_str (P := Tryz.prog) (c := capb) (HB.out.below (c6.trans (h.mono c6.size))) 23 5 Tryz.underlying23 Tryz.underlying5 9 Tryz.underlying9
        rwa [HNB.out] at this)
      have EQT := Lib.hid (fun (W : World) => eqs_same W b)
      clear hm0 hby hty hl5
      go_wp2
      refine wp_soft (by kernel_rfl) 79 [(53, [5]), (54, [53]), (55, [12, 54]), (56, [55, 54]), (57, [56, 54]), (58, [11, 57]), (59, [58, 57]), (60, [59, 57]), (61, [57, 60, 54]), (62, [61, 54]), (63, [12, 62]), (64, [63, 62]), (65, [64, 62]), (66, [11, 65]), (67, [66, 65]), (68, [65, 67, 62]), (69, [68, 62]), (70, [11, 69]), (71, [70, 69]), (72, [71, 69]), (73, [1, 69]), (74, [73, 69]), (75, [72, 74, 69]), (76, [69, 75, 62]), (77, [62, 76, 54]), (78, [54, 77]), (4, [78])]
        [Fact.is (.bool true), Fact.is (.bool true), Fact.is (.int .i64 0), Fact.is (.bool false), Fact.is (.bool false), Fact.is (undef), Fact.is (undef), Fact.is (undef), Fact.is (.bool false), Fact.is (.bool false), Fact.is (.int .i64 0), Fact.is (.bool true), Fact.is (.bool true), Fact.is (.slice A5 m cap5), Fact.is (.bool true), Fact.is (.bool true), Fact.is (.bool true), Fact.is (.slice A5 m cap5), Fact.own b, Fact.is (.string (str b)), Fact.is (.slice B nb capb), Fact.is (.string (str b)), Fact.is (.bool true), Fact.is (.bool true), Fact.is (.bool true), Fact.is (.bool true), Fact.is (.bool true)]
        (by kernel_rfl) rfl rfl ⟨?s0, ?s1, ?s2, ?s3, ?s4, ?s5, ?s6, ?s7, ?s8, ?s9, ?s10, ?s11, ?s12, ?s13, ?s14, ?s15, ?s16, ?s17, ?s18, ?s19, ?s20, ?s21, ?s22, ?s23, ?s24, ?s25, ?s26, trivial⟩ ?fin
      case s0 =>
        intro ρ W hb hc hf hr
        obtain ⟨r5, -⟩ := hr
        have e5 : ρ (.tmp 5) = .bool true := r5
        clear r5
        refine under_none rfl ?_
        exact ⟨e5, Below.refl _ _⟩
      case s1 =>
        intro ρ W hb hc hf hr
        obtain ⟨r53, -⟩ := hr
        have e53 : ρ (.tmp 53) = .bool true := r53
        clear r53
        refine under_none rfl ?_
        exact ⟨e53, Below.refl _ _⟩
      case s2 =>
        intro ρ W hb hc hf hr
        obtain ⟨r12, r54, -⟩ := hr
        have e12 : ρ (.tmp 12) = .int .i64 0 := r12
        clear r12
        have e54 : ρ (.tmp 54) = .bool true := r54
        clear r54
        refine ⟨54, rfl, .inl ⟨e54, ?_⟩⟩
        exact ⟨e12, Below.refl _ _⟩
      case s3 =>
        intro ρ W hb hc hf hr
        obtain ⟨r55, r54, -⟩ := hr
        have e55 : ρ (.tmp 55) = .int .i64 0 := r55
        clear r55
        have e54 : ρ (.tmp 54) = .bool true := r54
        clear r54
        refine ⟨54, rfl, .inl ⟨e54, ?_⟩⟩
        simp [execOp, e55, hc, go_sem, softUpon, Fact.is, Below.refl]
      case s4 =>
        intro ρ W hb hc hf hr
        obtain ⟨r56, r54, -⟩ := hr
        have e56 : ρ (.tmp 56) = .bool false := r56
        clear r56
        have e54 : ρ (.tmp 54) = .bool true := r54
        clear r54
        refine ⟨54, rfl, .inl ⟨e54, ?_⟩⟩
        exact ⟨e56, Below.refl _ _⟩
      case s5 =>
        intro ρ W hb hc hf hr
        obtain ⟨r11, r57, -⟩ := hr
        have e11 : ρ (.tmp 11) = .slice A5 m cap5 := r11
        clear r11
        have e57 : ρ (.tmp 57) = .bool false := r57
        clear r57
        exact ⟨57, rfl, .inr (.inl ⟨e57, rfl⟩)⟩
      case s6 =>
        intro ρ W hb hc hf hr
        obtain ⟨r58, r57, -⟩ := hr
        have e58 : ρ (.tmp 58) = undef := r58
        clear r58
        have e57 : ρ (.tmp 57) = .bool false := r57
        clear r57
        exact ⟨57, rfl, .inr (.inl ⟨e57, rfl⟩)⟩
      case s7 =>
        intro ρ W hb hc hf hr
        obtain ⟨r59, r57, -⟩ := hr
        have e59 : ρ (.tmp 59) = undef := r59
        clear r59
        have e57 : ρ (.tmp 57) = .bool false := r57
        clear r57
        exact ⟨57, rfl, .inr (.inl ⟨e57, rfl⟩)⟩
      case s8 =>
        intro ρ W hb hc hf hr
        obtain ⟨r57, r60, r54, -⟩ := hr
        have e57 : ρ (.tmp 57) = .bool false := r57
        clear r57
        have e60 : ρ (.tmp 60) = undef := r60
        clear r60
        have e54 : ρ (.tmp 54) = .bool true := r54
        clear r54
        refine ⟨54, rfl, .inl ⟨e54, ?_⟩⟩
        simp [execOp, e57, hc, go_sem, softUpon, Fact.is, Below.refl]
      case s9 =>
        intro ρ W hb hc hf hr
        obtain ⟨r61, r54, -⟩ := hr
        have e61 : ρ (.tmp 61) = .bool false := r61
        clear r61
        have e54 : ρ (.tmp 54) = .bool true := r54
        clear r54
        refine ⟨54, rfl, .inl ⟨e54, ?_⟩⟩
        exact ⟨e61, Below.refl _ _⟩
      case s10 =>
        intro ρ W hb hc hf hr
        obtain ⟨r12, r62, -⟩ := hr
        have e12 : ρ (.tmp 12) = .int .i64 0 := r12
        clear r12
        have e62 : ρ (.tmp 62) = .bool false := r62
        clear r62
        refine ⟨62, rfl, .inl ⟨e62, ?_⟩⟩
        exact ⟨e12, Below.refl _ _⟩
      case s11 =>
        intro ρ W hb hc hf hr
        obtain ⟨r63, r62, -⟩ := hr
        have e63 : ρ (.tmp 63) = .int .i64 0 := r63
        clear r63
        have e62 : ρ (.tmp 62) = .bool false := r62
        clear r62
        refine ⟨62, rfl, .inl ⟨e62, ?_⟩⟩
        simp [execOp, e63, hc, go_sem, softUpon, Fact.is, Below.refl]
      case s12 =>
        intro ρ W hb hc hf hr
        obtain ⟨r64, r62, -⟩ := hr
        have e64 : ρ (.tmp 64) = .bool true := r64
        clear r64
        have e62 : ρ (.tmp 62) = .bool false := r62
        clear r62
        refine ⟨62, rfl, .inl ⟨e62, ?_⟩⟩
        exact ⟨e64, Below.refl _ _⟩
      case s13 =>
        intro ρ W hb hc hf hr
        obtain ⟨r11, r65, -⟩ := hr
        have e11 : ρ (.tmp 11) = .slice A5 m cap5 := r11
        clear r11
        have e65 : ρ (.tmp 65) = .bool true := r65
        clear r65
        refine ⟨65, rfl, .inl ⟨e65, ?_⟩⟩
        exact ⟨e11, Below.refl _ _⟩
      case s14 =>
        intro ρ W hb hc hf hr
        obtain ⟨r66, r65, -⟩ := hr
        have e66 : ρ (.tmp 66) = .slice A5 m cap5 := r66
        clear r66
        have e65 : ρ (.tmp 65) = .bool true := r65
        clear r65
        refine ⟨65, rfl, .inl ⟨e65, ?_⟩⟩
        exact soft_call1 hf e66 (HRI.out W (hbd.trans (hb.mono (by simp)))) rfl (by kernel_rfl) below_is
      case s15 =>
        intro ρ W hb hc hf hr
        obtain ⟨r65, r67, r62, -⟩ := hr
        have e65 : ρ (.tmp 65) = .bool true := r65
        clear r65
        have e67 : ρ (.tmp 67) = .bool true := r67
        clear r67
        have e62 : ρ (.tmp 62) = .bool false := r62
        clear r62
        refine ⟨62, rfl, .inl ⟨e62, ?_⟩⟩
        simp [execOp, e65, e67, go_sem, softUpon, Fact.is, Below.refl]
      case s16 =>
        intro ρ W hb hc hf hr
        obtain ⟨r68, r62, -⟩ := hr
        have e68 : ρ (.tmp 68) = .bool true := r68
        clear r68
        have e62 : ρ (.tmp 62) = .bool false := r62
        clear r62
        refine ⟨62, rfl, .inl ⟨e62, ?_⟩⟩
        exact ⟨e68, Below.refl _ _⟩
      case s17 =>
        intro ρ W hb hc hf hr
        obtain ⟨r11, r69, -⟩ := hr
        have e11 : ρ (.tmp 11) = .slice A5 m cap5 := r11
        clear r11
        have e69 : ρ (.tmp 69) = .bool true := r69
        clear r69
        refine ⟨69, rfl, .inl ⟨e69, ?_⟩⟩
        exact ⟨e11, Below.refl _ _⟩
      case s18 =>
        intro ρ W hb hc hf hr
        obtain ⟨r70, r69, -⟩ := hr
        have e70 : ρ (.tmp 70) = .slice A5 m cap5 := r70
        clear r70
        have e69 : ρ (.tmp 69) = .bool true := r69
        clear r69
        refine ⟨69, rfl, .inl ⟨e69, ?_⟩⟩
        exact soft_call1 hf e70 (HP5.out W (hbd.trans (hb.mono (by simp)))) rfl (by kernel_rfl) made_own
      case s19 =>
        intro ρ W hb hc hf hr
        obtain ⟨r71, r69, -⟩ := hr
        have e69 : ρ (.tmp 69) = .bool true := r69
        clear r69
        refine ⟨69, rfl, .inl ⟨e69, ?_⟩⟩
        exact soft_own r71 rfl
      case s20 =>
        intro ρ W hb hc hf hr
        obtain ⟨r1, r69, -⟩ := hr
        have e1 : ρ (.tmp 1) = .slice B nb capb := r1
        clear r1
        have e69 : ρ (.tmp 69) = .bool true := r69
        clear r69
        refine ⟨69, rfl, .inl ⟨e69, ?_⟩⟩
        exact ⟨e1, Below.refl _ _⟩
      case s21 =>
        intro ρ W hb hc hf hr
        obtain ⟨r73, r69, -⟩ := hr
        have e73 : ρ (.tmp 73) = .slice B nb capb := r73
        clear r73
        have e69 : ρ (.tmp 69) = .bool true := r69
        clear r69
        refine ⟨69, rfl, .inl ⟨e69, ?_⟩⟩
        exact soft_conv e73 (CV.out W (hbd.trans (hb.mono (by simp)))) rfl
      case s22 =>
        intro ρ W hb hc hf hr
        obtain ⟨r72, r74, r69, -⟩ := hr
        have e72 : ρ (.tmp 72) = .string (str b) := r72
        clear r72
        have e74 : ρ (.tmp 74) = .string (str b) := r74
        clear r74
        have e69 : ρ (.tmp 69) = .bool true := r69
        clear r69
        refine ⟨69, rfl, .inl ⟨e69, ?_⟩⟩
        exact soft_bin e72 e74 rfl rfl (EQT.out W)
      case s23 =>
        intro ρ W hb hc hf hr
        obtain ⟨r69, r75, r62, -⟩ := hr
        have e69 : ρ (.tmp 69) = .bool true := r69
        clear r69
        have e75 : ρ (.tmp 75) = .bool true := r75
        clear r75
        have e62 : ρ (.tmp 62) = .bool false := r62
        clear r62
        refine ⟨62, rfl, .inl ⟨e62, ?_⟩⟩
        simp [execOp, e69, e75, go_sem, softUpon, Fact.is, Below.refl]
      case s24 =>
        intro ρ W hb hc hf hr
        obtain ⟨r62, r76, r54, -⟩ := hr
        have e62 : ρ (.tmp 62) = .bool false := r62
        clear r62
        have e76 : ρ (.tmp 76) = .bool true := r76
        clear r76
        have e54 : ρ (.tmp 54) = .bool true := r54
        clear r54
        refine ⟨54, rfl, .inl ⟨e54, ?_⟩⟩
        simp [execOp, e62, e76, go_sem, softUpon, Fact.is, Below.refl]
      case s25 =>
        intro ρ W hb hc hf hr
        obtain ⟨r54, r77, -⟩ := hr
        have e54 : ρ (.tmp 54) = .bool true := r54
        clear r54
        have e77 : ρ (.tmp 77) = .bool true := r77
        clear r77
        refine under_none rfl ?_
        simp [execOp, e54, e77, go_sem, softUpon, Fact.is, Below.refl]
      case s26 =>
        intro ρ W hb hc hf hr
        obtain ⟨r78, -⟩ := hr
        have e78 : ρ (.tmp 78) = .bool true := r78
        clear r78
        refine under_none rfl ?_
        exact ⟨e78, Below.refl _ _⟩
      case fin =>
        intro a u4 hb hd hk
        have h4 : a.tmps.getD 4 undef = .bool true := hk 4
        clear hk
        go_wp2
        refine bodyPost_ret (results_tmp rfl _ _ _) hd ?_
        exact ⟨by rw [h4], c6.trans ((hbd.trans (hb.mono (by simp))).mono c6.size)⟩
    · have hl0 : ([] : List Plain.Sp).length = 0 := rfl
      rw [hl0]
      clear hl0
      go_wp2
      refine wp_soft (by kernel_rfl) 79 [(53, [5]), (54, [53]), (55, [12, 54]), (56, [55, 54]), (57, [56, 54]), (58, [11, 57]), (59, [58, 57]), (60, [59, 57]), (61, [57, 60, 54]), (62, [61, 54]), (63, [12, 62]), (64, [63, 62]), (65, [64, 62]), (66, [11, 65]), (67, [66, 65]), (68, [65, 67, 62]), (69, [68, 62]), (70, [11, 69]), (71, [70, 69]), (72, [71, 69]), (73, [1, 69]), (74, [73, 69]), (75, [72, 74, 69]), (76, [69, 75, 62]), (77, [62, 76, 54]), (78, [54, 77]), (4, [78])]
        [Fact.is (.bool true), Fact.is (.bool true), Fact.is (.int .i64 C), Fact.is (.bool true), Fact.is (.bool true), Fact.is (.slice A5 0 cap5), Fact.is (.int .i64 0), Fact.is (.bool true), Fact.is (.bool true), Fact.is (.bool true), Fact.is (undef), Fact.is (undef), Fact.is (undef), Fact.is (undef), Fact.is (undef), Fact.is (undef), Fact.is (undef), Fact.is (undef), Fact.is (undef), Fact.is (undef), Fact.is (undef), Fact.is (undef), Fact.is (undef), Fact.is (undef), Fact.is (.bool true), Fact.is (.bool true), Fact.is (.bool true)]
        (by kernel_rfl) rfl rfl ⟨?s0, ?s1, ?s2, ?s3, ?s4, ?s5, ?s6, ?s7, ?s8, ?s9, ?s10, ?s11, ?s12, ?s13, ?s14, ?s15, ?s16, ?s17, ?s18, ?s19, ?s20, ?s21, ?s22, ?s23, ?s24, ?s25, ?s26, trivial⟩ ?fin
      case s0 =>
        intro ρ W hb hc hf hr
        obtain ⟨r5, -⟩ := hr
        have e5 : ρ (.tmp 5) = .bool true := r5
        clear r5
        refine under_none rfl ?_
        exact ⟨e5, Below.refl _ _⟩
      case s1 =>
        intro ρ W hb hc hf hr
        obtain ⟨r53, -⟩ := hr
        have e53 : ρ (.tmp 53) = .bool true := r53
        clear r53
        refine under_none rfl ?_
        exact ⟨e53, Below.refl _ _⟩
      case s2 =>
        intro ρ W hb hc hf hr
        obtain ⟨r12, r54, -⟩ := hr
        have e12 : ρ (.tmp 12) = .int .i64 C := r12
        clear r12
        have e54 : ρ (.tmp 54) = .bool true := r54
        clear r54
        refine ⟨54, rfl, .inl ⟨e54, ?_⟩⟩
        exact ⟨e12, Below.refl _ _⟩
      case s3 =>
        intro ρ W hb hc hf hr
        obtain ⟨r55, r54, -⟩ := hr
        have e55 : ρ (.tmp 55) = .int .i64 C := r55
        clear r55
        have e54 : ρ (.tmp 54) = .bool true := r54
        clear r54
        refine ⟨54, rfl, .inl ⟨e54, ?_⟩⟩
        simp [execOp, e55, hc, hC0, go_sem, softUpon, Fact.is, Below.refl]
      case s4 =>
        intro ρ W hb hc hf hr
        obtain ⟨r56, r54, -⟩ := hr
        have e56 : ρ (.tmp 56) = .bool true := r56
        clear r56
        have e54 : ρ (.tmp 54) = .bool true := r54
        clear r54
        refine ⟨54, rfl, .inl ⟨e54, ?_⟩⟩
        exact ⟨e56, Below.refl _ _⟩
      case s5 =>
        intro ρ W hb hc hf hr
        obtain ⟨r11, r57, -⟩ := hr
        have e11 : ρ (.tmp 11) = .slice A5 0 cap5 := r11
        clear r11
        have e57 : ρ (.tmp 57) = .bool true := r57
        clear r57
        refine ⟨57, rfl, .inl ⟨e57, ?_⟩⟩
        exact ⟨e11, Below.refl _ _⟩
      case s6 =>
        intro ρ W hb hc hf hr
        obtain ⟨r58, r57, -⟩ := hr
        have e58 : ρ (.tmp 58) = .slice A5 0 cap5 := r58
        clear r58
        have e57 : ρ (.tmp 57) = .bool true := r57
        clear r57
        refine ⟨57, rfl, .inl ⟨e57, ?_⟩⟩
        simp [e58, go_sem, softUpon, Fact.is, Below.refl]
      case s7 =>
        intro ρ W hb hc hf hr
        obtain ⟨r59, r57, -⟩ := hr
        have e59 : ρ (.tmp 59) = .int .i64 0 := r59
        clear r59
        have e57 : ρ (.tmp 57) = .bool true := r57
        clear r57
        refine ⟨57, rfl, .inl ⟨e57, ?_⟩⟩
        simp [execOp, e59, hc, go_sem, softUpon, Fact.is, Below.refl]
      case s8 =>
        intro ρ W hb hc hf hr
        obtain ⟨r57, r60, r54, -⟩ := hr
        have e57 : ρ (.tmp 57) = .bool true := r57
        clear r57
        have e60 : ρ (.tmp 60) = .bool true := r60
        clear r60
        have e54 : ρ (.tmp 54) = .bool true := r54
        clear r54
        refine ⟨54, rfl, .inl ⟨e54, ?_⟩⟩
        simp [execOp, e57, e60, go_sem, softUpon, Fact.is, Below.refl]
      case s9 =>
        intro ρ W hb hc hf hr
        obtain ⟨r61, r54, -⟩ := hr
        have e61 : ρ (.tmp 61) = .bool true := r61
        clear r61
        have e54 : ρ (.tmp 54) = .bool true := r54
        clear r54
        refine ⟨54, rfl, .inl ⟨e54, ?_⟩⟩
        exact ⟨e61, Below.refl _ _⟩
      case s10 =>
        intro ρ W hb hc hf hr
        obtain ⟨r12, r62, -⟩ := hr
        have e12 : ρ (.tmp 12) = .int .i64 C := r12
        clear r12
        have e62 : ρ (.tmp 62) = .bool true := r62
        clear r62
        exact ⟨62, rfl, .inr (.inl ⟨e62, rfl⟩)⟩
      case s11 =>
        intro ρ W hb hc hf hr
        obtain ⟨r63, r62, -⟩ := hr
        have e63 : ρ (.tmp 63) = undef := r63
        clear r63
        have e62 : ρ (.tmp 62) = .bool true := r62
        clear r62
        exact ⟨62, rfl, .inr (.inl ⟨e62, rfl⟩)⟩
      case s12 =>
        intro ρ W hb hc hf hr
        obtain ⟨r64, r62, -⟩ := hr
        have e64 : ρ (.tmp 64) = undef := r64
        clear r64
        have e62 : ρ (.tmp 62) = .bool true := r62
        clear r62
        exact ⟨62, rfl, .inr (.inl ⟨e62, rfl⟩)⟩
      case s13 =>
        intro ρ W hb hc hf hr
        obtain ⟨r11, r65, -⟩ := hr
        have e11 : ρ (.tmp 11) = .slice A5 0 cap5 := r11
        clear r11
        have e65 : ρ (.tmp 65) = undef := r65
        clear r65
        exact ⟨65, rfl, .inr (.inr ⟨e65, rfl⟩)⟩
      case s14 =>
        intro ρ W hb hc hf hr
        obtain ⟨r66, r65, -⟩ := hr
        have e66 : ρ (.tmp 66) = undef := r66
        clear r66
        have e65 : ρ (.tmp 65) = undef := r65
        clear r65
        exact ⟨65, rfl, .inr (.inr ⟨e65, rfl⟩)⟩
      case s15 =>
        intro ρ W hb hc hf hr
        obtain ⟨r65, r67, r62, -⟩ := hr
        have e65 : ρ (.tmp 65) = undef := r65
        clear r65
        have e67 : ρ (.tmp 67) = undef := r67
        clear r67
        have e62 : ρ (.tmp 62) = .bool true := r62
        clear r62
        exact ⟨62, rfl, .inr (.inl ⟨e62, rfl⟩)⟩
      case s16 =>
        intro ρ W hb hc hf hr
        obtain ⟨r68, r62, -⟩ := hr
        have e68 : ρ (.tmp 68) = undef := r68
        clear r68
        have e62 : ρ (.tmp 62) = .bool true := r62
        clear r62
        exact ⟨62, rfl, .inr (.inl ⟨e62, rfl⟩)⟩
      case s17 =>
        intro ρ W hb hc hf hr
        obtain ⟨r11, r69, -⟩ := hr
        have e11 : ρ (.tmp 11) = .slice A5 0 cap5 := r11
        clear r11
        have e69 : ρ (.tmp 69) = undef := r69
        clear r69
        exact ⟨69, rfl, .inr (.inr ⟨e69, rfl⟩)⟩
      case s18 =>
        intro ρ W hb hc hf hr
        obtain ⟨r70, r69, -⟩ := hr
        have e70 : ρ (.tmp 70) = undef := r70
        clear r70
        have e69 : ρ (.tmp 69) = undef := r69
        clear r69
        exact ⟨69, rfl, .inr (.inr ⟨e69, rfl⟩)⟩
      case s19 =>
        intro ρ W hb hc hf hr
        obtain ⟨r71, r69, -⟩ := hr
        have e71 : ρ (.tmp 71) = undef := r71
        clear r71
        have e69 : ρ (.tmp 69) = undef := r69
        clear r69
        exact ⟨69, rfl, .inr (.inr ⟨e69, rfl⟩)⟩
      case s20 =>
        intro ρ W hb hc hf hr
        obtain ⟨r1, r69, -⟩ := hr
        have e1 : ρ (.tmp 1) = .slice B nb capb := r1
        clear r1
        have e69 : ρ (.tmp 69) = undef := r69
        clear r69
        exact ⟨69, rfl, .inr (.inr ⟨e69, rfl⟩)⟩
      case s21 =>
        intro ρ W hb hc hf hr
        obtain ⟨r73, r69, -⟩ := hr
        have e73 : ρ (.tmp 73) = undef := r73
        clear r73
        have e69 : ρ (.tmp 69) = undef := r69
        clear r69
        exact ⟨69, rfl, .inr (.inr ⟨e69, rfl⟩)⟩
      case s22 =>
        intro ρ W hb hc hf hr
        obtain ⟨r72, r74, r69, -⟩ := hr
        have e72 : ρ (.tmp 72) = undef := r72
        clear r72
        have e74 : ρ (.tmp 74) = undef := r74
        clear r74
        have e69 : ρ (.tmp 69) = undef := r69
        clear r69
        exact ⟨69, rfl, .inr (.inr ⟨e69, rfl⟩)⟩
      case s23 =>
        intro ρ W hb hc hf hr
        obtain ⟨r69, r75, r62, -⟩ := hr
        have e69 : ρ (.tmp 69) = undef := r69
        clear r69
        have e75 : ρ (.tmp 75) = undef := r75
        clear r75
        have e62 : ρ (.tmp 62) = .bool true := r62
        clear r62
        exact ⟨62, rfl, .inr (.inl ⟨e62, rfl⟩)⟩
      case s24 =>
        intro ρ W hb hc hf hr
        obtain ⟨r62, r76, r54, -⟩ := hr
        have e62 : ρ (.tmp 62) = .bool true := r62
        clear r62
        have e76 : ρ (.tmp 76) = undef := r76
        clear r76
        have e54 : ρ (.tmp 54) = .bool true := r54
        clear r54
        refine ⟨54, rfl, .inl ⟨e54, ?_⟩⟩
        simp [execOp, e62, hc, go_sem, softUpon, Fact.is, Below.refl]
      case s25 =>
        intro ρ W hb hc hf hr
        obtain ⟨r54, r77, -⟩ := hr
        have e54 : ρ (.tmp 54) = .bool true := r54
        clear r54
        have e77 : ρ (.tmp 77) = .bool true := r77
        clear r77
        refine under_none rfl ?_
        simp [execOp, e54, e77, go_sem, softUpon, Fact.is, Below.refl]
      case s26 =>
        intro ρ W hb hc hf hr
        obtain ⟨r78, -⟩ := hr
        have e78 : ρ (.tmp 78) = .bool true := r78
        clear r78
        refine under_none rfl ?_
        exact ⟨e78, Below.refl _ _⟩
      case fin =>
        intro a u4 hb hd hk
        have h4 : a.tmps.getD 4 undef = .bool true := hk 4
        clear hk
        go_wp2
        refine bodyPost_ret (results_tmp rfl _ _ _) hd ?_
        exact ⟨by rw [h4], c6.trans ((hbd.trans (hb.mono (by simp))).mono c6.size)⟩
  · have hTs := HTS.out (by trivial)
    have ht0 : 0 < tl := HPOS.out.2 hTs
    have hgb := HGB.out hTs
    have HG := Lib.hid (tget_any A4 tl cap4 T w4 (HH.out _ c4) HTL.out hl4 hm4 (by omega) HL4.out)
    rw [hgb] at HG
    clear hgb hTs HPOS HGB
    go_wp2_with fail
    refine HG.out.mono ?_
    rintro e w5 ⟨v5, rfl, A6, cap6, rfl, hl6, hm6, hL6, d5⟩
    have c5 := c4.trans (d5.mono c4.size)
    have HL6 := Lib.hid hL6
    simp only at hl6 HL6
    rw [HSL.out] at hl6
    simp only [HSL.out]
    have HSM := Lib.hid (same_any A6 A3 m3 m3 cap6 cap3 s s w5 HSL.out HSL.out hl6 hl3 hm6 hm3 HL6.out (HS4.out.below d5))
    rw [decide_eq_true rfl] at HSM
    clear hL6 HG
    go_wp2_with fail
    refine HSM.out.mono ?_
    rintro e w5' ⟨rfl, d5'⟩
    have c5' := c5.trans (d5'.mono c5.size)
    clear HSM
    go_wp2_with fail
    refine (second w5' (HH.out _ c5') B nb capb b HNB.out hlb HMB.out (HB.out.below c5') (by omega)).mono ?_
    rintro e w6 ⟨y, C, A5, cap5, rfl, hl5, hm5, hL5, d6, hor⟩
    have c6 := c5'.trans (d6.mono c5'.size)
    have HL5 := Lib.hid hL5
    clear hL5
    have hbd : Below w6.heap.size w6 w6.drew := (Below.refl _ _).drew
    rcases hor with ⟨rfl, hty, hby⟩ | ⟨hC0, rfl⟩
    · obtain ⟨m, hm0⟩ : ∃ m, y.length = m := ⟨_, rfl⟩
      have hm64 := (Plain.isT_len hty).2
      have HRI := Lib.hid (fun (W : World) (h : Below w6.heap.size w6 W) => tright_any A5 m cap5 y W hm0 (by unfold maxLen; omega) (HL5.out.below h) (fine_isT hty))
      rw [hty] at HRI
      have HP5 := Lib.hid (fun (W : World) (h : Below w6.heap.size w6 W) => tput_any A5 m cap5 y W hm0 (by unfold maxLen; omega) (HL5.out.below h) (fine_isT hty))
      rw [hby] at HP5
      rw [hm0]
      have CV := Lib.hid (fun (W : World) (h : Below w6.heap.size w6 W) => show (convert 23 9 (.slice B nb capb)).run Tryz.prog W = .ok (.string (str b)) W by
        have := conv_str (P := Tryz.prog) (c := capb) (HB.out.below (c6.trans (h.mono c6.size))) 23 5 Tryz.underlying23 Tryz.underlying5 9 Tryz.underlying9
        rwa [HNB.out] at this)
      have EQT := Lib.hid (fun (W : World) => eqs_same W b)
      clear hm0 hby hty hl5
      go_wp2
      refine wp_soft (by kernel_rfl) 79 [(53, [5]), (54, [53]), (55, [12, 54]), (56, [55, 54]), (57, [56, 54]), (58, [11, 57]), (59, [58, 57]), (60, [59, 57]), (61, [57, 60, 54]), (62, [61, 54]), (63, [12, 62]), (64, [63, 62]), (65, [64, 62]), (66, [11, 65]), (67, [66, 65]), (68, [65, 67, 62]), (69, [68, 62]), (70, [11, 69]), (71, [70, 69]), (72, [71, 69]), (73, [1, 69]), (74, [73, 69]), (75, [72, 74, 69]), (76, [69, 75, 62]), (77, [62, 76, 54]), (78, [54, 77]), (4, [78])]
        [Fact.is (.bool true), Fact.is (.bool true), Fact.is (.int .i64 0), Fact.is (.bool false), Fact.is (.bool false), Fact.is (undef), Fact.is (undef), Fact.is (undef), Fact.is (.bool false), Fact.is (.bool false), Fact.is (.int .i64 0), Fact.is (.bool true), Fact.is (.bool true), Fact.is (.slice A5 m cap5), Fact.is (.bool true), Fact.is (.bool true), Fact.is (.bool true), Fact.is (.slice A5 m cap5), Fact.own b, Fact.is (.string (str b)), Fact.is (.slice B nb capb), Fact.is (.string (str b)), Fact.is (.bool true), Fact.is (.bool true), Fact.is (.bool true), Fact.is (.bool true), Fact.is (.bool true)]
        (by kernel_rfl) rfl rfl ⟨?s0, ?s1, ?s2, ?s3, ?s4, ?s5, ?s6, ?s7, ?s8, ?s9, ?s10, ?s11, ?s12, ?s13, ?s14, ?s15, ?s16, ?s17, ?s18, ?s19, ?s20, ?s21, ?s22, ?s23, ?s24, ?s25, ?s26, trivial⟩ ?fin
      case s0 =>
        intro ρ W hb hc hf hr
        obtain ⟨r5, -⟩ := hr
        have e5 : ρ (.tmp 5) = .bool true := r5
        clear r5
        refine under_none rfl ?_
        exact ⟨e5, Below.refl _ _⟩
      case s1 =>
        intro ρ W hb hc hf hr
        obtain ⟨r53, -⟩ := hr
        have e53 : ρ (.tmp 53) = .bool true := r53
        clear r53
        refine under_none rfl ?_
        exact ⟨e53, Below.refl _ _⟩
      case s2 =>
        intro ρ W hb hc hf hr
        obtain ⟨r12, r54, -⟩ := hr
        have e12 : ρ (.tmp 12) = .int .i64 0 := r12
        clear r12
        have e54 : ρ (.tmp 54) = .bool true := r54
        clear r54
        refine ⟨54, rfl, .inl ⟨e54, ?_⟩⟩
        exact ⟨e12, Below.refl _ _⟩
      case s3 =>
        intro ρ W hb hc hf hr
        obtain ⟨r55, r54, -⟩ := hr
        have e55 : ρ (.tmp 55) = .int .i64 0 := r55
        clear r55
        have e54 : ρ (.tmp 54) = .bool true := r54
        clear r54
        refine ⟨54, rfl, .inl ⟨e54, ?_⟩⟩
        simp [execOp, e55, hc, go_sem, softUpon, Fact.is, Below.refl]
      case s4 =>
        intro ρ W hb hc hf hr
        obtain ⟨r56, r54, -⟩ := hr
        have e56 : ρ (.tmp 56) = .bool false := r56
        clear r56
        have e54 : ρ (.tmp 54) = .bool true := r54
        clear r54
        refine ⟨54, rfl, .inl ⟨e54, ?_⟩⟩
        exact ⟨e56, Below.refl _ _⟩
      case s5 =>
        intro ρ W hb hc hf hr
        obtain ⟨r11, r57, -⟩ := hr
        have e11 : ρ (.tmp 11) = .slice A5 m cap5 := r11
        clear r11
        have e57 : ρ (.tmp 57) = .bool false := r57
        clear r57
        exact ⟨57, rfl, .inr (.inl ⟨e57, rfl⟩)⟩
      case s6 =>
        intro ρ W hb hc hf hr
        obtain ⟨r58, r57, -⟩ := hr
        have e58 : ρ (.tmp 58) = undef := r58
        clear r58
        have e57 : ρ (.tmp 57) = .bool false := r57
        clear r57
        exact ⟨57, rfl, .inr (.inl ⟨e57, rfl⟩)⟩
      case s7 =>
        intro ρ W hb hc hf hr
        obtain ⟨r59, r57, -⟩ := hr
        have e59 : ρ (.tmp 59) = undef := r59
        clear r59
        have e57 : ρ (.tmp 57) = .bool false := r57
        clear r57
        exact ⟨57, rfl, .inr (.inl ⟨e57, rfl⟩)⟩
      case s8 =>
        intro ρ W hb hc hf hr
        obtain ⟨r57, r60, r54, -⟩ := hr
        have e57 : ρ (.tmp 57) = .bool false := r57
        clear r57
        have e60 : ρ (.tmp 60) = undef := r60
        clear r60
        have e54 : ρ (.tmp 54) = .bool true := r54
        clear r54
        refine ⟨54, rfl, .inl ⟨e54, ?_⟩⟩
        simp [execOp, e57, hc, go_sem, softUpon, Fact.is, Below.refl]
      case s9 =>
        intro ρ W hb hc hf hr
        obtain ⟨r61, r54, -⟩ := hr
        have e61 : ρ (.tmp 61) = .bool false := r61
        clear r61
        have e54 : ρ (.tmp 54) = .bool true := r54
        clear r54
        refine ⟨54, rfl, .inl ⟨e54, ?_⟩⟩
        exact ⟨e61, Below.refl _ _⟩
      case s10 =>
        intro ρ W hb hc hf hr
        obtain ⟨r12, r62, -⟩ := hr
        have e12 : ρ (.tmp 12) = .int .i64 0 := r12
        clear r12
        have e62 : ρ (.tmp 62) = .bool false := r62
        clear r62
        refine ⟨62, rfl, .inl ⟨e62, ?_⟩⟩
        exact ⟨e12, Below.refl _ _⟩
      case s11 =>
        intro ρ W hb hc hf hr
        obtain ⟨r63, r62, -⟩ := hr
        have e63 : ρ (.tmp 63) = .int .i64 0 := r63
        clear r63
        have e62 : ρ (.tmp 62) = .bool false := r62
        clear r62
        refine ⟨62, rfl, .inl ⟨e62, ?_⟩⟩
        simp [execOp, e63, hc, go_sem, softUpon, Fact.is, Below.refl]
      case s12 =>
        intro ρ W hb hc hf hr
        obtain ⟨r64, r62, -⟩ := hr
        have e64 : ρ (.tmp 64) = .bool true := r64
        clear r64
        have e62 : ρ (.tmp 62) = .bool false := r62
        clear r62
        refine ⟨62, rfl, .inl ⟨e62, ?_⟩⟩
        exact ⟨e64, Below.refl _ _⟩
      case s13 =>
        intro ρ W hb hc hf hr
        obtain ⟨r11, r65, -⟩ := hr
        have e11 : ρ (.tmp 11) = .slice A5 m cap5 := r11
        clear r11
        have e65 : ρ (.tmp 65) = .bool true := r65
        clear r65
        refine ⟨65, rfl, .inl ⟨e65, ?_⟩⟩
        exact ⟨e11, Below.refl _ _⟩
      case s14 =>
        intro ρ W hb hc hf hr
        obtain ⟨r66, r65, -⟩ := hr
        have e66 : ρ (.tmp 66) = .slice A5 m cap5 := r66
        clear r66
        have e65 : ρ (.tmp 65) = .bool true := r65
        clear r65
        refine ⟨65, rfl, .inl ⟨e65, ?_⟩⟩
        exact soft_call1 hf e66 (HRI.out W (hbd.trans (hb.mono (by simp)))) rfl (by kernel_rfl) below_is
      case s15 =>
        intro ρ W hb hc hf hr
        obtain ⟨r65, r67, r62, -⟩ := hr
        have e65 : ρ (.tmp 65) = .bool true := r65
        clear r65
        have e67 : ρ (.tmp 67) = .bool true := r67
        clear r67
        have e62 : ρ (.tmp 62) = .bool false := r62
        clear r62
        refine ⟨62, rfl, .inl ⟨e62, ?_⟩⟩
        simp [execOp, e65, e67, go_sem, softUpon, Fact.is, Below.refl]
      case s16 =>
        intro ρ W hb hc hf hr
        obtain ⟨r68, r62, -⟩ := hr
        have e68 : ρ (.tmp 68) = .bool true := r68
        clear r68
        have e62 : ρ (.tmp 62) = .bool false := r62
        clear r62
        refine ⟨62, rfl, .inl ⟨e62, ?_⟩⟩
        exact ⟨e68, Below.refl _ _⟩
      case s17 =>
        intro ρ W hb hc hf hr
        obtain ⟨r11, r69, -⟩ := hr
        have e11 : ρ (.tmp 11) = .slice A5 m cap5 := r11
        clear r11
        have e69 : ρ (.tmp 69) = .bool true := r69
        clear r69
        refine ⟨69, rfl, .inl ⟨e69, ?_⟩⟩
        exact ⟨e11, Below.refl _ _⟩
      case s18 =>
        intro ρ W hb hc hf hr
        obtain ⟨r70, r69, -⟩ := hr
        have e70 : ρ (.tmp 70) = .slice A5 m cap5 := r70
        clear r70
        have e69 : ρ (.tmp 69) = .bool true := r69
        clear r69
        refine ⟨69, rfl, .inl ⟨e69, ?_⟩⟩
        exact soft_call1 hf e70 (HP5.out W (hbd.trans (hb.mono (by simp)))) rfl (by kernel_rfl) made_own
      case s19 =>
        intro ρ W hb hc hf hr
        obtain ⟨r71, r69, -⟩ := hr
        have e69 : ρ (.tmp 69) = .bool true := r69
        clear r69
        refine ⟨69, rfl, .inl ⟨e69, ?_⟩⟩
        exact soft_own r71 rfl
      case s20 =>
        intro ρ W hb hc hf hr
        obtain ⟨r1, r69, -⟩ := hr
        have e1 : ρ (.tmp 1) = .slice B nb capb := r1
        clear r1
        have e69 : ρ (.tmp 69) = .bool true := r69
        clear r69
        refine ⟨69, rfl, .inl ⟨e69, ?_⟩⟩
        exact ⟨e1, Below.refl _ _⟩
      case s21 =>
        intro ρ W hb hc hf hr
        obtain ⟨r73, r69, -⟩ := hr
        have e73 : ρ (.tmp 73) = .slice B nb capb := r73
        clear r73
        have e69 : ρ (.tmp 69) = .bool true := r69
        clear r69
        refine ⟨69, rfl, .inl ⟨e69, ?_⟩⟩
        exact soft_conv e73 (CV.out W (hbd.trans (hb.mono (by simp)))) rfl
      case s22 =>
        intro ρ W hb hc hf hr
        obtain ⟨r72, r74, r69, -⟩ := hr
        have e72 : ρ (.tmp 72) = .string (str b) := r72
        clear r72
        have e74 : ρ (.tmp 74) = .string (str b) := r74
        clear r74
        have e69 : ρ (.tmp 69) = .bool true := r69
        clear r69
        refine ⟨69, rfl, .inl ⟨e69, ?_⟩⟩
        exact soft_bin e72 e74 rfl rfl (EQT.out W)
      case s23 =>
        intro ρ W hb hc hf hr
        obtain ⟨r69, r75, r62, -⟩ := hr
        have e69 : ρ (.tmp 69) = .bool true := r69
        clear r69
        have e75 : ρ (.tmp 75) = .bool true := r75
        clear r75
        have e62 : ρ (.tmp 62) = .bool false := r62
        clear r62
        refine ⟨62, rfl, .inl ⟨e62, ?_⟩⟩
        simp [execOp, e69, e75, go_sem, softUpon, Fact.is, Below.refl]
      case s24 =>
        intro ρ W hb hc hf hr
        obtain ⟨r62, r76, r54, -⟩ := hr
        have e62 : ρ (.tmp 62) = .bool false := r62
        clear r62
        have e76 : ρ (.tmp 76) = .bool true := r76
        clear r76
        have e54 : ρ (.tmp 54) = .bool true := r54
        clear r54
        refine ⟨54, rfl, .inl ⟨e54, ?_⟩⟩
        simp [execOp, e62, e76, go_sem, softUpon, Fact.is, Below.refl]
      case s25 =>
        intro ρ W hb hc hf hr
        obtain ⟨r54, r77, -⟩ := hr
        have e54 : ρ (.tmp 54) = .bool true := r54
        clear r54
        have e77 : ρ (.tmp 77) = .bool true := r77
        clear r77
        refine under_none rfl ?_
        simp [execOp, e54, e77, go_sem, softUpon, Fact.is, Below.refl]
      case s26 =>
        intro ρ W hb hc hf hr
        obtain ⟨r78, -⟩ := hr
        have e78 : ρ (.tmp 78) = .bool true := r78
        clear r78
        refine under_none rfl ?_
        exact ⟨e78, Below.refl _ _⟩
      case fin =>
        intro a u4 hb hd hk
        have h4 : a.tmps.getD 4 undef = .bool true := hk 4
        clear hk
        go_wp2
        refine bodyPost_ret (results_tmp rfl _ _ _) hd ?_
        exact ⟨by rw [h4], c6.trans ((hbd.trans (hb.mono (by simp))).mono c6.size)⟩
    · have hl0 : ([] : List Plain.Sp).length = 0 := rfl
      rw [hl0]
      clear hl0
      go_wp2
      refine wp_soft (by kernel_rfl) 79 [(53, [5]), (54, [53]), (55, [12, 54]), (56, [55, 54]), (57, [56, 54]), (58, [11, 57]), (59, [58, 57]), (60, [59, 57]), (61, [57, 60, 54]), (62, [61, 54]), (63, [12, 62]), (64, [63, 62]), (65, [64, 62]), (66, [11, 65]), (67, [66, 65]), (68, [65, 67, 62]), (69, [68, 62]), (70, [11, 69]), (71, [70, 69]), (72, [71, 69]), (73, [1, 69]), (74, [73, 69]), (75, [72, 74, 69]), (76, [69, 75, 62]), (77, [62, 76, 54]), (78, [54, 77]), (4, [78])]
        [Fact.is (.bool true), Fact.is (.bool true), Fact.is (.int .i64 C), Fact.is (.bool true), Fact.is (.bool true), Fact.is (.slice A5 0 cap5), Fact.is (.int .i64 0), Fact.is (.bool true), Fact.is (.bool true), Fact.is (.bool true), Fact.is (undef), Fact.is (undef), Fact.is (undef), Fact.is (undef), Fact.is (undef), Fact.is (undef), Fact.is (undef), Fact.is (undef), Fact.is (undef), Fact.is (undef), Fact.is (undef), Fact.is (undef), Fact.is (undef), Fact.is (undef), Fact.is (.bool true), Fact.is (.bool true), Fact.is (.bool true)]
        (by kernel_rfl) rfl rfl ⟨?s0, ?s1, ?s2, ?s3, ?s4, ?s5, ?s6, ?s7, ?s8, ?s9, ?s10, ?s11, ?s12, ?s13, ?s14, ?s15, ?s16, ?s17, ?s18, ?s19, ?s20, ?s21, ?s22, ?s23, ?s24, ?s25, ?s26, trivial⟩ ?fin
      case s0 =>
        intro ρ W hb hc hf hr
        obtain ⟨r5, -⟩ := hr
        have e5 : ρ (.tmp 5) = .bool true := r5
        clear r5
        refine under_none rfl ?_
        exact ⟨e5, Below.refl _ _⟩
      case s1 =>
        intro ρ W hb hc hf hr
        obtain ⟨r53, -⟩ := hr
        have e53 : ρ (.tmp 53) = .bool true := r53
        clear r53
        refine under_none rfl ?_
        exact ⟨e53, Below.refl _ _⟩
      case s2 =>
        intro ρ W hb hc hf hr
        obtain ⟨r12, r54, -⟩ := hr
        have e12 : ρ (.tmp 12) = .int .i64 C := r12
        clear r12
        have e54 : ρ (.tmp 54) = .bool true := r54
        clear r54
        refine ⟨54, rfl, .inl ⟨e54, ?_⟩⟩
        exact ⟨e12, Below.refl _ _⟩
      case s3 =>
        intro ρ W hb hc hf hr
        obtain ⟨r55, r54, -⟩ := hr
        have e55 : ρ (.tmp 55) = .int .i64 C := r55
        clear r55
        have e54 : ρ (.tmp 54) = .bool true := r54
        clear r54
        refine ⟨54, rfl, .inl ⟨e54, ?_⟩⟩
        simp [execOp, e55, hc, hC0, go_sem, softUpon, Fact.is, Below.refl]
      case s4 =>
        intro ρ W hb hc hf hr
        obtain ⟨r56, r54, -⟩ := hr
        have e56 : ρ (.tmp 56) = .bool true := r56
        clear r56
        have e54 : ρ (.tmp 54) = .bool true := r54
        clear r54
        refine ⟨54, rfl, .inl ⟨e54, ?_⟩⟩
        exact ⟨e56, Below.refl _ _⟩
      case s5 =>
        intro ρ W hb hc hf hr
        obtain ⟨r11, r57, -⟩ := hr
        have e11 : ρ (.tmp 11) = .slice A5 0 cap5 := r11
        clear r11
        have e57 : ρ (.tmp 57) = .bool true := r57
        clear r57
        refine ⟨57, rfl, .inl ⟨e57, ?_⟩⟩
        exact ⟨e11, Below.refl _ _⟩
      case s6 =>
        intro ρ W hb hc hf hr
        obtain ⟨r58, r57, -⟩ := hr
        have e58 : ρ (.tmp 58) = .slice A5 0 cap5 := r58
        clear r58
        have e57 : ρ (.tmp 57) = .bool true := r57
        clear r57
        refine ⟨57, rfl, .inl ⟨e57, ?_⟩⟩
        simp [e58, go_sem, softUpon, Fact.is, Below.refl]
      case s7 =>
        intro ρ W hb hc hf hr
        obtain ⟨r59, r57, -⟩ := hr
        have e59 : ρ (.tmp 59) = .int .i64 0 := r59
        clear r59
        have e57 : ρ (.tmp 57) = .bool true := r57
        clear r57
        refine ⟨57, rfl, .inl ⟨e57, ?_⟩⟩
        simp [execOp, e59, hc, go_sem, softUpon, Fact.is, Below.refl]
      case s8 =>
        intro ρ W hb hc hf hr
        obtain ⟨r57, r60, r54, -⟩ := hr
        have e57 : ρ (.tmp 57) = .bool true := r57
        clear r57
        have e60 : ρ (.tmp 60) = .bool true := r60
        clear r60
        have e54 : ρ (.tmp 54) = .bool true := r54
        clear r54
        refine ⟨54, rfl, .inl ⟨e54, ?_⟩⟩
        simp [execOp, e57, e60, go_sem, softUpon, Fact.is, Below.refl]
      case s9 =>
        intro ρ W hb hc hf hr
        obtain ⟨r61, r54, -⟩ := hr
        have e61 : ρ (.tmp 61) = .bool true := r61
        clear r61
        have e54 : ρ (.tmp 54) = .bool true := r54
        clear r54
        refine ⟨54, rfl, .inl ⟨e54, ?_⟩⟩
        exact ⟨e61, Below.refl _ _⟩
      case s10 =>
        intro ρ W hb hc hf hr
        obtain ⟨r12, r62, -⟩ := hr
        have e12 : ρ (.tmp 12) = .int .i64 C := r12
        clear r12
        have e62 : ρ (.tmp 62) = .bool true := r62
        clear r62
        exact ⟨62, rfl, .inr (.inl ⟨e62, rfl⟩)⟩
      case s11 =>
        intro ρ W hb hc hf hr
        obtain ⟨r63, r62, -⟩ := hr
        have e63 : ρ (.tmp 63) = undef := r63
        clear r63
        have e62 : ρ (.tmp 62) = .bool true := r62
        clear r62
        exact ⟨62, rfl, .inr (.inl ⟨e62, rfl⟩)⟩
      case s12 =>
        intro ρ W hb hc hf hr
        obtain ⟨r64, r62, -⟩ := hr
        have e64 : ρ (.tmp 64) = undef := r64
        clear r64
        have e62 : ρ (.tmp 62) = .bool true := r62
        clear r62
        exact ⟨62, rfl, .inr (.inl ⟨e62, rfl⟩)⟩
      case s13 =>
        intro ρ W hb hc hf hr
        obtain ⟨r11, r65, -⟩ := hr
        have e11 : ρ (.tmp 11) = .slice A5 0 cap5 := r11
        clear r11
        have e65 : ρ (.tmp 65) = undef := r65
        clear r65
        exact ⟨65, rfl, .inr (.inr ⟨e65, rfl⟩)⟩
      case s14 =>
        intro ρ W hb hc hf hr
        obtain ⟨r66, r65, -⟩ := hr
        have e66 : ρ (.tmp 66) = undef := r66
        clear r66
        have e65 : ρ (.tmp 65) = undef := r65
        clear r65
        exact ⟨65, rfl, .inr (.inr ⟨e65, rfl⟩)⟩
      case s15 =>
        intro ρ W hb hc hf hr
        obtain ⟨r65, r67, r62, -⟩ := hr
        have e65 : ρ (.tmp 65) = undef := r65
        clear r65
        have e67 : ρ (.tmp 67) = undef := r67
        clear r67
        have e62 : ρ (.tmp 62) = .bool true := r62
        clear r62
        exact ⟨62, rfl, .inr (.inl ⟨e62, rfl⟩)⟩
      case s16 =>
        intro ρ W hb hc hf hr
        obtain ⟨r68, r62, -⟩ := hr
        have e68 : ρ (.tmp 68) = undef := r68
        clear r68
        have e62 : ρ (.tmp 62) = .bool true := r62
        clear r62
        exact ⟨62, rfl, .inr (.inl ⟨e62, rfl⟩)⟩
      case s17 =>
        intro ρ W hb hc hf hr
        obtain ⟨r11, r69, -⟩ := hr
        have e11 : ρ (.tmp 11) = .slice A5 0 cap5 := r11
        clear r11
        have e69 : ρ (.tmp 69) = undef := r69
        clear r69
        exact ⟨69, rfl, .inr (.inr ⟨e69, rfl⟩)⟩
      case s18 =>
        intro ρ W hb hc hf hr
        obtain ⟨r70, r69, -⟩ := hr
        have e70 : ρ (.tmp 70) = undef := r70
        clear r70
        have e69 : ρ (.tmp 69) = undef := r69
        clear r69
        exact ⟨69, rfl, .inr (.inr ⟨e69, rfl⟩)⟩
      case s19 =>
        intro ρ W hb hc hf hr
        obtain ⟨r71, r69, -⟩ := hr
        have e71 : ρ (.tmp 71) = undef := r71
        clear r71
        have e69 : ρ (.tmp 69) = undef := r69
        clear r69
        exact ⟨69, rfl, .inr (.inr ⟨e69, rfl⟩)⟩
      case s20 =>
        intro ρ W hb hc hf hr
        obtain ⟨r1, r69, -⟩ := hr
        have e1 : ρ (.tmp 1) = .slice B nb capb := r1
        clear r1
        have e69 : ρ (.tmp 69) = undef := r69
        clear r69
        exact ⟨69, rfl, .inr (.inr ⟨e69, rfl⟩)⟩
      case s21 =>
        intro ρ W hb hc hf hr
        obtain ⟨r73, r69, -⟩ := hr
        have e73 : ρ (.tmp 73) = undef := r73
        clear r73
        have e69 : ρ (.tmp 69) = undef := r69
        clear r69
        exact ⟨69, rfl, .inr (.inr ⟨e69, rfl⟩)⟩
      case s22 =>
        intro ρ W hb hc hf hr
        obtain ⟨r72, r74, r69, -⟩ := hr
        have e72 : ρ (.tmp 72) = undef := r72
        clear r72
        have e74 : ρ (.tmp 74) = undef := r74
        clear r74
        have e69 : ρ (.tmp 69) = undef := r69
        clear r69
        exact ⟨69, rfl, .inr (.inr ⟨e69, rfl⟩)⟩
      case s23 =>
        intro ρ W hb hc hf hr
        obtain ⟨r69, r75, r62, -⟩ := hr
        have e69 : ρ (.tmp 69) = undef := r69
        clear r69
        have e75 : ρ (.tmp 75) = undef := r75
        clear r75
        have e62 : ρ (.tmp 62) = .bool true := r62
        clear r62
        exact ⟨62, rfl, .inr (.inl ⟨e62, rfl⟩)⟩
      case s24 =>
        intro ρ W hb hc hf hr
        obtain ⟨r62, r76, r54, -⟩ := hr
        have e62 : ρ (.tmp 62) = .bool true := r62
        clear r62
        have e76 : ρ (.tmp 76) = undef := r76
        clear r76
        have e54 : ρ (.tmp 54) = .bool true := r54
        clear r54
        refine ⟨54, rfl, .inl ⟨e54, ?_⟩⟩
        simp [execOp, e62, hc, go_sem, softUpon, Fact.is, Below.refl]
      case s25 =>
        intro ρ W hb hc hf hr
        obtain ⟨r54, r77, -⟩ := hr
        have e54 : ρ (.tmp 54) = .bool true := r54
        clear r54
        have e77 : ρ (.tmp 77) = .bool true := r77
        clear r77
        refine under_none rfl ?_
        simp [execOp, e54, e77, go_sem, softUpon, Fact.is, Below.refl]
      case s26 =>
        intro ρ W hb hc hf hr
        obtain ⟨r78, -⟩ := hr
        have e78 : ρ (.tmp 78) = .bool true := r78
        clear r78
        refine under_none rfl ?_
        exact ⟨e78, Below.refl _ _⟩
      case fin =>
        intro a u4 hb hd hk
        have h4 : a.tmps.getD 4 undef = .bool true := hk 4
        clear hk
        go_wp2
        refine bodyPost_ret (results_tmp rfl _ _ _) hd ?_
        exact ⟨by rw [h4], c6.trans ((hbd.trans (hb.mono (by simp))).mono c6.size)⟩


set_option maxRecDepth 100000 in
theorem lifted (os : Os) (started : os.Started) (H : Type) (enc : TypeId × Value → H) :
    ReturnsInHanded {} Tryz.checked os 4 .any (fun w args => (Rows.traceBackSpec.pre enc Tryz.prog Tryz.f4 [] false w args ∧ laidMetH Tryz.prog laidHere w) ∧ sizedMet enc Tryz.prog Tryz.f4 (OpenSpec.ofChange Rows.traceBackSpec) false w args) (Rows.traceBackSpec.post enc Tryz.prog Tryz.f4 false true false false) := by
  refine returnsInHanded_of_change_and (C := Tryz.checked) (X := fun w _ => laidMetH Tryz.prog laidHere w) (fun _ _ _ hh h => h.of_heap hh) own started (by kernel_rfl) Tryz.func4
    (ChangeSpec.witness_at (enc := enc) (C := Tryz.checked) (os := os) (X := fun w _ => laidMetH Tryz.prog laidHere w) false (laidWorld os) #[.slice none 0 0, .slice none 0 0] 8 rfl (by kernel_rfl) (by kernel_rfl) (by kernel_rfl) (by kernel_rfl) (by kernel_rfl) (laidWorld_met os _)) ?_
  intro W base args ds gs before hval0 hW _ _ hL _
  have hval : ∀ (j : Nat) t v, Tryz.f4.params[j]? = some t → args[j]? = some v → Value.okWide Tryz.prog W .any base t v := hval0
  have hfin := fun W' => law_post (enc := enc) (P := Tryz.prog) (f := Tryz.f4) (s := Rows.traceBackSpec) (tb := 4) (W := W) (W' := W') (args := args) (ds := ds) (gs := gs) (before := before) laidOut rfl (by kernel_rfl) Tryz.underlying4 (by kernel_rfl) (fun xs h => by rw [Tryz.params4] at h; match xs, h with | [_, _], _ => rfl) hW
  have hlt : ∀ x ∈ before, x.block < W.heap.size := fun x hx => hW.lt x hx
  obtain ⟨p, q, hA0, hV, rfl, hfz, hnd⟩ := hW
  have hA : DataW.TrodAll enc Tryz.prog W 0 (fun _ => true) true Tryz.f4.params.toList args.toList ds p := hA0
  rw [Tryz.params4] at hA hval
  obtain ⟨v0, vs0, d0, ds0, p0, q0, hargs, rfl, rfl, h0, r0⟩ := trodAll_cons hA
  obtain ⟨v1, vs1, d1, ds1, p1, q1, rfl, rfl, rfl, h1, r1⟩ := trodAll_cons r0
  obtain ⟨rfl, rfl, rfl⟩ := trodAll_nil r1
  obtain rfl : args = #[v0, v1] := by cases args; simp_all
  obtain ⟨A0, cap0, l0, rfl, hl0, hm0, hB0, hS0⟩ := open_spans (hval 0 22 v0 rfl rfl) h0 (fun x hx => hlt x (by simp [hx]))
  obtain ⟨A1, cap1, b1, rfl, hl1, hm1, hB1⟩ := open_bytes (hval 1 23 v1 rfl rfl) h1 (fun x hx => hlt x (by simp [hx]))
  refine (walk W (of_laid hL) A0 cap0 l0 hl0 hm0 hB0 hS0 A1 cap1 b1 hl1 hm1 hB1).mono fun e W' ⟨he, hg⟩ => ?_
  subst he
  exact ⟨_, rfl, hfin W' hg⟩

theorem proved : Rows.TraceBackSaid :=
  OpenClaim.holds_of_wide 4 Tryz.f4 rfl rfl rfl rfl rfl rfl rfl ⟨rfl, rfl, rfl, rfl, rfl⟩ rfl rfl rfl rfl rfl (by kernel_rfl) Tryz.func4 (by kernel_rfl)
    (of_decide_eq_true (by kernel_rfl)) (by unfold Func.isWrapper; first | (rw [if_pos (by decide +kernel)]; kernel_rfl) | (rw [if_neg (by decide +kernel)]; exact ⟨rfl, rfl⟩))
    (fun os started H enc _ => lifted os started H enc)

set_option maxRecDepth 100000 in
theorem card : Rows.TraceBackCardSaid :=
  Claim7.holds_tied_plain_at .later [] laidKindsHere true _ true
    proved (fun _ h => by cases h) (by kernel_rfl) (fun _ h => by cases h) traceBack_row_tie rfl ⟨rfl, rfl⟩ (by kernel_rfl) rfl
    (fun f fn hf hfn => by
      obtain rfl : f = 4 := Option.some.inj ((show Tryz.prog.funcNamed "turntable/turntablelaw05.TraceBack" = some 4 by kernel_rfl).symm.trans hf) |>.symm
      obtain rfl : fn = Tryz.f4 := (Option.some.inj (Tryz.func4.symm.trans hfn)).symm
      exact ⟨by kernel_rfl, fun j t ht => by
        rw [Tryz.params4] at ht
        have hm : t ∈ [22, 23] := by simpa using Array.mem_of_getElem? ht
        have hall : ([22, 23].all fun u => !Tryz.prog.wantsStandIn u) = true := by kernel_rfl
        exact (show Tryz.prog.wantsStandIn t = false by simpa using List.all_eq_true.1 hall t hm)⟩)
    (by kernel_rfl)
#print axioms card
end Go.Proofs.YtmmkmhphnhanfaaGreatDoor.traceBack
