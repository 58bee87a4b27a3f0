/-
  P13.1, RecTrace: for all spans, classes, ticks and pins the law returns true: a trace's record is right just if its spans are a trace's, with a class and a tick that may be, if it fits a frame; with another number it is not right. No condition; what the row lists is tied to the program's text.
-/
import Derived.Test.YtdfeccmcefcpbaaDoorL13U
namespace Go.Proofs.YtdfeccmcefcpbaaDoor.recTrace
open Go.ChangeShapes Go.WideShapes Go.ChangeAt Go.RowKit
set_option maxRecDepth 100000

theorem fineT {l : List Plain.Sp} (h : Plain.isT l = true) : Fine l := by
  intro z hz
  have := (Plain.Sp.right_iff z).1 (Plain.isT_right h z hz)
  unfold maxLen
  omega
theorem fineS (l : List Plain.Sp) : Fine (Plain.ts l) := by
  by_cases h : Plain.isT (Plain.srt l) = true
  · rw [Plain.ts_yes h]; exact fineT h
  · rw [Plain.ts_no (by simpa using h)]; intro x hx; cases hx
theorem head_in {S : List Plain.Sp} (h : Plain.isT S = true) : 1 ≤ (S.headD Plain.Sp.zero).t ∧ (S.headD Plain.Sp.zero).t ≤ 281474976710656 := by
  have hl := Plain.isT_len h
  rw [head_at (by omega)]
  have := (Plain.Sp.right_iff _).1 (Plain.isT_right h S[0] (List.getElem_mem (by omega)))
  omega
theorem right_no {S : List Plain.Sp} (h : Plain.isT S = false) (id cls tick : Int) (pin : Bool) : Rc.right ⟨1, id, cls, tick, pin, S⟩ = false := by
  cases hr : Rc.right ⟨1, id, cls, tick, pin, S⟩ with
  | false => rfl
  | true =>
    obtain ⟨-, -, ⟨-, -, h1, -⟩ | ⟨h1, -⟩⟩ := (Rc.may_iff _).1 ((Rc.right_iff _).1 hr).1
    · simp only at h1; rw [h] at h1; cases h1
    · exact absurd rfl h1
theorem right_other {S : List Plain.Sp} (id cls tick : Int) (pin : Bool) (h : (S.headD Plain.Sp.zero).t ≠ id) : Rc.right ⟨1, id, cls, tick, pin, S⟩ = false := by
  cases hr : Rc.right ⟨1, id, cls, tick, pin, S⟩ with
  | false => rfl
  | true =>
    obtain ⟨-, -, ⟨-, -, -, h1⟩ | ⟨h1, -⟩⟩ := (Rc.may_iff _).1 ((Rc.right_iff _).1 hr).1
    · exact absurd h1 h
    · exact absurd rfl h1
theorem right_bad {S : List Plain.Sp} (id cls tick : Int) (pin : Bool) (h : ¬ ((0 ≤ cls ∧ cls ≤ 7) ∧ (0 ≤ tick ∧ tick ≤ 281474976710656))) : Rc.right ⟨1, id, cls, tick, pin, S⟩ = false := by
  cases hr : Rc.right ⟨1, id, cls, tick, pin, S⟩ with
  | false => rfl
  | true =>
    obtain ⟨-, h0, ⟨-, h2, -, h1⟩ | ⟨h1, -⟩⟩ := (Rc.may_iff _).1 ((Rc.right_iff _).1 hr).1
    · exact absurd ⟨h0, h2⟩ h
    · exact absurd rfl h1
theorem right_ok {S : List Plain.Sp} (hT : Plain.isT S = true) (cls tick : Int) (pin : Bool) (h1 : 0 ≤ cls ∧ cls ≤ 7) (h2 : 0 ≤ tick ∧ tick ≤ 281474976710656) (hc : Rc.cost S ≤ 3600) : Rc.right ⟨1, (S.headD Plain.Sp.zero).t, cls, tick, pin, S⟩ = true := by
  refine (Rc.right_iff _).2 ⟨(Rc.may_iff _).2 ⟨head_in hT, h1, .inl ⟨rfl, h2, hT, rfl⟩⟩, fun _ => ?_⟩
  rw [Rc.bytes_seal _ rfl]
  have hp := Rc.put_pos tick h2
  have ht := (Plain.tput_pos S).2 hT
  unfold Rc.cost at hc
  rw [if_neg (by omega)] at hc
  simp only [List.length_cons, List.length_append]
  omega

set_option maxHeartbeats 16000000 in
theorem walkN (w : World) (hH : Handle w) (A : Option Addr) (n cap : Nat) (l : List Plain.Sp) (hn : l.length = n) (hl : n ≤ cap) (hm : cap ≤ maxLen) (hA : Lies w A (flat l)) (hS : Fine l) (cls tick : Int) (pin : Bool) :
    Calls Tryd.prog 6 #[.slice A n cap, .int .i64 cls, .int .i64 tick, .bool pin] w fun e w' => e = .returned (.bool true) ∧ Below w.heap.size w w' := by
  have HG := Lib.hid (fun (W : World) (h : Below w.heap.size w W) => great_any A n cap l W hn hl hm (hA.below h))
  have HST := Lib.hid (fun (W : World) (h : Below w.heap.size w W) => rtsort_any A n cap l W hn (hA.below h) hS)
  have hIT : Plain.isT (Plain.srt l) = true → Plain.isT (Plain.ts l) = true := fun h => Plain.ts_isT h
  have hIF : Plain.isT (Plain.srt l) = false → Plain.ts l = [] := fun h => Plain.ts_no h
  have hfs := fineS l
  have hlen := Plain.ts_len l
  obtain ⟨S, hSS⟩ : ∃ S, Plain.ts l = S := ⟨_, rfl⟩
  obtain ⟨IS, hIS⟩ : ∃ IS, Plain.isT (Plain.srt l) = IS := ⟨_, rfl⟩
  unfold GivesS at HST
  rw [hSS, hIS] at HST
  rw [hIS, hSS] at hIT hIF
  rw [hSS] at hfs hlen
  obtain ⟨n3, hn3⟩ : ∃ n3, S.length = n3 := ⟨_, rfl⟩
  rw [hn3] at HST hlen
  have HR := Lib.hid (fun (id : Int) (A3 : Option Addr) (c3 : Nat) (W : World) (h1 : n3 ≤ c3) (h2 : c3 ≤ maxLen) (h3 : Lies W A3 (flat S)) => dright13_any ⟨1, id, cls, tick, pin, S⟩ A3 n3 c3 W hn3 (by omega) h3 hfs)
  have HC := Lib.hid (fun (A3 : Option Addr) (c3 : Nat) (W : World) (h1 : n3 ≤ c3) (h2 : c3 ≤ maxLen) (h3 : Lies W A3 (flat S)) => dcost13_any A3 n3 c3 S W hn3 (by omega) h3 hfs)
  unfold recV recCs at HR
  simp only at HR
  have HH0 := Lib.hid (up13_any w hH)
  have HN3 := Lib.hid hn3
  clear hSS hIS hfs hn3 hn hl hm hA hS hH
  cases IS with
  | false =>
    have hT : Plain.isT S = false := by rw [hIF rfl]; exact Plain.isT_empty (by simp)
    go_enter Tryd.func6, Tryd.ntmps6
    go_wp2_with fail
    refine HH0.out.mono ?_
    rintro e w1 ⟨rfl, hb1⟩
    have HB1 := Lib.hid hb1
    clear hb1
    go_wp2_with fail
    refine (HG.out w1 HB1.out).mono ?_
    rintro e w2 ⟨g, rfl, -, hb2⟩
    have HB2 := Lib.hid (HB1.out.trans (hb2.mono HB1.out.size))
    clear hb2
    rcases g with _ | _
    rotate_left
    · go_wp2
      go_ret
      exact ⟨rfl, HB2.out⟩
    have HST1 := Lib.hid (HST.out w2 HB2.out)
    go_wp2_with fail
    refine HST1.out.mono ?_
    rintro e w3 ⟨v, rfl, A3, c3, rfl, hl3, hm3, hL3, hb3⟩
    have HB3 := Lib.hid (HB2.out.trans (hb3.mono HB2.out.size))
    have HL3 := Lib.hid hL3
    have hm3' := hm3
    unfold maxLen at hm3'
    clear hb3 hL3
    have HRR := Lib.hid (fun (W : World) (h : Lies W A3 (flat S)) => HR.out 1 A3 c3 W hl3 hm3 h)
    rw [right_no hT] at HRR
    have HRO := Lib.hid (fun (W : World) (h : Lies W A3 (flat S)) => HR.out 2 A3 c3 W hl3 hm3 h)
    rw [right_no hT] at HRO
    clear hT hIT hIF
    have HB5 := Lib.hid ((HB3.out.alloc HB3.out.size (.cells #[.int .i64 1, .int .i64 1, .int .i64 cls, .int .i64 tick, .bool pin, .slice A3 n3 c3] 24)).alloc (HB3.out.alloc HB3.out.size (.cells #[.int .i64 1, .int .i64 1, .int .i64 cls, .int .i64 tick, .bool pin, .slice A3 n3 c3] 24)).size (.cells #[.int .i64 1, .int .i64 2, .int .i64 cls, .int .i64 tick, .bool pin, .slice A3 n3 c3] 24))
    have HL5 := Lib.hid ((HL3.out.below ((Below.refl _ _).alloc (Nat.le_refl _) (.cells #[.int .i64 1, .int .i64 1, .int .i64 cls, .int .i64 tick, .bool pin, .slice A3 n3 c3] 24))).below ((Below.refl _ _).alloc (Nat.le_refl _) (.cells #[.int .i64 1, .int .i64 2, .int .i64 cls, .int .i64 tick, .bool pin, .slice A3 n3 c3] 24)))
    obtain ⟨x0, x1, x2, x3, x4, x5⟩ := six13 (blk_past (Blk.new w3 #[.int .i64 1, .int .i64 1, .int .i64 cls, .int .i64 tick, .bool pin, .slice A3 n3 c3] 24) (.cells #[.int .i64 1, .int .i64 2, .int .i64 cls, .int .i64 tick, .bool pin, .slice A3 n3 c3] 24))
    obtain ⟨z0, z1, z2, z3, z4, z5⟩ := six13 (Blk.new w3 #[.int .i64 1, .int .i64 1, .int .i64 cls, .int .i64 tick, .bool pin, .slice A3 n3 c3] 24)
    have HO5 := Lib.hid (show Blk ((w3.alloc (.cells #[.int .i64 1, .int .i64 1, .int .i64 cls, .int .i64 tick, .bool pin, .slice A3 n3 c3] 24)).alloc (.cells #[.int .i64 1, .int .i64 2, .int .i64 cls, .int .i64 tick, .bool pin, .slice A3 n3 c3] 24)) (w3.heap.size + 1) #[.int .i64 1, .int .i64 2, .int .i64 cls, .int .i64 tick, .bool pin, .slice A3 n3 c3] 24 from blk_now (by simp))
    go_wp2_with fail
    refine (HRR.out _ HL5.out).mono ?_
    rintro e w6 ⟨rfl, hb6⟩
    have HB6 := Lib.hid (HB5.out.trans (hb6.mono HB5.out.size))
    have HL6 := Lib.hid (HL5.out.below hb6)
    have HO6 := Lib.hid (show Blk w6 (w3.heap.size + 1) #[.int .i64 1, .int .i64 2, .int .i64 cls, .int .i64 tick, .bool pin, .slice A3 n3 c3] 24 from (hb6.block _ HO5.out.lt).trans HO5.out)
    clear hb6 x0 x1 x2 x3 x4 x5 z0 z1 z2 z3 z4 z5
    obtain ⟨x0, x1, x2, x3, x4, x5⟩ := six13 HO6.out
    go_wp2_with fail
    refine (HRO.out w6 HL6.out).mono ?_
    rintro e w7 ⟨rfl, hb7⟩
    have HB7 := Lib.hid (HB6.out.trans (hb7.mono HB6.out.size))
    clear hb7 x0 x1 x2 x3 x4 x5
    go_wp2
    go_ret
    exact ⟨rfl, HB7.out⟩
  | true =>
    have hT := hIT rfl
    have hin := head_in hT
    have hn1 : 1 ≤ n3 := by rw [← HN3.out]; exact (Plain.isT_len hT).1
    have HHD := Lib.hid (show ∀ (W : World) (A3 : Option Addr), Lies W A3 (flat S) → ∃ ad, A3 = some ad ∧ W.cell? ad = some (.int .i64 (S.headD Plain.Sp.zero).t) from fun W A3 h => by
      obtain ⟨ad, e, -, hcc⟩ := at_span h 0 (by rw [HN3.out]; omega)
      refine ⟨ad, e, ?_⟩
      rw [head_at (by rw [HN3.out]; omega)]
      exact (hcc W (Below.refl _ _)).1)
    have HBAD := Lib.hid (fun (id : Int) h => right_bad (S := S) id cls tick pin h)
    have HOK := Lib.hid (fun h1 h2 hc => right_ok hT cls tick pin h1 h2 hc)
    have HOT := Lib.hid (fun id h => right_other (S := S) id cls tick pin h)
    obtain ⟨CN, hCN⟩ : ∃ CN, Rc.cost S = CN := ⟨_, rfl⟩
    rw [hCN] at HC HOK
    obtain ⟨zt, hzt⟩ : ∃ zt, (S.headD Plain.Sp.zero).t = zt := ⟨_, rfl⟩
    rw [hzt] at HHD HOK HOT hin
    obtain ⟨z, rfl⟩ := Int.eq_ofNat_of_zero_le (show 0 ≤ zt by omega)
    obtain ⟨K, hK⟩ : ∃ K, z % 281474976710656 = K := ⟨_, rfl⟩
    have hKi : (z : Int) % 281474976710656 = (K : Int) := by omega
    have hKm : K < 281474976710656 := by omega
    have HOX := Lib.hid (HOT.out ((K : Int) + 1) (by omega))
    clear hT hCN hzt hIT hIF HOT hK
    by_cases h0 : 0 ≤ cls
    rotate_left
    · have d0 : decide (0 ≤ cls) = false := by rw [decide_eq_false_iff_not]; exact h0
      have HBX := Lib.hid (HBAD.out (z : Int) (by omega))
      clear h0
      go_enter Tryd.func6, Tryd.ntmps6
      go_wp2_with fail
      refine HH0.out.mono ?_
      rintro e w1 ⟨rfl, hb1⟩
      have HB1 := Lib.hid hb1
      clear hb1
      go_wp2_with fail
      refine (HG.out w1 HB1.out).mono ?_
      rintro e w2 ⟨g, rfl, -, hb2⟩
      have HB2 := Lib.hid (HB1.out.trans (hb2.mono HB1.out.size))
      clear hb2
      rcases g with _ | _
      rotate_left
      · go_wp2
        go_ret
        exact ⟨rfl, HB2.out⟩
      have HST1 := Lib.hid (HST.out w2 HB2.out)
      go_wp2_with fail
      refine HST1.out.mono ?_
      rintro e w3 ⟨v, rfl, A3, c3, rfl, hl3, hm3, hL3, hb3⟩
      have HB3 := Lib.hid (HB2.out.trans (hb3.mono HB2.out.size))
      have HL3 := Lib.hid hL3
      have hm3' := hm3
      unfold maxLen at hm3'
      clear hb3 hL3
      obtain ⟨ad, rfl, z9⟩ := HHD.out w3 A3 HL3.out
      have HRR := Lib.hid (fun (W : World) (h : Lies W (some ad) (flat S)) => HR.out (z : Int) (some ad) c3 W hl3 hm3 h)
      rw [HBX.out] at HRR
      have HRO := Lib.hid (fun (W : World) (h : Lies W (some ad) (flat S)) => HR.out ((K : Int) + 1) (some ad) c3 W hl3 hm3 h)
      rw [HOX.out] at HRO
      have HB5 := Lib.hid ((HB3.out.alloc HB3.out.size (.cells #[.int .i64 1, .int .i64 (z : Int), .int .i64 cls, .int .i64 tick, .bool pin, .slice (some ad) n3 c3] 24)).alloc (HB3.out.alloc HB3.out.size (.cells #[.int .i64 1, .int .i64 (z : Int), .int .i64 cls, .int .i64 tick, .bool pin, .slice (some ad) n3 c3] 24)).size (.cells #[.int .i64 1, .int .i64 ((K : Int) + 1), .int .i64 cls, .int .i64 tick, .bool pin, .slice (some ad) n3 c3] 24))
      have HL5 := Lib.hid ((HL3.out.below ((Below.refl _ _).alloc (Nat.le_refl _) (.cells #[.int .i64 1, .int .i64 (z : Int), .int .i64 cls, .int .i64 tick, .bool pin, .slice (some ad) n3 c3] 24))).below ((Below.refl _ _).alloc (Nat.le_refl _) (.cells #[.int .i64 1, .int .i64 ((K : Int) + 1), .int .i64 cls, .int .i64 tick, .bool pin, .slice (some ad) n3 c3] 24)))
      obtain ⟨x0, x1, x2, x3, x4, x5⟩ := six13 (blk_past (Blk.new w3 #[.int .i64 1, .int .i64 (z : Int), .int .i64 cls, .int .i64 tick, .bool pin, .slice (some ad) n3 c3] 24) (.cells #[.int .i64 1, .int .i64 ((K : Int) + 1), .int .i64 cls, .int .i64 tick, .bool pin, .slice (some ad) n3 c3] 24))
      obtain ⟨z0, z1, z2, z3, z4, z5⟩ := six13 (Blk.new w3 #[.int .i64 1, .int .i64 (z : Int), .int .i64 cls, .int .i64 tick, .bool pin, .slice (some ad) n3 c3] 24)
      have HO5 := Lib.hid (show Blk ((w3.alloc (.cells #[.int .i64 1, .int .i64 (z : Int), .int .i64 cls, .int .i64 tick, .bool pin, .slice (some ad) n3 c3] 24)).alloc (.cells #[.int .i64 1, .int .i64 ((K : Int) + 1), .int .i64 cls, .int .i64 tick, .bool pin, .slice (some ad) n3 c3] 24)) (w3.heap.size + 1) #[.int .i64 1, .int .i64 ((K : Int) + 1), .int .i64 cls, .int .i64 tick, .bool pin, .slice (some ad) n3 c3] 24 from blk_now (by simp))
      go_wp2_with fail
      refine (HRR.out _ HL5.out).mono ?_
      rintro e w6 ⟨rfl, hb6⟩
      have HB6 := Lib.hid (HB5.out.trans (hb6.mono HB5.out.size))
      have HL6 := Lib.hid (HL5.out.below hb6)
      have HO6 := Lib.hid (show Blk w6 (w3.heap.size + 1) #[.int .i64 1, .int .i64 ((K : Int) + 1), .int .i64 cls, .int .i64 tick, .bool pin, .slice (some ad) n3 c3] 24 from (hb6.block _ HO5.out.lt).trans HO5.out)
      clear hb6 x0 x1 x2 x3 x4 x5 z0 z1 z2 z3 z4 z5
      obtain ⟨x0, x1, x2, x3, x4, x5⟩ := six13 HO6.out
      go_wp2_with fail
      refine (HRO.out w6 HL6.out).mono ?_
      rintro e w7 ⟨rfl, hb7⟩
      have HB7 := Lib.hid (HB6.out.trans (hb7.mono HB6.out.size))
      clear hb7 x0 x1 x2 x3 x4 x5
      go_wp2
      go_ret
      exact ⟨rfl, HB7.out⟩
    have d0 : decide (0 ≤ cls) = true := by rw [decide_eq_true_eq]; exact h0
    by_cases h1 : cls ≤ 7
    rotate_left
    · have d1 : decide (cls ≤ 7) = false := by rw [decide_eq_false_iff_not]; exact h1
      have HBX := Lib.hid (HBAD.out (z : Int) (by omega))
      clear h0 h1
      go_enter Tryd.func6, Tryd.ntmps6
      go_wp2_with fail
      refine HH0.out.mono ?_
      rintro e w1 ⟨rfl, hb1⟩
      have HB1 := Lib.hid hb1
      clear hb1
      go_wp2_with fail
      refine (HG.out w1 HB1.out).mono ?_
      rintro e w2 ⟨g, rfl, -, hb2⟩
      have HB2 := Lib.hid (HB1.out.trans (hb2.mono HB1.out.size))
      clear hb2
      rcases g with _ | _
      rotate_left
      · go_wp2
        go_ret
        exact ⟨rfl, HB2.out⟩
      have HST1 := Lib.hid (HST.out w2 HB2.out)
      go_wp2_with fail
      refine HST1.out.mono ?_
      rintro e w3 ⟨v, rfl, A3, c3, rfl, hl3, hm3, hL3, hb3⟩
      have HB3 := Lib.hid (HB2.out.trans (hb3.mono HB2.out.size))
      have HL3 := Lib.hid hL3
      have hm3' := hm3
      unfold maxLen at hm3'
      clear hb3 hL3
      obtain ⟨ad, rfl, z9⟩ := HHD.out w3 A3 HL3.out
      have HRR := Lib.hid (fun (W : World) (h : Lies W (some ad) (flat S)) => HR.out (z : Int) (some ad) c3 W hl3 hm3 h)
      rw [HBX.out] at HRR
      have HRO := Lib.hid (fun (W : World) (h : Lies W (some ad) (flat S)) => HR.out ((K : Int) + 1) (some ad) c3 W hl3 hm3 h)
      rw [HOX.out] at HRO
      have HB5 := Lib.hid ((HB3.out.alloc HB3.out.size (.cells #[.int .i64 1, .int .i64 (z : Int), .int .i64 cls, .int .i64 tick, .bool pin, .slice (some ad) n3 c3] 24)).alloc (HB3.out.alloc HB3.out.size (.cells #[.int .i64 1, .int .i64 (z : Int), .int .i64 cls, .int .i64 tick, .bool pin, .slice (some ad) n3 c3] 24)).size (.cells #[.int .i64 1, .int .i64 ((K : Int) + 1), .int .i64 cls, .int .i64 tick, .bool pin, .slice (some ad) n3 c3] 24))
      have HL5 := Lib.hid ((HL3.out.below ((Below.refl _ _).alloc (Nat.le_refl _) (.cells #[.int .i64 1, .int .i64 (z : Int), .int .i64 cls, .int .i64 tick, .bool pin, .slice (some ad) n3 c3] 24))).below ((Below.refl _ _).alloc (Nat.le_refl _) (.cells #[.int .i64 1, .int .i64 ((K : Int) + 1), .int .i64 cls, .int .i64 tick, .bool pin, .slice (some ad) n3 c3] 24)))
      obtain ⟨x0, x1, x2, x3, x4, x5⟩ := six13 (blk_past (Blk.new w3 #[.int .i64 1, .int .i64 (z : Int), .int .i64 cls, .int .i64 tick, .bool pin, .slice (some ad) n3 c3] 24) (.cells #[.int .i64 1, .int .i64 ((K : Int) + 1), .int .i64 cls, .int .i64 tick, .bool pin, .slice (some ad) n3 c3] 24))
      obtain ⟨z0, z1, z2, z3, z4, z5⟩ := six13 (Blk.new w3 #[.int .i64 1, .int .i64 (z : Int), .int .i64 cls, .int .i64 tick, .bool pin, .slice (some ad) n3 c3] 24)
      have HO5 := Lib.hid (show Blk ((w3.alloc (.cells #[.int .i64 1, .int .i64 (z : Int), .int .i64 cls, .int .i64 tick, .bool pin, .slice (some ad) n3 c3] 24)).alloc (.cells #[.int .i64 1, .int .i64 ((K : Int) + 1), .int .i64 cls, .int .i64 tick, .bool pin, .slice (some ad) n3 c3] 24)) (w3.heap.size + 1) #[.int .i64 1, .int .i64 ((K : Int) + 1), .int .i64 cls, .int .i64 tick, .bool pin, .slice (some ad) n3 c3] 24 from blk_now (by simp))
      go_wp2_with fail
      refine (HRR.out _ HL5.out).mono ?_
      rintro e w6 ⟨rfl, hb6⟩
      have HB6 := Lib.hid (HB5.out.trans (hb6.mono HB5.out.size))
      have HL6 := Lib.hid (HL5.out.below hb6)
      have HO6 := Lib.hid (show Blk w6 (w3.heap.size + 1) #[.int .i64 1, .int .i64 ((K : Int) + 1), .int .i64 cls, .int .i64 tick, .bool pin, .slice (some ad) n3 c3] 24 from (hb6.block _ HO5.out.lt).trans HO5.out)
      clear hb6 x0 x1 x2 x3 x4 x5 z0 z1 z2 z3 z4 z5
      obtain ⟨x0, x1, x2, x3, x4, x5⟩ := six13 HO6.out
      go_wp2_with fail
      refine (HRO.out w6 HL6.out).mono ?_
      rintro e w7 ⟨rfl, hb7⟩
      have HB7 := Lib.hid (HB6.out.trans (hb7.mono HB6.out.size))
      clear hb7 x0 x1 x2 x3 x4 x5
      go_wp2
      go_ret
      exact ⟨rfl, HB7.out⟩
    have d1 : decide (cls ≤ 7) = true := by rw [decide_eq_true_eq]; exact h1
    by_cases h2 : 0 ≤ tick
    rotate_left
    · have d2 : decide (0 ≤ tick) = false := by rw [decide_eq_false_iff_not]; exact h2
      have HBX := Lib.hid (HBAD.out (z : Int) (by omega))
      clear h0 h1 h2
      go_enter Tryd.func6, Tryd.ntmps6
      go_wp2_with fail
      refine HH0.out.mono ?_
      rintro e w1 ⟨rfl, hb1⟩
      have HB1 := Lib.hid hb1
      clear hb1
      go_wp2_with fail
      refine (HG.out w1 HB1.out).mono ?_
      rintro e w2 ⟨g, rfl, -, hb2⟩
      have HB2 := Lib.hid (HB1.out.trans (hb2.mono HB1.out.size))
      clear hb2
      rcases g with _ | _
      rotate_left
      · go_wp2
        go_ret
        exact ⟨rfl, HB2.out⟩
      have HST1 := Lib.hid (HST.out w2 HB2.out)
      go_wp2_with fail
      refine HST1.out.mono ?_
      rintro e w3 ⟨v, rfl, A3, c3, rfl, hl3, hm3, hL3, hb3⟩
      have HB3 := Lib.hid (HB2.out.trans (hb3.mono HB2.out.size))
      have HL3 := Lib.hid hL3
      have hm3' := hm3
      unfold maxLen at hm3'
      clear hb3 hL3
      obtain ⟨ad, rfl, z9⟩ := HHD.out w3 A3 HL3.out
      have HRR := Lib.hid (fun (W : World) (h : Lies W (some ad) (flat S)) => HR.out (z : Int) (some ad) c3 W hl3 hm3 h)
      rw [HBX.out] at HRR
      have HRO := Lib.hid (fun (W : World) (h : Lies W (some ad) (flat S)) => HR.out ((K : Int) + 1) (some ad) c3 W hl3 hm3 h)
      rw [HOX.out] at HRO
      have HB5 := Lib.hid ((HB3.out.alloc HB3.out.size (.cells #[.int .i64 1, .int .i64 (z : Int), .int .i64 cls, .int .i64 tick, .bool pin, .slice (some ad) n3 c3] 24)).alloc (HB3.out.alloc HB3.out.size (.cells #[.int .i64 1, .int .i64 (z : Int), .int .i64 cls, .int .i64 tick, .bool pin, .slice (some ad) n3 c3] 24)).size (.cells #[.int .i64 1, .int .i64 ((K : Int) + 1), .int .i64 cls, .int .i64 tick, .bool pin, .slice (some ad) n3 c3] 24))
      have HL5 := Lib.hid ((HL3.out.below ((Below.refl _ _).alloc (Nat.le_refl _) (.cells #[.int .i64 1, .int .i64 (z : Int), .int .i64 cls, .int .i64 tick, .bool pin, .slice (some ad) n3 c3] 24))).below ((Below.refl _ _).alloc (Nat.le_refl _) (.cells #[.int .i64 1, .int .i64 ((K : Int) + 1), .int .i64 cls, .int .i64 tick, .bool pin, .slice (some ad) n3 c3] 24)))
      obtain ⟨x0, x1, x2, x3, x4, x5⟩ := six13 (blk_past (Blk.new w3 #[.int .i64 1, .int .i64 (z : Int), .int .i64 cls, .int .i64 tick, .bool pin, .slice (some ad) n3 c3] 24) (.cells #[.int .i64 1, .int .i64 ((K : Int) + 1), .int .i64 cls, .int .i64 tick, .bool pin, .slice (some ad) n3 c3] 24))
      obtain ⟨z0, z1, z2, z3, z4, z5⟩ := six13 (Blk.new w3 #[.int .i64 1, .int .i64 (z : Int), .int .i64 cls, .int .i64 tick, .bool pin, .slice (some ad) n3 c3] 24)
      have HO5 := Lib.hid (show Blk ((w3.alloc (.cells #[.int .i64 1, .int .i64 (z : Int), .int .i64 cls, .int .i64 tick, .bool pin, .slice (some ad) n3 c3] 24)).alloc (.cells #[.int .i64 1, .int .i64 ((K : Int) + 1), .int .i64 cls, .int .i64 tick, .bool pin, .slice (some ad) n3 c3] 24)) (w3.heap.size + 1) #[.int .i64 1, .int .i64 ((K : Int) + 1), .int .i64 cls, .int .i64 tick, .bool pin, .slice (some ad) n3 c3] 24 from blk_now (by simp))
      go_wp2_with fail
      refine (HRR.out _ HL5.out).mono ?_
      rintro e w6 ⟨rfl, hb6⟩
      have HB6 := Lib.hid (HB5.out.trans (hb6.mono HB5.out.size))
      have HL6 := Lib.hid (HL5.out.below hb6)
      have HO6 := Lib.hid (show Blk w6 (w3.heap.size + 1) #[.int .i64 1, .int .i64 ((K : Int) + 1), .int .i64 cls, .int .i64 tick, .bool pin, .slice (some ad) n3 c3] 24 from (hb6.block _ HO5.out.lt).trans HO5.out)
      clear hb6 x0 x1 x2 x3 x4 x5 z0 z1 z2 z3 z4 z5
      obtain ⟨x0, x1, x2, x3, x4, x5⟩ := six13 HO6.out
      go_wp2_with fail
      refine (HRO.out w6 HL6.out).mono ?_
      rintro e w7 ⟨rfl, hb7⟩
      have HB7 := Lib.hid (HB6.out.trans (hb7.mono HB6.out.size))
      clear hb7 x0 x1 x2 x3 x4 x5
      go_wp2
      go_ret
      exact ⟨rfl, HB7.out⟩
    have d2 : decide (0 ≤ tick) = true := by rw [decide_eq_true_eq]; exact h2
    by_cases h3 : tick ≤ 281474976710656
    rotate_left
    · have d3 : decide (tick ≤ 281474976710656) = false := by rw [decide_eq_false_iff_not]; exact h3
      have HBX := Lib.hid (HBAD.out (z : Int) (by omega))
      clear h0 h1 h2 h3
      go_enter Tryd.func6, Tryd.ntmps6
      go_wp2_with fail
      refine HH0.out.mono ?_
      rintro e w1 ⟨rfl, hb1⟩
      have HB1 := Lib.hid hb1
      clear hb1
      go_wp2_with fail
      refine (HG.out w1 HB1.out).mono ?_
      rintro e w2 ⟨g, rfl, -, hb2⟩
      have HB2 := Lib.hid (HB1.out.trans (hb2.mono HB1.out.size))
      clear hb2
      rcases g with _ | _
      rotate_left
      · go_wp2
        go_ret
        exact ⟨rfl, HB2.out⟩
      have HST1 := Lib.hid (HST.out w2 HB2.out)
      go_wp2_with fail
      refine HST1.out.mono ?_
      rintro e w3 ⟨v, rfl, A3, c3, rfl, hl3, hm3, hL3, hb3⟩
      have HB3 := Lib.hid (HB2.out.trans (hb3.mono HB2.out.size))
      have HL3 := Lib.hid hL3
      have hm3' := hm3
      unfold maxLen at hm3'
      clear hb3 hL3
      obtain ⟨ad, rfl, z9⟩ := HHD.out w3 A3 HL3.out
      have HRR := Lib.hid (fun (W : World) (h : Lies W (some ad) (flat S)) => HR.out (z : Int) (some ad) c3 W hl3 hm3 h)
      rw [HBX.out] at HRR
      have HRO := Lib.hid (fun (W : World) (h : Lies W (some ad) (flat S)) => HR.out ((K : Int) + 1) (some ad) c3 W hl3 hm3 h)
      rw [HOX.out] at HRO
      have HB5 := Lib.hid ((HB3.out.alloc HB3.out.size (.cells #[.int .i64 1, .int .i64 (z : Int), .int .i64 cls, .int .i64 tick, .bool pin, .slice (some ad) n3 c3] 24)).alloc (HB3.out.alloc HB3.out.size (.cells #[.int .i64 1, .int .i64 (z : Int), .int .i64 cls, .int .i64 tick, .bool pin, .slice (some ad) n3 c3] 24)).size (.cells #[.int .i64 1, .int .i64 ((K : Int) + 1), .int .i64 cls, .int .i64 tick, .bool pin, .slice (some ad) n3 c3] 24))
      have HL5 := Lib.hid ((HL3.out.below ((Below.refl _ _).alloc (Nat.le_refl _) (.cells #[.int .i64 1, .int .i64 (z : Int), .int .i64 cls, .int .i64 tick, .bool pin, .slice (some ad) n3 c3] 24))).below ((Below.refl _ _).alloc (Nat.le_refl _) (.cells #[.int .i64 1, .int .i64 ((K : Int) + 1), .int .i64 cls, .int .i64 tick, .bool pin, .slice (some ad) n3 c3] 24)))
      obtain ⟨x0, x1, x2, x3, x4, x5⟩ := six13 (blk_past (Blk.new w3 #[.int .i64 1, .int .i64 (z : Int), .int .i64 cls, .int .i64 tick, .bool pin, .slice (some ad) n3 c3] 24) (.cells #[.int .i64 1, .int .i64 ((K : Int) + 1), .int .i64 cls, .int .i64 tick, .bool pin, .slice (some ad) n3 c3] 24))
      obtain ⟨z0, z1, z2, z3, z4, z5⟩ := six13 (Blk.new w3 #[.int .i64 1, .int .i64 (z : Int), .int .i64 cls, .int .i64 tick, .bool pin, .slice (some ad) n3 c3] 24)
      have HO5 := Lib.hid (show Blk ((w3.alloc (.cells #[.int .i64 1, .int .i64 (z : Int), .int .i64 cls, .int .i64 tick, .bool pin, .slice (some ad) n3 c3] 24)).alloc (.cells #[.int .i64 1, .int .i64 ((K : Int) + 1), .int .i64 cls, .int .i64 tick, .bool pin, .slice (some ad) n3 c3] 24)) (w3.heap.size + 1) #[.int .i64 1, .int .i64 ((K : Int) + 1), .int .i64 cls, .int .i64 tick, .bool pin, .slice (some ad) n3 c3] 24 from blk_now (by simp))
      go_wp2_with fail
      refine (HRR.out _ HL5.out).mono ?_
      rintro e w6 ⟨rfl, hb6⟩
      have HB6 := Lib.hid (HB5.out.trans (hb6.mono HB5.out.size))
      have HL6 := Lib.hid (HL5.out.below hb6)
      have HO6 := Lib.hid (show Blk w6 (w3.heap.size + 1) #[.int .i64 1, .int .i64 ((K : Int) + 1), .int .i64 cls, .int .i64 tick, .bool pin, .slice (some ad) n3 c3] 24 from (hb6.block _ HO5.out.lt).trans HO5.out)
      clear hb6 x0 x1 x2 x3 x4 x5 z0 z1 z2 z3 z4 z5
      obtain ⟨x0, x1, x2, x3, x4, x5⟩ := six13 HO6.out
      go_wp2_with fail
      refine (HRO.out w6 HL6.out).mono ?_
      rintro e w7 ⟨rfl, hb7⟩
      have HB7 := Lib.hid (HB6.out.trans (hb7.mono HB6.out.size))
      clear hb7 x0 x1 x2 x3 x4 x5
      go_wp2
      go_ret
      exact ⟨rfl, HB7.out⟩
    have d3 : decide (tick ≤ 281474976710656) = true := by rw [decide_eq_true_eq]; exact h3
    have HOKX := Lib.hid (HOK.out ⟨h0, h1⟩ ⟨h2, h3⟩)
    clear h0 h1 h2 h3
    go_enter Tryd.func6, Tryd.ntmps6
    go_wp2_with fail
    refine HH0.out.mono ?_
    rintro e w1 ⟨rfl, hb1⟩
    have HB1 := Lib.hid hb1
    clear hb1
    go_wp2_with fail
    refine (HG.out w1 HB1.out).mono ?_
    rintro e w2 ⟨g, rfl, -, hb2⟩
    have HB2 := Lib.hid (HB1.out.trans (hb2.mono HB1.out.size))
    clear hb2
    rcases g with _ | _
    rotate_left
    · go_wp2
      go_ret
      exact ⟨rfl, HB2.out⟩
    have HST1 := Lib.hid (HST.out w2 HB2.out)
    go_wp2_with fail
    refine HST1.out.mono ?_
    rintro e w3 ⟨v, rfl, A3, c3, rfl, hl3, hm3, hL3, hb3⟩
    have HB3 := Lib.hid (HB2.out.trans (hb3.mono HB2.out.size))
    have HL3 := Lib.hid hL3
    have hm3' := hm3
    unfold maxLen at hm3'
    clear hb3 hL3
    obtain ⟨ad, rfl, z9⟩ := HHD.out w3 A3 HL3.out
    have HB3a := Lib.hid (HB3.out.alloc HB3.out.size (.cells #[.int .i64 1, .int .i64 (z : Int), .int .i64 cls, .int .i64 tick, .bool pin, .slice (some ad) n3 c3] 24))
    have HL3a := Lib.hid (HL3.out.below ((Below.refl _ _).alloc (Nat.le_refl _) (.cells #[.int .i64 1, .int .i64 (z : Int), .int .i64 cls, .int .i64 tick, .bool pin, .slice (some ad) n3 c3] 24)))
    have HC1 := Lib.hid (HC.out (some ad) c3 _ hl3 hm3 HL3a.out)
    by_cases hc : 3600 < CN
    · have hz : (3600 : Int) < (CN : Int) := by omega
      go_wp2_with fail
      refine HC1.out.mono ?_
      rintro e w4 ⟨rfl, hb4⟩
      have HB4 := Lib.hid (HB3a.out.trans (hb4.mono HB3a.out.size))
      clear hb4
      go_wp2
      go_ret
      exact ⟨rfl, HB4.out⟩
    have hz : ¬ (3600 : Int) < (CN : Int) := by omega
    have HBX := Lib.hid (HOKX.out (by omega))
    have HRR := Lib.hid (fun (W : World) (h : Lies W (some ad) (flat S)) => HR.out (z : Int) (some ad) c3 W hl3 hm3 h)
    rw [HBX.out] at HRR
    have HRO := Lib.hid (fun (W : World) (h : Lies W (some ad) (flat S)) => HR.out ((K : Int) + 1) (some ad) c3 W hl3 hm3 h)
    rw [HOX.out] at HRO
    clear hc
    go_wp2_with fail
    refine HC1.out.mono ?_
    rintro e w4 ⟨rfl, hb4⟩
    have HB4 := Lib.hid (HB3a.out.trans (hb4.mono HB3a.out.size))
    have HK4 := Lib.hid (show Blk w4 w3.heap.size #[.int .i64 1, .int .i64 (z : Int), .int .i64 cls, .int .i64 tick, .bool pin, .slice (some ad) n3 c3] 24 from (hb4.block _ (Blk.lt (Blk.new w3 #[.int .i64 1, .int .i64 (z : Int), .int .i64 cls, .int .i64 tick, .bool pin, .slice (some ad) n3 c3] 24))).trans (Blk.new w3 #[.int .i64 1, .int .i64 (z : Int), .int .i64 cls, .int .i64 tick, .bool pin, .slice (some ad) n3 c3] 24))
    have HL4 := Lib.hid (HL3a.out.below hb4)
    clear hb4 z9
    have HB5 := Lib.hid ((HB4.out).alloc (HB4.out).size (.cells #[.int .i64 1, .int .i64 ((K : Int) + 1), .int .i64 cls, .int .i64 tick, .bool pin, .slice (some ad) n3 c3] 24))
    have HL5 := Lib.hid ((HL4.out).below ((Below.refl _ _).alloc (Nat.le_refl _) (.cells #[.int .i64 1, .int .i64 ((K : Int) + 1), .int .i64 cls, .int .i64 tick, .bool pin, .slice (some ad) n3 c3] 24)))
    obtain ⟨x0, x1, x2, x3, x4, x5⟩ := six13 (blk_past HK4.out (.cells #[.int .i64 1, .int .i64 ((K : Int) + 1), .int .i64 cls, .int .i64 tick, .bool pin, .slice (some ad) n3 c3] 24))
    obtain ⟨z0, z1, z2, z3, z4, z5⟩ := six13 HK4.out
    have HO5 := Lib.hid (show Blk (w4.alloc (.cells #[.int .i64 1, .int .i64 ((K : Int) + 1), .int .i64 cls, .int .i64 tick, .bool pin, .slice (some ad) n3 c3] 24)) w4.heap.size #[.int .i64 1, .int .i64 ((K : Int) + 1), .int .i64 cls, .int .i64 tick, .bool pin, .slice (some ad) n3 c3] 24 from blk_now (by simp))
    go_wp2_with fail
    refine (HRR.out _ HL5.out).mono ?_
    rintro e w6 ⟨rfl, hb6⟩
    have HB6 := Lib.hid (HB5.out.trans (hb6.mono HB5.out.size))
    have HL6 := Lib.hid (HL5.out.below hb6)
    have HO6 := Lib.hid (show Blk w6 w4.heap.size #[.int .i64 1, .int .i64 ((K : Int) + 1), .int .i64 cls, .int .i64 tick, .bool pin, .slice (some ad) n3 c3] 24 from (hb6.block _ HO5.out.lt).trans HO5.out)
    clear hb6 x0 x1 x2 x3 x4 x5 z0 z1 z2 z3 z4 z5
    obtain ⟨x0, x1, x2, x3, x4, x5⟩ := six13 HO6.out
    go_wp2_with fail
    refine (HRO.out w6 HL6.out).mono ?_
    rintro e w7 ⟨rfl, hb7⟩
    have HB7 := Lib.hid (HB6.out.trans (hb7.mono HB6.out.size))
    clear hb7 x0 x1 x2 x3 x4 x5
    go_wp2
    go_ret
    exact ⟨rfl, HB7.out⟩

theorem walk (w : World) (hH : Handle w) (A : Option Addr) (cap : Nat) (l : List Plain.Sp) (hl : l.length ≤ cap) (hm : cap ≤ maxLen) (hA : Lies w A (flat l)) (hS : ∀ x ∈ l, x.sv.length ≤ maxLen ∧ x.nm.length ≤ maxLen) (cls : Int) (_ : -9223372036854775808 ≤ cls ∧ cls ≤ 9223372036854775807) (tick : Int) (_ : -9223372036854775808 ≤ tick ∧ tick ≤ 9223372036854775807) (pin : Bool) :
    Calls Tryd.prog 6 #[.slice A l.length cap, .int .i64 cls, .int .i64 tick, .bool pin] w fun e w' => e = .returned (.bool true) ∧ Below w.heap.size w w' :=
  walkN w hH A l.length cap l rfl hl hm hA hS cls tick pin


set_option maxRecDepth 100000 in
theorem lifted (os : Os) (started : os.Started) (H : Type) (enc : TypeId × Value → H) :
    ReturnsInHanded {} Tryd.checked os 6 .any (fun w args => (Rows.recTraceSpec.pre enc Tryd.prog Tryd.f6 [] false w args ∧ laidMetH Tryd.prog laidHere w) ∧ sizedMet enc Tryd.prog Tryd.f6 (OpenSpec.ofChange Rows.recTraceSpec) false w args) (Rows.recTraceSpec.post enc Tryd.prog Tryd.f6 false true false false) := by
  refine returnsInHanded_of_change_and (C := Tryd.checked) (X := fun w _ => laidMetH Tryd.prog laidHere w) (fun _ _ _ hh h => h.of_heap hh) own started (by kernel_rfl) Tryd.func6
    (ChangeSpec.witness_at (enc := enc) (C := Tryd.checked) (os := os) (X := fun w _ => laidMetH Tryd.prog laidHere w) false (laidWorld os) #[.slice none 0 0, .int .i64 0, .int .i64 0, .bool false] 8 rfl (by kernel_rfl) (by kernel_rfl) (by kernel_rfl) (by kernel_rfl) (by kernel_rfl) (laidWorld_met os _)) ?_
  intro W base args ds gs before hval0 hW _ _ hL _
  have hval : ∀ (j : Nat) t v, Tryd.f6.params[j]? = some t → args[j]? = some v → Value.okWide Tryd.prog W .any base t v := hval0
  have hfin := fun W' => law_post (enc := enc) (P := Tryd.prog) (f := Tryd.f6) (s := Rows.recTraceSpec) (tb := 4) (W := W) (W' := W') (args := args) (ds := ds) (gs := gs) (before := before) laidOut rfl (by kernel_rfl) Tryd.underlying4 (by kernel_rfl) (fun xs h => by rw [Tryd.params6] at h; match xs, h with | [_, _, _, _], _ => rfl) hW
  have hlt : ∀ x ∈ before, x.block < W.heap.size := fun x hx => hW.lt x hx
  obtain ⟨p, q, hA0, hV, rfl, hfz, hnd⟩ := hW
  have hA : DataW.TrodAll enc Tryd.prog W 0 (fun _ => true) true Tryd.f6.params.toList args.toList ds p := hA0
  rw [Tryd.params6] at hA hval
  obtain ⟨v0, vs0, d0, ds0, p0, q0, hargs, rfl, rfl, h0, r0⟩ := trodAll_cons hA
  obtain ⟨v1, vs1, d1, ds1, p1, q1, rfl, rfl, rfl, h1, r1⟩ := trodAll_cons r0
  obtain ⟨v2, vs2, d2, ds2, p2, q2, rfl, rfl, rfl, h2, r2⟩ := trodAll_cons r1
  obtain ⟨v3, vs3, d3, ds3, p3, q3, rfl, rfl, rfl, h3, r3⟩ := trodAll_cons r2
  obtain ⟨rfl, rfl, rfl⟩ := trodAll_nil r3
  obtain rfl : args = #[v0, v1, v2, v3] := by cases args; simp_all
  obtain ⟨A0, cap0, l0, rfl, hl0, hm0, hB0, hS0⟩ := open_spans (hval 0 22 v0 rfl rfl) h0 (fun x hx => hlt x (by simp [hx]))
  obtain ⟨a1, rfl, rfl, rfl, w1⟩ := open_int Tryd.underlying3 (hval 1 3 v1 rfl rfl) h1
  obtain ⟨a2, rfl, rfl, rfl, w2⟩ := open_int Tryd.underlying2 (hval 2 2 v2 rfl rfl) h2
  obtain ⟨a3, rfl, rfl, rfl⟩ := open_bool Tryd.underlying4 (hval 3 4 v3 rfl rfl) h3
  refine (walk W (of_laid hL) A0 cap0 l0 hl0 hm0 hB0 hS0 a1 (bounds_i64 w1) a2 (bounds_i64 w2) a3).mono fun e W' ⟨he, hg⟩ => ?_
  subst he
  exact ⟨_, rfl, hfin W' hg⟩

theorem proved : Rows.RecTraceSaid :=
  OpenClaim.holds_of_wide 6 Tryd.f6 rfl rfl rfl rfl rfl rfl rfl ⟨rfl, rfl, rfl, rfl, rfl⟩ rfl rfl rfl rfl rfl (by kernel_rfl) Tryd.func6 (by kernel_rfl)
    (of_decide_eq_true (by kernel_rfl)) (by unfold Func.isWrapper; first | (rw [if_pos (by decide +kernel)]; kernel_rfl) | (rw [if_neg (by decide +kernel)]; exact ⟨rfl, rfl⟩))
    (fun os started H enc _ => lifted os started H enc)

set_option maxRecDepth 100000 in
theorem card : Rows.RecTraceCardSaid :=
  Claim7.holds_tied_plain_at .later [] laidKindsHere true _ true
    proved (fun _ h => by cases h) (by kernel_rfl) (fun _ h => by cases h) recTrace_row_tie rfl ⟨rfl, rfl⟩ (by kernel_rfl) rfl
    (fun f fn hf hfn => by
      obtain rfl : f = 6 := Option.some.inj ((show Tryd.prog.funcNamed "turntable/turntablelaw13.RecTrace" = some 6 by kernel_rfl).symm.trans hf) |>.symm
      obtain rfl : fn = Tryd.f6 := (Option.some.inj (Tryd.func6.symm.trans hfn)).symm
      exact ⟨by kernel_rfl, fun j t ht => by
        rw [Tryd.params6] at ht
        have hm : t ∈ [22, 3, 2, 4] := Array.mem_def.1 (Array.mem_of_getElem? ht)
        have hall : ([22, 3, 2, 4].all fun u => !Tryd.prog.wantsStandIn u) = true := by kernel_rfl
        exact (show Tryd.prog.wantsStandIn t = false by simpa using List.all_eq_true.1 hall t hm)⟩)
    (by kernel_rfl)
#print axioms card
end Go.Proofs.YtdfeccmcefcpbaaDoor.recTrace
