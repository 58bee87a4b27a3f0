/-
  Layer 3, the document's answer (turntableref03): its number, Right, End and Less: what they answer, for every argument. Nothing is assumed.
-/
import Derived.Test.YtiipcnldedjkdaaDoorSp1
import Derived.Test.YtiipcnldedjkdaaDoorSpRd
import Derived.Test.YtiipcnldedjkdaaDoorSpGet
namespace Go.Proofs.YtiipcnldedjkdaaDoor
open Go.RowKit
set_option maxRecDepth 100000

theorem rnumber_any (n : Int) (w : World) (b : Bool) (hb : Plain.inN 0 281474976710656 n = b) :
    Calls Tryd.prog 27 #[.int .i64 n] w fun e w' => e = .returned (.bool b) ∧ w = w' := by
  subst hb
  have HI := Lib.hid (Plain.inN_iff 0 281474976710656 n)
  by_cases h0 : 0 ≤ n
  · by_cases h1 : n ≤ 281474976710656
    · have HT := Lib.hid (HI.out.2 ⟨h0, h1⟩)
      go_enter Tryd.func27, Tryd.ntmps27
      go_wp2
      go_ret
      exact ⟨by rw [HT.out]; rfl, rfl⟩
    · have HT := Lib.hid (show Plain.inN 0 281474976710656 n = false by rw [Bool.eq_false_iff]; intro h; have := HI.out.1 h; omega)
      go_enter Tryd.func27, Tryd.ntmps27
      go_wp2
      go_ret
      exact ⟨by rw [HT.out]; rfl, rfl⟩
  · have HT := Lib.hid (show Plain.inN 0 281474976710656 n = false by rw [Bool.eq_false_iff]; intro h; have := HI.out.1 h; omega)
    go_enter Tryd.func27, Tryd.ntmps27
    go_wp2
    go_ret
    exact ⟨by rw [HT.out]; rfl, rfl⟩

theorem inN_out {lo hi x : Int} (h : Plain.inN lo hi x = false) : ¬ (lo ≤ x ∧ x ≤ hi) := fun h' => by rw [(Plain.inN_iff lo hi x).2 h'] at h; cases h

set_option maxHeartbeats 4000000 in
theorem rright_any (t i p s d : Int) (SV NM : ByteArray) (w : World) (R : Bool) (_hV : SV.size ≤ maxLen) (_hN : NM.size ≤ maxLen) (hR : Plain.rightN t i p s d SV.size NM.size = R) :
    Calls Tryd.prog 15 #[.agg #[.int .i64 t, .int .i64 i, .int .i64 p, .int .i64 s, .int .i64 d, .string SV, .string NM]] w fun e w' => e = .returned (.bool R) ∧ Below w.heap.size w w' := by
  unfold maxLen at _hV _hN
  have HI := Lib.hid (show ¬ (1 ≤ t ∧ t ≤ 281474976710656 ∧ 1 ≤ i ∧ i ≤ 281474976710656 ∧ 0 ≤ p ∧ p ≤ 281474976710656 ∧ 0 ≤ s ∧ s ≤ 281474976710656 ∧ 0 ≤ d ∧ d ≤ 281474976710656 ∧ s + d ≤ 281474976710656 ∧ 1 ≤ SV.size ∧ SV.size ≤ 32 ∧ NM.size ≤ 32) → R = false from fun h => by
    rw [← hR, Bool.eq_false_iff]; intro h'; exact h ((Plain.rightN_iff _ _ _ _ _ _ _).1 h'))
  have HT := Lib.hid (show (1 ≤ t ∧ t ≤ 281474976710656 ∧ 1 ≤ i ∧ i ≤ 281474976710656 ∧ 0 ≤ p ∧ p ≤ 281474976710656 ∧ 0 ≤ s ∧ s ≤ 281474976710656 ∧ 0 ≤ d ∧ d ≤ 281474976710656 ∧ s + d ≤ 281474976710656 ∧ 1 ≤ SV.size ∧ SV.size ≤ 32 ∧ NM.size ≤ 32) → R = true from fun h => by
    rw [← hR]; exact (Plain.rightN_iff _ _ _ _ _ _ _).2 h)
  clear hR
  go_enter Tryd.func15, Tryd.ntmps15
  go_wp2_with fail
  obtain ⟨b1, h1⟩ : ∃ b, Plain.inN 0 281474976710656 t = b := ⟨_, rfl⟩
  refine (rnumber_any t _ b1 h1).mono ?_
  rintro e w' ⟨rfl, rfl⟩
  rcases b1 with _ | _
  · have h1 := inN_out h1
    have HF := Lib.hid (HI.out (by omega))
    go_wp2
    go_ret
    exact ⟨by rw [HF.out]; rfl, by go_grown⟩
  have h1 := (Plain.inN_iff _ _ _).1 h1
  go_wp2_with fail
  obtain ⟨b1, h2⟩ : ∃ b, Plain.inN 0 281474976710656 i = b := ⟨_, rfl⟩
  refine (rnumber_any i _ b1 h2).mono ?_
  rintro e w' ⟨rfl, rfl⟩
  rcases b1 with _ | _
  · have h2 := inN_out h2
    have HF := Lib.hid (HI.out (by omega))
    go_wp2
    go_ret
    exact ⟨by rw [HF.out]; rfl, by go_grown⟩
  have h2 := (Plain.inN_iff _ _ _).1 h2
  go_wp2_with fail
  obtain ⟨b1, h3⟩ : ∃ b, Plain.inN 0 281474976710656 p = b := ⟨_, rfl⟩
  refine (rnumber_any p _ b1 h3).mono ?_
  rintro e w' ⟨rfl, rfl⟩
  rcases b1 with _ | _
  · have h3 := inN_out h3
    have HF := Lib.hid (HI.out (by omega))
    go_wp2
    go_ret
    exact ⟨by rw [HF.out]; rfl, by go_grown⟩
  have h3 := (Plain.inN_iff _ _ _).1 h3
  go_wp2_with fail
  obtain ⟨b1, h4⟩ : ∃ b, Plain.inN 0 281474976710656 s = b := ⟨_, rfl⟩
  refine (rnumber_any s _ b1 h4).mono ?_
  rintro e w' ⟨rfl, rfl⟩
  rcases b1 with _ | _
  · have h4 := inN_out h4
    have HF := Lib.hid (HI.out (by omega))
    go_wp2
    go_ret
    exact ⟨by rw [HF.out]; rfl, by go_grown⟩
  have h4 := (Plain.inN_iff _ _ _).1 h4
  go_wp2_with fail
  obtain ⟨b1, h5⟩ : ∃ b, Plain.inN 0 281474976710656 d = b := ⟨_, rfl⟩
  refine (rnumber_any d _ b1 h5).mono ?_
  rintro e w' ⟨rfl, rfl⟩
  rcases b1 with _ | _
  · have h5 := inN_out h5
    have HF := Lib.hid (HI.out (by omega))
    go_wp2
    go_ret
    exact ⟨by rw [HF.out]; rfl, by go_grown⟩
  have h5 := (Plain.inN_iff _ _ _).1 h5
  by_cases k1 : 1 ≤ t
  rotate_left
  · have HF := Lib.hid (HI.out (by omega))
    go_wp2
    go_ret
    exact ⟨by rw [HF.out]; rfl, by go_grown⟩
  by_cases k2 : 1 ≤ i
  rotate_left
  · have HF := Lib.hid (HI.out (by omega))
    go_wp2
    go_ret
    exact ⟨by rw [HF.out]; rfl, by go_grown⟩
  by_cases k3 : s + d ≤ 281474976710656
  rotate_left
  · have HF := Lib.hid (HI.out (by omega))
    go_wp2
    go_ret
    exact ⟨by rw [HF.out]; rfl, by go_grown⟩
  by_cases k4 : 1 ≤ SV.size
  rotate_left
  · have HF := Lib.hid (HI.out (by omega))
    go_wp2
    go_ret
    exact ⟨by rw [HF.out]; rfl, by go_grown⟩
  by_cases k5 : SV.size ≤ 32
  rotate_left
  · have HF := Lib.hid (HI.out (by omega))
    go_wp2
    go_ret
    exact ⟨by rw [HF.out]; rfl, by go_grown⟩
  by_cases k6 : NM.size ≤ 32
  rotate_left
  · have HF := Lib.hid (HI.out (by omega))
    have k6' : decide ((NM.size : Int) ≤ 32) = false := by simp; omega
    go_wp2
    go_ret
    exact ⟨by rw [HF.out]; rfl, by go_grown⟩
  have HF := Lib.hid (HT.out (by omega))
  have k6' : decide ((NM.size : Int) ≤ 32) = true := by simp; omega
  go_wp2
  go_ret
  exact ⟨by rw [HF.out]; rfl, by go_grown⟩

theorem rend_any (t i p s d : Int) (SV NM : ByteArray) (w : World) (R : Bool) (hV : SV.size ≤ maxLen) (hN : NM.size ≤ maxLen) (hR : Plain.rightN t i p s d SV.size NM.size = R) :
    Calls Tryd.prog 19 #[.agg #[.int .i64 t, .int .i64 i, .int .i64 p, .int .i64 s, .int .i64 d, .string SV, .string NM]] w fun e w' => e = .returned (.int .i64 (endN R s d)) ∧ Below w.heap.size w w' := by
  have hsd : R = true → (0 ≤ s ∧ s ≤ 281474976710656) ∧ (0 ≤ d ∧ d ≤ 281474976710656) := by
    intro h; rw [h, Plain.rightN_iff] at hR; omega
  have HR := Lib.hid hR
  clear hR
  go_enter Tryd.func19, Tryd.ntmps19
  go_wp2_with fail
  refine (rright_any t i p s d SV NM _ R hV hN HR.out).mono ?_
  rintro e w1 ⟨rfl, hb1⟩
  have hb0 := ((Below.refl w.heap.size w).alloc (Nat.le_refl _) (.cells #[.int .i64 t, .int .i64 i, .int .i64 p, .int .i64 s, .int .i64 d, .string SV, .string NM] 23)).trans (hb1.mono (by simp))
  rcases R with _ | _
  · go_wp2
    go_ret
    exact ⟨rfl, hb0⟩
  · obtain ⟨hs, hd⟩ := hsd rfl
    have c3 : w1.cell? ⟨w.heap.size, 3, none⟩ = some (.int .i64 s) := by rw [hb1.cell (by simp)]; simp
    have c4 : w1.cell? ⟨w.heap.size, 4, none⟩ = some (.int .i64 d) := by rw [hb1.cell (by simp)]; simp
    go_wp2
    go_ret
    exact ⟨rfl, hb0⟩

theorem rless_any (t i p s d : Int) (SV NM : ByteArray) (t' i' p' s' d' : Int) (SV' NM' : ByteArray) (w : World) :
    Calls Tryd.prog 21 #[.agg #[.int .i64 t, .int .i64 i, .int .i64 p, .int .i64 s, .int .i64 d, .string SV, .string NM], .agg #[.int .i64 t', .int .i64 i', .int .i64 p', .int .i64 s', .int .i64 d', .string SV', .string NM']] w fun e w' => e = .returned (.bool (lessN s i s' i')) ∧ Below w.heap.size w w' := by
  unfold lessN
  by_cases h : s = s'
  · subst h
    rw [if_pos rfl]
    go_enter Tryd.func21, Tryd.ntmps21
    go_wp2
    go_ret
    exact ⟨rfl, by go_grown⟩
  · rw [if_neg h]
    by_cases h2 : s < s'
    · go_enter Tryd.func21, Tryd.ntmps21
      go_wp2
      go_ret
      exact ⟨by simp [h2], by go_grown⟩
    · have hb : (s == s') = false := beq_eq_false_iff_ne.2 h
      go_enter Tryd.func21, Tryd.ntmps21
      go_wp2
      go_ret
      exact ⟨by simp [h2], by go_grown⟩
end Go.Proofs.YtiipcnldedjkdaaDoor
