/-
  Layer 3: span.within, Right, End, Less, and the laws' Great: what they answer, for every argument. Nothing is assumed.
-/
import Derived.Test.YtiipcnldedjkdaaDoorMem
import Derived.Test.YtiipcnldedjkdaaDoorSpanP
namespace Go.Proofs.YtiipcnldedjkdaaDoor
open Go.RowKit
set_option maxRecDepth 100000

/-- numbers as cells -/
def ints (xs : List Int) : List Value := xs.map fun x => .int .i64 x
theorem ints_length (xs : List Int) : (ints xs).length = xs.length := by simp [ints]

theorem within_any (lo hi : Int) (A : Option Addr) (n cap : Nat) (xs : List Int) (w : World) (hn : xs.length = n) (hm : n ≤ 1000) (hA : Lies w A (ints xs)) :
    Calls Tryd.prog 26 #[.int .i64 lo, .int .i64 hi, .slice A n cap] w fun e w' => e = .returned (.bool (xs.all (Plain.inN lo hi))) ∧ w = w' := by
  go_enter Tryd.func26, Tryd.ntmps26
  go_wp2
  go_loopw [11] (fun i wr => ∃ k : Nat, i = .int .i64 k ∧ k ≤ n ∧ (xs.take k).all (Plain.inN lo hi) = true ∧ w = wr) (fun i _ => n - (intOf i).toNat)
  case atStart => exact ⟨0, rfl, Nat.zero_le _, by simp, rfl⟩
  case round =>
    obtain ⟨k, rfl, hk, hall, rfl⟩ := hrel
    by_cases hlt : k < n
    · obtain ⟨ad, rfl, hadb, hcell⟩ := hA.at_ (k := k) (by rw [ints_length, hn]; exact hlt)
      have hlx : k < xs.length := by omega
      have hcz : (ints xs)[k]'(by rw [ints_length]; exact hlx) = .int .i64 xs[k] := by simp [ints]
      rw [hcz] at hcell
      have HT := Lib.hid (show (xs.take (k + 1)).all (Plain.inN lo hi) = Plain.inN lo hi xs[k] by rw [List.take_succ_eq_append_getElem hlx, List.all_append, hall]; simp)
      have HD := Lib.hid (show Plain.inN lo hi xs[k] = false → xs.all (Plain.inN lo hi) = false from fun h => by
        rw [Bool.eq_false_iff]; intro hh; rw [List.all_eq_true] at hh; rw [hh _ (List.getElem_mem hlx)] at h; cases h)
      have HI := Lib.hid (Plain.inN_iff lo hi xs[k])
      clear hcz hall
      generalize xs[k] = z at *
      by_cases h1 : z < lo
      · go_wp2
        go_ret
        exact ⟨by rw [HD.out (by rw [Bool.eq_false_iff]; intro h; have := HI.out.1 h; omega)]; rfl, rfl⟩
      · by_cases h2 : hi < z
        · go_wp2
          go_ret
          exact ⟨by rw [HD.out (by rw [Bool.eq_false_iff]; intro h; have := HI.out.1 h; omega)]; rfl, rfl⟩
        · go_wp2
          go_roundw
          case rel => exact ⟨k + 1, by go_num, by omega, by rw [HT.out]; exact HI.out.2 (by omega), trivial⟩
          case measure => simp [intOf]; omega
    · obtain rfl : k = n := by omega
      rw [List.take_of_length_le (by omega)] at hall
      have HH := Lib.hid hall
      clear hall
      go_wp2
      go_ret
      exact ⟨by rw [HH.out]; rfl, rfl⟩

/-- a span's value -/
def spanV (t i p s d : Int) (SV NM : ByteArray) : Value := .agg #[.int .i64 t, .int .i64 i, .int .i64 p, .int .i64 s, .int .i64 d, .string SV, .string NM]

theorem lies_made (w : World) (g : Nat) (xs : List Value) (cs : Array Value) (t : TypeId) (h : xs = cs.toList) (hg : w.heap.size = g) : Lies (w.alloc (.cells cs t)) (some ⟨g, 0, none⟩) xs := by
  subst h hg; exact Lies.new w cs t

set_option maxHeartbeats 4000000 in
theorem right_any (t i p s d : Int) (SV NM : ByteArray) (w : World) (_hV : SV.size ≤ maxLen) (_hN : NM.size ≤ maxLen) :
    Calls Tryd.prog 14 #[.agg #[.int .i64 t, .int .i64 i, .int .i64 p, .int .i64 s, .int .i64 d, .string SV, .string NM]] w fun e w' => e = .returned (.bool (Plain.rightN t i p s d SV.size NM.size)) ∧ Below w.heap.size w w' := by
  unfold maxLen at _hV _hN
  obtain ⟨R, hR⟩ : ∃ R, Plain.rightN t i p s d SV.size NM.size = R := ⟨_, rfl⟩
  obtain ⟨b1, h1⟩ : ∃ b1, [t, i].all (Plain.inN 1 281474976710656) = b1 := ⟨_, rfl⟩
  obtain ⟨b2, h2⟩ : ∃ b2, [p, s, d].all (Plain.inN 0 281474976710656) = b2 := ⟨_, rfl⟩
  obtain ⟨b3, h3⟩ : ∃ b3, [s + d].all (Plain.inN 0 281474976710656) = b3 := ⟨_, rfl⟩
  obtain ⟨b4, h4⟩ : ∃ b4, [(SV.size : Int)].all (Plain.inN 1 32) = b4 := ⟨_, rfl⟩
  obtain ⟨b5, h5⟩ : ∃ b5, [(NM.size : Int)].all (Plain.inN 0 32) = b5 := ⟨_, rfl⟩
  have hall : R = ((((b1 && b2) && b3) && b4) && b5) := by
    rw [← hR, ← h1, ← h2, ← h3, ← h4, ← h5]
    simp [Plain.rightN, Bool.and_assoc]
  have hsd : b2 = true → (0 ≤ s ∧ s ≤ 281474976710656) ∧ (0 ≤ d ∧ d ≤ 281474976710656) := by
    intro h; rw [h] at h2; simp [Plain.inN] at h2; omega
  rw [hR]
  have H1 := Lib.hid h1
  have H2 := Lib.hid h2
  have H3 := Lib.hid h3
  have H4 := Lib.hid h4
  have H5 := Lib.hid h5
  have HA := Lib.hid hall
  clear h1 h2 h3 h4 h5 hall hR
  go_enter Tryd.func14, Tryd.ntmps14
  go_wp2_with fail
  refine (within_any 1 281474976710656 _ 2 2 [t, i] _ rfl (by omega) (lies_made _ _ _ _ _ rfl (by simp))).mono ?_
  rintro e w' ⟨rfl, rfl⟩
  rw [H1.out]
  rcases b1 with _ | _
  · go_wp2
    go_ret
    exact ⟨by rw [HA.out]; rfl, by go_grown⟩
  go_wp2_with fail
  refine (within_any 0 281474976710656 _ 3 3 [p, s, d] _ rfl (by omega) (lies_made _ _ _ _ _ rfl (by simp))).mono ?_
  rintro e w' ⟨rfl, rfl⟩
  rw [H2.out]
  rcases b2 with _ | _
  · go_wp2
    go_ret
    exact ⟨by rw [HA.out]; rfl, by go_grown⟩
  obtain ⟨hs, hd⟩ := hsd rfl
  go_wp2_with fail
  refine (within_any 0 281474976710656 _ 1 1 [s + d] _ rfl (by omega) (lies_made _ _ _ _ _ rfl (by simp))).mono ?_
  rintro e w' ⟨rfl, rfl⟩
  rw [H3.out]
  rcases b3 with _ | _
  · go_wp2
    go_ret
    exact ⟨by rw [HA.out]; rfl, by go_grown⟩
  go_wp2_with fail
  refine (within_any 1 32 _ 1 1 [(SV.size : Int)] _ rfl (by omega) (lies_made _ _ _ _ _ rfl (by simp))).mono ?_
  rintro e w' ⟨rfl, rfl⟩
  rw [H4.out]
  rcases b4 with _ | _
  · go_wp2
    go_ret
    exact ⟨by rw [HA.out]; rfl, by go_grown⟩
  go_wp2_with fail
  refine (within_any 0 32 _ 1 1 [(NM.size : Int)] _ rfl (by omega) (lies_made _ _ _ _ _ rfl (by simp))).mono ?_
  rintro e w' ⟨rfl, rfl⟩
  rw [H5.out]
  go_wp2
  go_ret
  exact ⟨by rw [HA.out]; rfl, by go_grown⟩

/-- End: of a right one its Start and Dur, together -/
def endN (r : Bool) (s d : Int) : Int := if r then s + d else 0
theorem end_any (t i p s d : Int) (SV NM : ByteArray) (w : World) (R : Bool) (hV : SV.size ≤ maxLen) (hN : NM.size ≤ maxLen) (hR : Plain.rightN t i p s d SV.size NM.size = R) :
    Calls Tryd.prog 18 #[.agg #[.int .i64 t, .int .i64 i, .int .i64 p, .int .i64 s, .int .i64 d, .string SV, .string NM]] w fun e w' => e = .returned (.int .i64 (endN R s d)) ∧ Below w.heap.size w w' := by
  have hsd : R = true → (0 ≤ s ∧ s ≤ 281474976710656) ∧ (0 ≤ d ∧ d ≤ 281474976710656) := by
    intro h; rw [h, Plain.rightN_iff] at hR; omega
  have HR := Lib.hid hR
  clear hR
  go_enter Tryd.func18, Tryd.ntmps18
  go_wp2_with fail
  refine (right_any t i p s d SV NM _ hV hN).mono ?_
  rintro e w1 ⟨rfl, hb1⟩
  rw [HR.out]
  have hb0 := ((Below.refl w.heap.size w).alloc (Nat.le_refl _) (.cells #[.int .i64 t, .int .i64 i, .int .i64 p, .int .i64 s, .int .i64 d, .string SV, .string NM] 23)).trans (hb1.mono (by simp))
  rcases R with _ | _
  · go_wp2
    go_ret
    exact ⟨rfl, hb0⟩
  · obtain ⟨hs, hd⟩ := hsd rfl
    have c3 : w1.cell? ⟨w.heap.size, 3, none⟩ = some (.int .i64 s) := by rw [hb1.cell (by simp)]; simp
    have c4 : w1.cell? ⟨w.heap.size, 4, none⟩ = some (.int .i64 d) := by rw [hb1.cell (by simp)]; simp
    go_wp2
    go_ret
    exact ⟨rfl, hb0⟩

def lessN (s i s' i' : Int) : Bool := if s = s' then decide (i < i') else decide (s < s')
theorem less_any (t i p s d : Int) (SV NM : ByteArray) (t' i' p' s' d' : Int) (SV' NM' : ByteArray) (w : World) :
    Calls Tryd.prog 20 #[.agg #[.int .i64 t, .int .i64 i, .int .i64 p, .int .i64 s, .int .i64 d, .string SV, .string NM], .agg #[.int .i64 t', .int .i64 i', .int .i64 p', .int .i64 s', .int .i64 d', .string SV', .string NM']] w fun e w' => e = .returned (.bool (lessN s i s' i')) ∧ Below w.heap.size w w' := by
  unfold lessN
  by_cases h : s = s'
  · subst h
    rw [if_pos rfl]
    go_enter Tryd.func20, Tryd.ntmps20
    go_wp2
    go_ret
    exact ⟨rfl, by go_grown⟩
  · rw [if_neg h]
    go_enter Tryd.func20, Tryd.ntmps20
    go_wp2
    go_ret
    exact ⟨rfl, by go_grown⟩

theorem great_any (t i p s d : Int) (SV NM : ByteArray) (w : World) (_hV : SV.size ≤ maxLen) (_hN : NM.size ≤ maxLen) :
    Calls Tryd.prog 11 #[.agg #[.int .i64 t, .int .i64 i, .int .i64 p, .int .i64 s, .int .i64 d, .string SV, .string NM]] w fun e w' => (∃ g, e = .returned (.bool g)) ∧ Below w.heap.size w w' := by
  unfold maxLen at _hV _hN
  go_enter Tryd.func11, Tryd.ntmps11
  go_wp2
  go_ret
  exact ⟨⟨_, rfl⟩, by go_grown⟩
end Go.Proofs.YtiipcnldedjkdaaDoor
