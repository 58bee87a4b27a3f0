/-
  Layer 6: an item in memory; order.Right, order.First and how items are compared: what they answer, of any items. Nothing is assumed.
-/
import Derived.Test.YtkhlgjkbkpbhiaaGen
import Derived.Test.YtkhlgjkbkpbhiaaMathI
import Derived.Test.YtkhlgjkbkpbhiaaStb

namespace Go.Proofs.Ytkhlgjkbkpbhiaa
open Go.RowKit
set_option maxRecDepth 100000

/-- an item as a value, and as cells -/
abbrev itV (x : Plain.It) : Value := .agg #[.int .i64 x.id, .int .i64 x.cls, .int .i64 x.tick, .int .i64 x.cost, .bool x.pin]
def itCells (x : Plain.It) : List Value := [.int .i64 x.id, .int .i64 x.cls, .int .i64 x.tick, .int .i64 x.cost, .bool x.pin]
theorem itCells_length (x : Plain.It) : (itCells x).length = 5 := rfl
def flatI (xs : List Plain.It) : List Value := xs.flatMap itCells
theorem flatI_length (xs : List Plain.It) : (flatI xs).length = xs.length * 5 := by
  induction xs with
  | nil => rfl
  | cons x xs ih => simp only [flatI, List.flatMap_cons, List.length_append, List.length_cons, itCells_length] at ih ⊢; omega
theorem flatI_append (xs ys : List Plain.It) : flatI (xs ++ ys) = flatI xs ++ flatI ys := by simp [flatI]
theorem flatI_at (xs : List Plain.It) (i j : Nat) (x : Plain.It) (h : xs[i]? = some x) (hj : j < 5) : (flatI xs)[i * 5 + j]? = (itCells x)[j]? := by
  induction xs generalizing i with
  | nil => simp at h
  | cons y ys ih =>
    cases i with
    | zero =>
      simp only [List.getElem?_cons_zero, Option.some.injEq] at h
      subst h
      simp only [flatI, List.flatMap_cons]
      rw [List.getElem?_append_left (by rw [itCells_length]; omega)]
      simp
    | succ i =>
      have := ih i (by simpa using h)
      simp only [flatI, List.flatMap_cons] at this ⊢
      rw [List.getElem?_append_right (by rw [itCells_length]; omega), itCells_length, show (i + 1) * 5 + j - 5 = i * 5 + j by omega]
      exact this
theorem flatI_one (xs : List Plain.It) : ∀ u ∈ flatI xs, u.oneCell' = true := by
  intro u hu
  obtain ⟨x, _, hx⟩ := List.mem_flatMap.1 hu
  simp only [itCells, List.mem_cons, List.not_mem_nil, or_false] at hx
  rcases hx with rfl | rfl | rfl | rfl | rfl <;> rfl

theorem withinI_any (n a b : Int) (r : Bool) (h : decide (a ≤ n ∧ n ≤ b) = r) (w : World) : Calls Try.prog 22 #[.int .i64 n, .int .i64 a, .int .i64 b] w fun e w' => e = .returned (.bool r) ∧ w = w' := by
  have HR := Lib.hid h
  clear h
  by_cases h1 : a ≤ n
  · by_cases h2 : n ≤ b
    · go_enter Try.func22, Try.ntmps22
      go_wp2
      go_ret
      exact ⟨by rw [← HR.out, decide_eq_true (by omega)]; rfl, rfl⟩
    · go_enter Try.func22, Try.ntmps22
      go_wp2
      go_ret
      exact ⟨by rw [← HR.out, decide_eq_false (by omega)]; rfl, rfl⟩
  · go_enter Try.func22, Try.ntmps22
    go_wp2
    go_ret
    exact ⟨by rw [← HR.out, decide_eq_false (by omega)]; rfl, rfl⟩
theorem withinL_any (n a b : Int) (r : Bool) (h : decide (a ≤ n ∧ n ≤ b) = r) (w : World) : Calls Try.prog 24 #[.int .i64 n, .int .i64 a, .int .i64 b] w fun e w' => e = .returned (.bool r) ∧ w = w' := by
  have HR := Lib.hid h
  clear h
  by_cases h1 : a ≤ n
  · by_cases h2 : n ≤ b
    · go_enter Try.func24, Try.ntmps24
      go_wp2
      go_ret
      exact ⟨by rw [← HR.out, decide_eq_true (by omega)]; rfl, rfl⟩
    · go_enter Try.func24, Try.ntmps24
      go_wp2
      go_ret
      exact ⟨by rw [← HR.out, decide_eq_false (by omega)]; rfl, rfl⟩
  · go_enter Try.func24, Try.ntmps24
    go_wp2
    go_ret
    exact ⟨by rw [← HR.out, decide_eq_false (by omega)]; rfl, rfl⟩

set_option maxHeartbeats 1000000 in
theorem right_any (x : Plain.It) (w : World) : Calls Try.prog 13 #[itV x] w fun e w' => e = .returned (.bool x.right) ∧ Below w.heap.size w w' := by
  obtain ⟨R, hR⟩ : ∃ R, x.right = R := ⟨_, rfl⟩
  rw [hR]
  obtain ⟨i, c, t, s, p⟩ := x
  have HR := Lib.hid hR
  simp only [Plain.It.right] at HR
  clear hR
  have H1 := Lib.hid (fun (r : Bool) (h : decide ((1 : Int) ≤ i ∧ i ≤ 281474976710656) = r) (W : World) => withinL_any i 1 281474976710656 r h W)
  have H2 := Lib.hid (fun (r : Bool) (h : decide ((0 : Int) ≤ c ∧ c ≤ 7) = r) (W : World) => withinI_any c 0 7 r h W)
  have H3 := Lib.hid (fun (r : Bool) (h : decide ((0 : Int) ≤ t ∧ t ≤ 281474976710656) = r) (W : World) => withinL_any t 0 281474976710656 r h W)
  have H4 := Lib.hid (fun (r : Bool) (h : decide ((0 : Int) ≤ s ∧ s ≤ 1048576) = r) (W : World) => withinI_any s 0 1048576 r h W)
  have HB := Lib.hid ((Below.refl w.heap.size w).alloc (Nat.le_refl _) (.cells #[.int .i64 i, .int .i64 c, .int .i64 t, .int .i64 s, .bool p] 24))
  have HQ := Lib.hid (show ((decide ((1 : Int) ≤ i ∧ i ≤ 281474976710656) && (decide ((0 : Int) ≤ c ∧ c ≤ 7) && (decide ((0 : Int) ≤ t ∧ t ≤ 281474976710656) && decide ((0 : Int) ≤ s ∧ s ≤ 1048576)))) = R) by rw [← HR.out]; simp only [Bool.decide_and])
  clear HR
  generalize decide ((1 : Int) ≤ i ∧ i ≤ 281474976710656) = b1 at *
  generalize decide ((0 : Int) ≤ c ∧ c ≤ 7) = b2 at *
  generalize decide ((0 : Int) ≤ t ∧ t ≤ 281474976710656) = b3 at *
  generalize decide ((0 : Int) ≤ s ∧ s ≤ 1048576) = b4 at *
  go_enter Try.func13, Try.ntmps13
  go_wp2_with fail
  refine (H1.out b1 rfl _).mono ?_
  rintro e w1 ⟨rfl, rfl⟩
  rcases b1 with _ | _
  · go_wp2
    go_ret
    exact ⟨by rw [← HQ.out]; rfl, HB.out⟩
  go_wp2_with fail
  refine (H2.out b2 rfl _).mono ?_
  rintro e w1 ⟨rfl, rfl⟩
  rcases b2 with _ | _
  · go_wp2
    go_ret
    exact ⟨by rw [← HQ.out]; rfl, HB.out⟩
  go_wp2_with fail
  refine (H3.out b3 rfl _).mono ?_
  rintro e w1 ⟨rfl, rfl⟩
  rcases b3 with _ | _
  · go_wp2
    go_ret
    exact ⟨by rw [← HQ.out]; rfl, HB.out⟩
  go_wp2_with fail
  refine (H4.out b4 rfl _).mono ?_
  rintro e w1 ⟨rfl, rfl⟩
  go_wp2
  go_ret
  exact ⟨by rw [← HQ.out]; simp, HB.out⟩

theorem compareI_any (a b : Int) (w : World) : Calls Try.prog 29 #[.int .i64 a, .int .i64 b] w fun e w' => e = .returned (.int .i64 (Plain.cmpN a b)) ∧ w = w' := by
  have hN : ∀ w, Calls Try.prog 32 #[.int .i64 a] w fun e w' => e = .returned (.bool false) ∧ w = w' := fun w => by
    go_enter Try.func32, Try.ntmps32
    go_wp2
    go_ret
    exact ⟨rfl, rfl⟩
  have hM : ∀ w, Calls Try.prog 32 #[.int .i64 b] w fun e w' => e = .returned (.bool false) ∧ w = w' := fun w => by
    go_enter Try.func32, Try.ntmps32
    go_wp2
    go_ret
    exact ⟨rfl, rfl⟩
  have HN := Lib.hid hN
  have HM := Lib.hid hM
  clear hN hM
  unfold Plain.cmpN
  by_cases h1 : a < b
  · rw [if_pos h1]
    go_enter Try.func29, Try.ntmps29
    go_wp2_with fail
    refine (HN.out _).mono ?_
    rintro e w1 ⟨rfl, rfl⟩
    go_wp2_with fail
    refine (HM.out _).mono ?_
    rintro e w1 ⟨rfl, rfl⟩
    go_wp2
    go_ret
    exact ⟨rfl, rfl⟩
  · rw [if_neg h1]
    by_cases h2 : b < a
    · rw [if_pos h2]
      go_enter Try.func29, Try.ntmps29
      go_wp2_with fail
      refine (HN.out _).mono ?_
      rintro e w1 ⟨rfl, rfl⟩
      go_wp2_with fail
      refine (HM.out _).mono ?_
      rintro e w1 ⟨rfl, rfl⟩
      go_wp2
      go_ret
      exact ⟨rfl, rfl⟩
    · rw [if_neg h2]
      go_enter Try.func29, Try.ntmps29
      go_wp2_with fail
      refine (HN.out _).mono ?_
      rintro e w1 ⟨rfl, rfl⟩
      go_wp2_with fail
      refine (HM.out _).mono ?_
      rintro e w1 ⟨rfl, rfl⟩
      go_wp2
      go_ret
      exact ⟨rfl, rfl⟩
theorem compareL_any (a b : Int) (w : World) : Calls Try.prog 30 #[.int .i64 a, .int .i64 b] w fun e w' => e = .returned (.int .i64 (Plain.cmpN a b)) ∧ w = w' := by
  have hN : ∀ w, Calls Try.prog 33 #[.int .i64 a] w fun e w' => e = .returned (.bool false) ∧ w = w' := fun w => by
    go_enter Try.func33, Try.ntmps33
    go_wp2
    go_ret
    exact ⟨rfl, rfl⟩
  have hM : ∀ w, Calls Try.prog 33 #[.int .i64 b] w fun e w' => e = .returned (.bool false) ∧ w = w' := fun w => by
    go_enter Try.func33, Try.ntmps33
    go_wp2
    go_ret
    exact ⟨rfl, rfl⟩
  have HN := Lib.hid hN
  have HM := Lib.hid hM
  clear hN hM
  unfold Plain.cmpN
  by_cases h1 : a < b
  · rw [if_pos h1]
    go_enter Try.func30, Try.ntmps30
    go_wp2_with fail
    refine (HN.out _).mono ?_
    rintro e w1 ⟨rfl, rfl⟩
    go_wp2_with fail
    refine (HM.out _).mono ?_
    rintro e w1 ⟨rfl, rfl⟩
    go_wp2
    go_ret
    exact ⟨rfl, rfl⟩
  · rw [if_neg h1]
    by_cases h2 : b < a
    · rw [if_pos h2]
      go_enter Try.func30, Try.ntmps30
      go_wp2_with fail
      refine (HN.out _).mono ?_
      rintro e w1 ⟨rfl, rfl⟩
      go_wp2_with fail
      refine (HM.out _).mono ?_
      rintro e w1 ⟨rfl, rfl⟩
      go_wp2
      go_ret
      exact ⟨rfl, rfl⟩
    · rw [if_neg h2]
      go_enter Try.func30, Try.ntmps30
      go_wp2_with fail
      refine (HN.out _).mono ?_
      rintro e w1 ⟨rfl, rfl⟩
      go_wp2_with fail
      refine (HM.out _).mono ?_
      rintro e w1 ⟨rfl, rfl⟩
      go_wp2
      go_ret
      exact ⟨rfl, rfl⟩

set_option maxHeartbeats 1000000 in
theorem or_any (g : Nat) (a b c : Int) (w : World) (h0 : w.cell? ⟨g, 0, none⟩ = some (.int .i64 a)) (h1 : w.cell? ⟨g, 1, none⟩ = some (.int .i64 b)) (h2 : w.cell? ⟨g, 2, none⟩ = some (.int .i64 c)) :
    Calls Try.prog 28 #[.slice (some ⟨g, 0, none⟩) 3 3] w fun e w' => e = .returned (.int .i64 (Plain.orN a b c)) ∧ w = w' := by
  unfold Plain.orN
  by_cases ha : a = 0
  · subst ha
    rw [if_pos rfl]
    by_cases hb : b = 0
    · subst hb
      rw [if_pos rfl]
      by_cases hc : c = 0
      · subst hc
        go_enter Try.func28, Try.ntmps28
        go_wp2
        refine wp_loop_rounds 4 ?_
        rw [rounds_succ]
        go_wp2
        rw [rounds_succ]
        go_wp2
        rw [rounds_succ]
        go_wp2
        rw [rounds_succ]
        go_wp2
        go_ret
        exact ⟨rfl, rfl⟩
      · skip
        go_enter Try.func28, Try.ntmps28
        go_wp2
        refine wp_loop_rounds 4 ?_
        rw [rounds_succ]
        go_wp2
        rw [rounds_succ]
        go_wp2
        rw [rounds_succ]
        go_wp2
        go_ret
        exact ⟨rfl, rfl⟩
    · rw [if_neg hb]
      go_enter Try.func28, Try.ntmps28
      go_wp2
      refine wp_loop_rounds 4 ?_
      rw [rounds_succ]
      go_wp2
      rw [rounds_succ]
      go_wp2
      go_ret
      exact ⟨rfl, rfl⟩
  · rw [if_neg ha]
    go_enter Try.func28, Try.ntmps28
    go_wp2
    refine wp_loop_rounds 4 ?_
    rw [rounds_succ]
    go_wp2
    go_ret
    exact ⟨rfl, rfl⟩
end Go.Proofs.Ytkhlgjkbkpbhiaa
