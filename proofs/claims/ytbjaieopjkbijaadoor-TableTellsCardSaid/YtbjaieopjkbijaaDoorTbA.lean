/-
  Layer 9: tables and extents in memory; what table's small functions answer: within, wrong, slices.ContainsFunc with wrong and with apart's, apart, rightOpen, Right. Assumed: that the extents lie in memory.
-/
import Derived.Test.YtbjaieopjkbijaaDoorMath9
import Derived.Test.YtbjaieopjkbijaaDoorCeC

namespace Go.Proofs.YtbjaieopjkbijaaDoor
open Go.RowKit
set_option maxRecDepth 100000

/-- an extent as a value, and as cells; a table as a value -/
abbrev exV (x : Tb.Ext) : Value := .agg #[.int .i64 x.q, .int .i64 x.l]
def exCells (x : Tb.Ext) : List Value := [.int .i64 x.q, .int .i64 x.l]
abbrev tabV (g o : Int) (A : Option Addr) (n cap : Nat) : Value := .agg #[.int .i64 g, .int .i64 o, .slice A n cap]
theorem exCells_length (x : Tb.Ext) : (exCells x).length = 2 := rfl
def flatX (xs : List Tb.Ext) : List Value := xs.flatMap exCells
theorem flatX_length (xs : List Tb.Ext) : (flatX xs).length = xs.length * 2 := by
  induction xs with
  | nil => rfl
  | cons x xs ih => simp only [flatX, List.flatMap_cons, List.length_append, List.length_cons, exCells_length] at ih ⊢; omega
theorem flatX_append (xs ys : List Tb.Ext) : flatX (xs ++ ys) = flatX xs ++ flatX ys := by simp [flatX]
theorem flatX_at (xs : List Tb.Ext) (i j : Nat) (x : Tb.Ext) (h : xs[i]? = some x) (hj : j < 2) : (flatX xs)[i * 2 + j]? = (exCells x)[j]? := by
  induction xs generalizing i with
  | nil => simp at h
  | cons y ys ih =>
    cases i with
    | zero =>
      simp only [List.getElem?_cons_zero, Option.some.injEq] at h
      subst h
      simp only [flatX, List.flatMap_cons]
      rw [List.getElem?_append_left (by rw [exCells_length]; omega)]
      simp
    | succ i =>
      have := ih i (by simpa using h)
      simp only [flatX, List.flatMap_cons] at this ⊢
      rw [List.getElem?_append_right (by rw [exCells_length]; omega), exCells_length, show (i + 1) * 2 + j - 2 = i * 2 + j by omega]
      exact this
theorem flatX_one (xs : List Tb.Ext) : ∀ u ∈ flatX xs, u.oneCell' = true := by
  intro u hu
  obtain ⟨x, _, hx⟩ := List.mem_flatMap.1 hu
  simp only [exCells, List.mem_cons, List.not_mem_nil, or_false] at hx
  rcases hx with rfl | rfl <;> rfl
theorem flatX_take (xs : List Tb.Ext) (k : Nat) : (flatX xs).take (k * 2) = flatX (xs.take k) := by
  induction xs generalizing k with
  | nil => simp [flatX]
  | cons x xs ih =>
    cases k with
    | zero => simp [flatX]
    | succ k =>
      have e : flatX (x :: xs) = exCells x ++ flatX xs := rfl
      rw [e, List.take_succ_cons, show (k + 1) * 2 = (exCells x).length + k * 2 by rw [exCells_length]; omega, List.take_length_add_append, ih k]
      rfl
theorem at_ext {w : World} {A : Option Addr} {l : List Tb.Ext} (h : Lies w A (flatX l)) (k : Nat) (hk : k < l.length) :
    ∃ ad, A = some ad ∧ ad.block < w.heap.size ∧ ∀ u, Below w.heap.size w u → u.cell? (ad.add (k * 2)) = some (.int .i64 l[k].q) ∧ u.cell? ⟨(ad.add (k * 2)).block, (ad.add (k * 2)).off + 1, none⟩ = some (.int .i64 l[k].l) := by
  obtain ⟨ad, rfl, hadb, -⟩ := h.at_ (k := k * 2) (by rw [flatX_length]; omega)
  refine ⟨ad, rfl, hadb, ?_⟩
  have hc2 : ∀ j u, (exCells l[k])[j]? = some u → w.cell? ((ad.add (k * 2)).add j) = some u := fun j u hu => by
    have hj : j < 2 := by
      rcases Nat.lt_or_ge j 2 with h | h
      · exact h
      · rw [List.getElem?_eq_none (by rw [exCells_length]; exact h)] at hu; cases hu
    have hf := flatX_at l k j l[k] (List.getElem?_eq_getElem hk) hj
    rw [hu] at hf
    rw [addr_add]
    rcases h with h | ⟨ad', e, _, hc⟩
    · rw [h] at hf; simp at hf
    · injection e with e; subst e; exact hc _ _ hf
  have hpb : (ad.add (k * 2)).block < w.heap.size := by rw [addr_block]; exact hadb
  exact fun u hu => ⟨(hu.cell hpb).trans (hc2 0 _ rfl), (hu.cell (p := ⟨(ad.add (k * 2)).block, (ad.add (k * 2)).off + 1, none⟩) hpb).trans (hc2 1 _ rfl)⟩

theorem withinI_any (n a b : Int) (r : Bool) (h : decide (a ≤ n ∧ n ≤ b) = r) (w : World) : Calls Tryd.prog 30 #[.int .i64 n, .int .i64 a, .int .i64 b] w fun e w' => e = .returned (.bool r) ∧ w = w' := by
  have HR := Lib.hid h
  clear h
  by_cases h1 : a ≤ n
  · by_cases h2 : n ≤ b
    · go_enter Tryd.func30, Tryd.ntmps30
      go_wp2
      go_ret
      exact ⟨by rw [← HR.out, decide_eq_true (by omega)]; rfl, rfl⟩
    · go_enter Tryd.func30, Tryd.ntmps30
      go_wp2
      go_ret
      exact ⟨by rw [← HR.out, decide_eq_false (by omega)]; rfl, rfl⟩
  · go_enter Tryd.func30, Tryd.ntmps30
    go_wp2
    go_ret
    exact ⟨by rw [← HR.out, decide_eq_false (by omega)]; rfl, rfl⟩
theorem withinL_any (n a b : Int) (r : Bool) (h : decide (a ≤ n ∧ n ≤ b) = r) (w : World) : Calls Tryd.prog 29 #[.int .i64 n, .int .i64 a, .int .i64 b] w fun e w' => e = .returned (.bool r) ∧ w = w' := by
  have HR := Lib.hid h
  clear h
  by_cases h1 : a ≤ n
  · by_cases h2 : n ≤ b
    · go_enter Tryd.func29, Tryd.ntmps29
      go_wp2
      go_ret
      exact ⟨by rw [← HR.out, decide_eq_true (by omega)]; rfl, rfl⟩
    · go_enter Tryd.func29, Tryd.ntmps29
      go_wp2
      go_ret
      exact ⟨by rw [← HR.out, decide_eq_false (by omega)]; rfl, rfl⟩
  · go_enter Tryd.func29, Tryd.ntmps29
    go_wp2
    go_ret
    exact ⟨by rw [← HR.out, decide_eq_false (by omega)]; rfl, rfl⟩

set_option maxHeartbeats 1000000 in
theorem wrong_any (x : Tb.Ext) (w : World) : Calls Tryd.prog 32 #[exV x] w fun e w' => e = .returned (.bool (!Tb.okE x)) ∧ Below w.heap.size w w' := by
  obtain ⟨q, l⟩ := x
  have HQ := Lib.hid (show Tb.okE ⟨q, l⟩ = ((decide ((0 : Int) ≤ q ∧ q ≤ 2147483648) && decide ((0 : Int) ≤ l ∧ l ≤ 3776)) && !(decide (q = 0) && !decide (l = 0))) by unfold Tb.okE; simp only [Bool.decide_and])
  have H1 := Lib.hid (fun (r : Bool) (h : decide ((0 : Int) ≤ q ∧ q ≤ 2147483648) = r) (W : World) => withinL_any q 0 2147483648 r h W)
  have H2 := Lib.hid (fun (r : Bool) (h : decide ((0 : Int) ≤ l ∧ l ≤ 3776) = r) (W : World) => withinI_any l 0 3776 r h W)
  have HB := Lib.hid ((Below.refl w.heap.size w).alloc (Nat.le_refl _) (.cells #[.int .i64 q, .int .i64 l] 39))
  generalize Tb.okE ⟨q, l⟩ = R at *
  generalize decide ((0 : Int) ≤ q ∧ q ≤ 2147483648) = b1 at *
  generalize decide ((0 : Int) ≤ l ∧ l ≤ 3776) = b2 at *
  go_enter Tryd.func32, Tryd.ntmps32
  go_wp2_with fail
  refine (H1.out b1 rfl _).mono ?_
  rintro e w1 ⟨rfl, rfl⟩
  rcases b1 with _ | _
  · go_wp2
    go_ret
    exact ⟨by rw [HQ.out]; rfl, HB.out⟩
  go_wp2_with fail
  refine (H2.out b2 rfl _).mono ?_
  rintro e w1 ⟨rfl, rfl⟩
  rcases b2 with _ | _
  · go_wp2
    go_ret
    exact ⟨by rw [HQ.out]; rfl, HB.out⟩
  by_cases hq : q = 0
  · have hqb : (q == 0) = true := by simpa using hq
    by_cases hl : l = 0
    · have hlb : (l != 0) = false := by simpa using hl
      have HZ := Lib.hid (show R = true by rw [HQ.out, hq, hl]; rfl)
      clear hq hl HQ
      go_wp2
      go_ret
      exact ⟨by rw [HZ.out]; rfl, HB.out⟩
    · have hlb : (l != 0) = true := by simpa using hl
      have HZ := Lib.hid (show R = false by rw [HQ.out, decide_eq_true hq, decide_eq_false hl]; rfl)
      clear hq hl HQ
      go_wp2
      go_ret
      exact ⟨by rw [HZ.out]; rfl, HB.out⟩
  · have hqb : (q == 0) = false := by simpa using hq
    have HZ := Lib.hid (show R = true by rw [HQ.out, decide_eq_false hq]; rfl)
    clear hq HQ
    go_wp2
    go_ret
    exact ⟨by rw [HZ.out]; rfl, HB.out⟩
end Go.Proofs.YtbjaieopjkbijaaDoor
