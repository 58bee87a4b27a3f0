/-
  TbA: Layer 9: tables and extents in memory; what table's small functions answer: within, wrong, slices.ContainsFunc with wrong and with apart's, apart, rightOpen, Right. Assumed: that the extents lie in memory.
  TbB: Layer 9: slices.ContainsFunc with wrong and with apart's question; apart, rightOpen, Right: what they answer, of any tables. Assumed: that the extents lie in memory.
  TbC: Layer 9: apart, rightOpen, Right: what they answer, of any tables. Assumed: that the extents lie in memory.
  TbR: Layer 9: table.Right: what it answers, of any table. Assumed: that the extents lie in memory.
-/
import Derived.Test.YtgicjdlpkphfnaaMath9
import Derived.Test.YtgicjdlpkphfnaaCel

namespace Go.Proofs.Ytgicjdlpkphfnaa
open Go.RowKit
set_option maxRecDepth 100000

/-- an extent as a value, and as cells; a table as a value -/
abbrev exV (x : Tb.Ext) : Value := .agg #[.int .i64 x.q, .int .i64 x.l]
def exCells (x : Tb.Ext) : List Value := [.int .i64 x.q, .int .i64 x.l]
abbrev tabV (g o : Int) (A : Option Addr) (n cap : Nat) : Value := .agg #[.int .i64 g, .int .i64 o, .slice A n cap]
theorem exCells_length (x : Tb.Ext) : (exCells x).length = 2 := rfl
def flatX (xs : List Tb.Ext) : List Value := xs.flatMap exCells
theorem flatX_length (xs : List Tb.Ext) : (flatX xs).length = xs.length * 2 := by
  induction xs with
  | nil => rfl
  | cons x xs ih => simp only [flatX, List.flatMap_cons, List.length_append, List.length_cons, exCells_length] at ih ⊢; omega
theorem flatX_append (xs ys : List Tb.Ext) : flatX (xs ++ ys) = flatX xs ++ flatX ys := by simp [flatX]
theorem flatX_at (xs : List Tb.Ext) (i j : Nat) (x : Tb.Ext) (h : xs[i]? = some x) (hj : j < 2) : (flatX xs)[i * 2 + j]? = (exCells x)[j]? := by
  induction xs generalizing i with
  | nil => simp at h
  | cons y ys ih =>
    cases i with
    | zero =>
      simp only [List.getElem?_cons_zero, Option.some.injEq] at h
      subst h
      simp only [flatX, List.flatMap_cons]
      rw [List.getElem?_append_left (by rw [exCells_length]; omega)]
      simp
    | succ i =>
      have := ih i (by simpa using h)
      simp only [flatX, List.flatMap_cons] at this ⊢
      rw [List.getElem?_append_right (by rw [exCells_length]; omega), exCells_length, show (i + 1) * 2 + j - 2 = i * 2 + j by omega]
      exact this
theorem flatX_one (xs : List Tb.Ext) : ∀ u ∈ flatX xs, u.oneCell' = true := by
  intro u hu
  obtain ⟨x, _, hx⟩ := List.mem_flatMap.1 hu
  simp only [exCells, List.mem_cons, List.not_mem_nil, or_false] at hx
  rcases hx with rfl | rfl <;> rfl
theorem flatX_take (xs : List Tb.Ext) (k : Nat) : (flatX xs).take (k * 2) = flatX (xs.take k) := by
  induction xs generalizing k with
  | nil => simp [flatX]
  | cons x xs ih =>
    cases k with
    | zero => simp [flatX]
    | succ k =>
      have e : flatX (x :: xs) = exCells x ++ flatX xs := rfl
      rw [e, List.take_succ_cons, show (k + 1) * 2 = (exCells x).length + k * 2 by rw [exCells_length]; omega, List.take_length_add_append, ih k]
      rfl
theorem at_ext {w : World} {A : Option Addr} {l : List Tb.Ext} (h : Lies w A (flatX l)) (k : Nat) (hk : k < l.length) :
    ∃ ad, A = some ad ∧ ad.block < w.heap.size ∧ ∀ u, Below w.heap.size w u → u.cell? (ad.add (k * 2)) = some (.int .i64 l[k].q) ∧ u.cell? ⟨(ad.add (k * 2)).block, (ad.add (k * 2)).off + 1, none⟩ = some (.int .i64 l[k].l) := by
  obtain ⟨ad, rfl, hadb, -⟩ := h.at_ (k := k * 2) (by rw [flatX_length]; omega)
  refine ⟨ad, rfl, hadb, ?_⟩
  have hc2 : ∀ j u, (exCells l[k])[j]? = some u → w.cell? ((ad.add (k * 2)).add j) = some u := fun j u hu => by
    have hj : j < 2 := by
      rcases Nat.lt_or_ge j 2 with h | h
      · exact h
      · rw [List.getElem?_eq_none (by rw [exCells_length]; exact h)] at hu; cases hu
    have hf := flatX_at l k j l[k] (List.getElem?_eq_getElem hk) hj
    rw [hu] at hf
    rw [addr_add]
    rcases h with h | ⟨ad', e, _, hc⟩
    · rw [h] at hf; simp at hf
    · injection e with e; subst e; exact hc _ _ hf
  have hpb : (ad.add (k * 2)).block < w.heap.size := by rw [addr_block]; exact hadb
  exact fun u hu => ⟨(hu.cell hpb).trans (hc2 0 _ rfl), (hu.cell (p := ⟨(ad.add (k * 2)).block, (ad.add (k * 2)).off + 1, none⟩) hpb).trans (hc2 1 _ rfl)⟩

end Go.Proofs.Ytgicjdlpkphfnaa

namespace Go.Proofs.Ytgicjdlpkphfnaa
open Go.RowKit
set_option maxRecDepth 100000

end Go.Proofs.Ytgicjdlpkphfnaa

namespace Go.Proofs.Ytgicjdlpkphfnaa
open Go.RowKit
set_option maxRecDepth 100000

theorem apart_snoc (xs : List Tb.Ext) (i : Nat) (hi : i < xs.length) : Tb.apart (xs.take (i + 1)) = (Tb.apart (xs.take i) && (decide (xs[i].q = 0) || !(xs.take i).any fun x => decide (x.q = xs[i].q))) := by
  rw [List.take_succ_eq_append_getElem hi, Bool.eq_iff_iff]
  unfold Tb.apart
  rw [Bool.and_eq_true, decide_eq_true_eq, decide_eq_true_eq, List.pairwise_append, Bool.or_eq_true, decide_eq_true_eq, Bool.not_eq_true', List.any_eq_false]
  simp only [List.pairwise_singleton, List.mem_singleton, forall_eq, true_and, decide_eq_true_eq]
  constructor
  · rintro ⟨h1, h2⟩
    refine ⟨h1, ?_⟩
    cases Int.decEq xs[i].q 0 with
    | isTrue h => exact .inl h
    | isFalse h => exact .inr fun x hx => h2 x hx h
  · rintro ⟨h1, h2⟩
    refine ⟨h1, fun x hx h0 => ?_⟩
    rcases h2 with h2 | h2
    · exact absurd h2 h0
    · exact h2 x hx
theorem apart_take {xs : List Tb.Ext} (i : Nat) (h : Tb.apart (xs.take i) = false) : Tb.apart xs = false := by
  cases ha : Tb.apart xs with
  | false => rfl
  | true =>
    have h1 : xs.Pairwise fun a b => b.q ≠ 0 → a.q ≠ b.q := of_decide_eq_true ha
    have h2 : Tb.apart (xs.take i) = true := decide_eq_true (List.Pairwise.sublist (List.take_sublist _ _) h1)
    rw [h] at h2; cases h2
theorem slice_to (W : World) (ad : Addr) (n cap i : Nat) (hi : i < n) (hc : n ≤ cap) : (Instr.sliceAt 29 (.slice (some ad) n cap) none (some (.int .i64 (i : Int))) none).run Try.prog W = .ok (.slice (some ad) i cap) W := by
  have h3 : ¬ cap < i := by omega
  simp [Instr.sliceAt, Instr.slice, run_underlying Try.underlying29, Instr.sliceBounds, Instr.sliceBound, asIntOf, h3, Addr.add]

/-- whether the open one may be so, as a program asks -/
theorem opOk_at {g o : Int} {xs : List Tb.Ext} (k : Nat) (hk : k < xs.length) (ho : o = (k : Int)) : Tb.opOk ⟨g, o, xs⟩ = (!decide (xs[k].q = 0) && decide (xs[k].l = 0)) := by
  subst ho
  unfold Tb.opOk
  simp only [Int.toNat_natCast, List.getElem?_eq_getElem hk]
  have e1 : decide ((k : Int) = -1) = false := decide_eq_false (by omega)
  have e2 : decide (0 ≤ (k : Int)) = true := decide_eq_true (by omega)
  rw [e1, e2]
  simp
theorem opOk_out {g o : Int} {xs : List Tb.Ext} (h1 : o ≠ -1) (h2 : ¬ (0 ≤ o ∧ o < (xs.length : Int))) : Tb.opOk ⟨g, o, xs⟩ = false := by
  unfold Tb.opOk
  simp only
  rw [decide_eq_false h1]
  by_cases h3 : 0 ≤ o
  · rw [List.getElem?_eq_none (by omega)]
    simp
  · rw [decide_eq_false h3]; rfl

end Go.Proofs.Ytgicjdlpkphfnaa

namespace Go.Proofs.Ytgicjdlpkphfnaa
open Go.RowKit
set_option maxRecDepth 100000

end Go.Proofs.Ytgicjdlpkphfnaa
