/-
  Layer 3: a slice of spans that came in, opened: its spans' cells, one behind the other. Nothing is assumed.
-/
import Derived.Test.YtiipcnldedjkdaaDoorLaid3
import Derived.Deep.Slices
import Derived.Deep.Fields
namespace Go.Proofs.YtiipcnldedjkdaaDoor
open Go.Joins Go.ChangeShapes Go.WideShapes Go.RowKit Go.Deep
set_option maxRecDepth 100000

/-- a span's cells -/
def spanCells (x : Plain.Sp) : List Value := [.int .i64 x.t, .int .i64 x.i, .int .i64 x.p, .int .i64 x.s, .int .i64 x.d, .string (str x.sv), .string (str x.nm)]
theorem spanCells_length (x : Plain.Sp) : (spanCells x).length = 7 := rfl
def flat (xs : List Plain.Sp) : List Value := xs.flatMap spanCells
theorem flat_length (xs : List Plain.Sp) : (flat xs).length = xs.length * 7 := by
  induction xs with
  | nil => rfl
  | cons x xs ih => simp only [flat, List.flatMap_cons, List.length_append, List.length_cons, spanCells_length] at ih ⊢; omega
theorem flat_append (xs ys : List Plain.Sp) : flat (xs ++ ys) = flat xs ++ flat ys := by simp [flat]
theorem flat_at (xs : List Plain.Sp) (i j : Nat) (x : Plain.Sp) (h : xs[i]? = some x) (hj : j < 7) : (flat xs)[i * 7 + j]? = (spanCells x)[j]? := by
  induction xs generalizing i with
  | nil => simp at h
  | cons y xs ih =>
    rcases i with _ | i
    · simp only [List.getElem?_cons_zero, Option.some.injEq] at h
      subst h
      simp only [flat, List.flatMap_cons]
      rw [List.getElem?_append_left (by rw [spanCells_length]; omega)]
      simp
    · simp only [List.getElem?_cons_succ] at h
      have := ih i h
      simp only [flat, List.flatMap_cons] at this ⊢
      rw [List.getElem?_append_right (by rw [spanCells_length]; omega), spanCells_length, show (i + 1) * 7 + j - 7 = i * 7 + j by omega]
      exact this

theorem open_spans {H : Type} {enc : TypeId × Value → H} {W : World} {r : Reach} {b0 : Nat} {v : Value} {d : DataW H} {ps : List MemPlace} (hval : Value.okWide Tryd.prog W r b0 37 v) (h : DataW.Trod enc Tryd.prog W 0 (fun _ => true) true 37 v d ps) (hlt : ∀ x ∈ ps, x.block < W.heap.size) :
    ∃ (A : Option Addr) (cap : Nat) (xs : List Plain.Sp), v = .slice A xs.length cap ∧ xs.length ≤ cap ∧ cap ≤ maxLen ∧ Lies W A (flat xs) ∧ ∀ x ∈ xs, x.sv.length ≤ maxLen ∧ x.nm.length ≤ maxLen := by
  obtain ⟨a0, len, cap, rfl⟩ := okWide_slice Tryd.underlying37 hval
  obtain ⟨fuel, hf⟩ := h
  have hC : Tryd.prog.cellsOf 23 = 7 := by kernel_rfl
  rcases open_slice Tryd.underlying37 hf with ⟨hcs, -⟩ | ⟨a, len', cap', m, n, D, Pl, hcs, hb, hl, hm, hmm, hx, hi⟩
  · simp [Value.cells] at hcs
    obtain ⟨rfl, rfl, rfl⟩ := hcs
    exact ⟨none, 0, [], rfl, by simp, by unfold maxLen; omega, .inl rfl, fun x hx => by cases hx⟩
  · simp [Value.cells] at hcs
    obtain ⟨rfl, rfl, rfl⟩ := hcs
    simp only [if_true] at hmm
    subst hmm
    have key : ∀ i, i < len → ∃ x : Plain.Sp, (∀ j u, (spanCells x)[j]? = some u → W.cell? (a.add (i * 7 + j)) = some u) ∧ x.sv.length ≤ maxLen ∧ x.nm.length ≤ maxLen := by
      intro i hil
      obtain ⟨cs', hc, ht'⟩ := hi i (by omega)
      rw [hC] at hc
      obtain ⟨ys, n', hn', hy, hlen, hyl, hfl⟩ := DataW.trod_struct Tryd.underlying23 ht'
      obtain ⟨_, hcl, hat⟩ := World.cells?_some hc
      have k2 : Tryd.prog.cellsOf 2 = 1 := by kernel_rfl
      have k9 : Tryd.prog.cellsOf 9 = 1 := by kernel_rfl
      match cs', hcl with
      | [c0, c1, c2, c3, c4, c5, c6], _ =>
        match ys, hyl with
        | [y0, y1, y2, y3, y4, y5, y6], _ =>
          have h0 : DataW.trod enc Tryd.prog W 0 (fun _ => true) true n' 2 [c0] = some y0 := by have := hfl 0 _ rfl; simpa [k2] using this
          have h1 : DataW.trod enc Tryd.prog W 0 (fun _ => true) true n' 2 [c1] = some y1 := by have := hfl 1 _ rfl; simpa [k2] using this
          have h2 : DataW.trod enc Tryd.prog W 0 (fun _ => true) true n' 2 [c2] = some y2 := by have := hfl 2 _ rfl; simpa [k2] using this
          have h3 : DataW.trod enc Tryd.prog W 0 (fun _ => true) true n' 2 [c3] = some y3 := by have := hfl 3 _ rfl; simpa [k2] using this
          have h4 : DataW.trod enc Tryd.prog W 0 (fun _ => true) true n' 2 [c4] = some y4 := by have := hfl 4 _ rfl; simpa [k2] using this
          have h5 : DataW.trod enc Tryd.prog W 0 (fun _ => true) true n' 9 [c5] = some y5 := by have := hfl 5 _ rfl; simpa [k9] using this
          have h6 : DataW.trod enc Tryd.prog W 0 (fun _ => true) true n' 9 [c6] = some y6 := by have := hfl 6 _ rfl; simpa [k9] using this
          obtain ⟨a0, rfl⟩ := trod_i64 h0
          obtain ⟨a1, rfl⟩ := trod_i64 h1
          obtain ⟨a2, rfl⟩ := trod_i64 h2
          obtain ⟨a3, rfl⟩ := trod_i64 h3
          obtain ⟨a4, rfl⟩ := trod_i64 h4
          obtain ⟨s5, rfl, l5⟩ := trod_str h5
          obtain ⟨s6, rfl, l6⟩ := trod_str h6
          refine ⟨⟨a0, a1, a2, a3, a4, s5, s6⟩, fun j u hu => ?_, l5, l6⟩
          have hj : j < 7 := by
            rcases Nat.lt_or_ge j 7 with h | h
            · exact h
            · rw [List.getElem?_eq_none (by rw [spanCells_length]; exact h)] at hu; cases hu
          rw [← addr_add, hat j hj]
          exact hu
    let f : Nat → Plain.Sp := fun i => if h : i < len then Classical.choose (key i h) else Plain.Sp.zero
    have hf2 : ∀ i, i < len → (∀ j u, (spanCells (f i))[j]? = some u → W.cell? (a.add (i * 7 + j)) = some u) ∧ (f i).sv.length ≤ maxLen ∧ (f i).nm.length ≤ maxLen := fun i h => by
      have e : f i = Classical.choose (key i h) := by simp only [f, dif_pos h]
      rw [e]
      exact Classical.choose_spec (key i h)
    have hlen : ((List.range len).map f).length = len := by simp
    refine ⟨some a, m, (List.range len).map f, by rw [hlen], by rw [hlen]; exact hl, hm, ?_, fun x hx => ?_⟩
    · rcases Nat.eq_zero_or_pos len with h0 | h0
      · subst h0; exact .inl rfl
      · refine .inr ⟨a, rfl, ?_, fun q u hu => ?_⟩
        · have hx1 := congrArg Prod.snd hx
          simp only at hx1
          exact hlt (.cell a.block a.off) (by rw [hx1]; exact List.mem_append_left _ (MemPlace.mem_row.2 ⟨0, by rw [hC]; omega, by simp⟩))
        · have hq : q < len * 7 := by
            rcases Nat.lt_or_ge q (len * 7) with h | h
            · exact h
            · rw [List.getElem?_eq_none (by rw [flat_length, hlen]; exact h)] at hu; cases hu
          have hi1 : q / 7 < len := by omega
          have hq2 : q / 7 * 7 + q % 7 = q := by omega
          have hat : ((List.range len).map f)[q / 7]? = some (f (q / 7)) := by simp [hi1]
          have := flat_at _ _ (q % 7) _ hat (Nat.mod_lt _ (by omega))
          rw [hq2, hu] at this
          have h1 := (hf2 _ hi1).1 (q % 7) u this.symm
          rw [hq2] at h1
          exact h1
    · obtain ⟨i, hi1, rfl⟩ := List.mem_map.1 hx
      exact (hf2 i (List.mem_range.1 hi1)).2
end Go.Proofs.YtiipcnldedjkdaaDoor
