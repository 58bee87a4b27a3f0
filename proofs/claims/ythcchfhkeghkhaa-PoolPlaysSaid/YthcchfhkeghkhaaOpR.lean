/-
  Layer 13: how a record that came in is opened.
-/
import Derived.Test.YthcchfhkeghkhaaSpanO
import Derived.Test.YthcchfhkeghkhaaRd
import Derived.Test.YthcchfhkeghkhaaRc13

namespace Go.Proofs.Ythcchfhkeghkhaa
open Go.ChangeShapes Go.WideShapes Go.ChangeAt Go.RowKit Go.Deep
set_option maxRecDepth 100000

theorem read_spans13 {H : Type} {enc : TypeId × Value → H} {W : World} {fuel : Nat} {c : Value} {y : DataW H × List MemPlace} (hf : DataW.trod enc Try.prog W 0 (fun _ => true) true fuel 29 [c] = some y) (hlt : ∀ x ∈ y.2, x.block < W.heap.size) :
    ∃ (A : Option Addr) (cap : Nat) (xs : List Plain.Sp), c = .slice A xs.length cap ∧ xs.length ≤ cap ∧ cap ≤ maxLen ∧ Lies W A (flat xs) ∧ ∀ x ∈ xs, x.sv.length ≤ maxLen ∧ x.nm.length ≤ maxLen := by
  have hC : Try.prog.cellsOf 45 = 7 := by kernel_rfl
  rcases open_slice Try.underlying29 hf with ⟨hcs, -⟩ | ⟨a, len, cap, m, n, D, Pl, hcs, hb, hl, hm, hmm, hx, hi⟩
  · simp at hcs
    subst hcs
    exact ⟨none, 0, [], rfl, by simp, by unfold maxLen; omega, .inl rfl, fun x hx => by cases hx⟩
  · simp at hcs
    subst hcs
    simp only [if_true] at hmm
    subst hmm
    have key : ∀ i, i < len → ∃ x : Plain.Sp, (∀ j u, (spanCells x)[j]? = some u → W.cell? (a.add (i * 7 + j)) = some u) ∧ x.sv.length ≤ maxLen ∧ x.nm.length ≤ maxLen := by
      intro i hil
      obtain ⟨cs', hc, ht'⟩ := hi i (by omega)
      rw [hC] at hc
      obtain ⟨ys, n', hn', hy, hlen, hyl, hfl⟩ := DataW.trod_struct Try.underlying45 ht'
      obtain ⟨_, hcl, hat⟩ := World.cells?_some hc
      have k2 : Try.prog.cellsOf 2 = 1 := by kernel_rfl
      have k9 : Try.prog.cellsOf 9 = 1 := by kernel_rfl
      match cs', hcl with
      | [c0, c1, c2, c3, c4, c5, c6], _ =>
        match ys, hyl with
        | [y0, y1, y2, y3, y4, y5, y6], _ =>
          have h0 : DataW.trod enc Try.prog W 0 (fun _ => true) true n' 2 [c0] = some y0 := by have := hfl 0 _ rfl; simpa [k2] using this
          have h1 : DataW.trod enc Try.prog W 0 (fun _ => true) true n' 2 [c1] = some y1 := by have := hfl 1 _ rfl; simpa [k2] using this
          have h2 : DataW.trod enc Try.prog W 0 (fun _ => true) true n' 2 [c2] = some y2 := by have := hfl 2 _ rfl; simpa [k2] using this
          have h3 : DataW.trod enc Try.prog W 0 (fun _ => true) true n' 2 [c3] = some y3 := by have := hfl 3 _ rfl; simpa [k2] using this
          have h4 : DataW.trod enc Try.prog W 0 (fun _ => true) true n' 2 [c4] = some y4 := by have := hfl 4 _ rfl; simpa [k2] using this
          have h5 : DataW.trod enc Try.prog W 0 (fun _ => true) true n' 9 [c5] = some y5 := by have := hfl 5 _ rfl; simpa [k9] using this
          have h6 : DataW.trod enc Try.prog W 0 (fun _ => true) true n' 9 [c6] = some y6 := by have := hfl 6 _ rfl; simpa [k9] using this
          obtain ⟨a0, rfl⟩ := trod_i64 h0
          obtain ⟨a1, rfl⟩ := trod_i64 h1
          obtain ⟨a2, rfl⟩ := trod_i64 h2
          obtain ⟨a3, rfl⟩ := trod_i64 h3
          obtain ⟨a4, rfl⟩ := trod_i64 h4
          obtain ⟨s5, rfl, l5⟩ := trod_str h5
          obtain ⟨s6, rfl, l6⟩ := trod_str h6
          refine ⟨⟨a0, a1, a2, a3, a4, s5, s6⟩, fun j u hu => ?_, l5, l6⟩
          have hj : j < 7 := by
            rcases Nat.lt_or_ge j 7 with h | h
            · exact h
            · rw [List.getElem?_eq_none (by rw [spanCells_length]; exact h)] at hu; cases hu
          rw [← addr_add, hat j hj]
          exact hu
    let f : Nat → Plain.Sp := fun i => if h : i < len then Classical.choose (key i h) else Plain.Sp.zero
    have hf2 : ∀ i, i < len → (∀ j u, (spanCells (f i))[j]? = some u → W.cell? (a.add (i * 7 + j)) = some u) ∧ (f i).sv.length ≤ maxLen ∧ (f i).nm.length ≤ maxLen := fun i h => by
      have e : f i = Classical.choose (key i h) := by simp only [f, dif_pos h]
      rw [e]
      exact Classical.choose_spec (key i h)
    have hlen : ((List.range len).map f).length = len := by simp
    refine ⟨some a, m, (List.range len).map f, by rw [hlen], by rw [hlen]; exact hl, hm, ?_, fun x hx => ?_⟩
    · rcases Nat.eq_zero_or_pos len with h0 | h0
      · subst h0; exact .inl rfl
      · refine .inr ⟨a, rfl, ?_, fun q u hu => ?_⟩
        · have hx1 := congrArg Prod.snd hx
          simp only at hx1
          exact hlt (.cell a.block a.off) (by rw [hx1]; exact List.mem_append_left _ (MemPlace.mem_row.2 ⟨0, by rw [hC]; omega, by simp⟩))
        · have hq : q < len * 7 := by
            rcases Nat.lt_or_ge q (len * 7) with h | h
            · exact h
            · rw [List.getElem?_eq_none (by rw [flat_length, hlen]; exact h)] at hu; cases hu
          have hi1 : q / 7 < len := by omega
          have hq2 : q / 7 * 7 + q % 7 = q := by omega
          have hat : ((List.range len).map f)[q / 7]? = some (f (q / 7)) := by simp [hi1]
          have := flat_at _ _ (q % 7) _ hat (Nat.mod_lt _ (by omega))
          rw [hq2, hu] at this
          have h1 := (hf2 _ hi1).1 (q % 7) u this.symm
          rw [hq2] at h1
          exact h1
    · obtain ⟨i, hi1, rfl⟩ := List.mem_map.1 hx
      exact (hf2 i (List.mem_range.1 hi1)).2

end Go.Proofs.Ythcchfhkeghkhaa
