/-
  Layer 6: an item, and a slice of items, that came in, opened. Nothing is assumed.
-/
import Derived.Test.YtkhlgjkbkpbhiaaHd6
import Derived.ChangeSame
import Derived.JoinedOf
import Derived.Deep.Slices
import Derived.Deep.Fields

namespace Go.Proofs.Ytkhlgjkbkpbhiaa
open Go.ChangeShapes Go.WideShapes Go.ChangeAt Go.RowKit Go.Deep
set_option maxRecDepth 100000

section
variable {H : Type} {enc : TypeId × Value → H} {P : Program} {w : World} {base : Nat} {spare : Nat → Bool} {held : Bool}
theorem open_agg5 {r : Reach} {b0 : Nat} {t : TypeId} {f0 f1 f2 f3 f4 : Field} {v : Value} {d : DataW H} {p : List MemPlace} (hs : P.underlying t = some (.struct #[f0, f1, f2, f3, f4])) (hone : oneCellFields P #[f0, f1, f2, f3, f4] = true) (hC : P.cellsOf t = 5)
    (hv : Value.okWide P w r b0 t v) (h : DataW.Trod enc P w base spare held t v d p) :
    ∃ (v0 v1 v2 v3 v4 : Value) (y0 y1 y2 y3 y4 : DataW H × List MemPlace) (n : Nat), v = .agg #[v0, v1, v2, v3, v4] ∧
      DataW.trod enc P w base spare held n f0.type [v0] = some y0 ∧ DataW.trod enc P w base spare held n f1.type [v1] = some y1 ∧ DataW.trod enc P w base spare held n f2.type [v2] = some y2 ∧ DataW.trod enc P w base spare held n f3.type [v3] = some y3 ∧ DataW.trod enc P w base spare held n f4.type [v4] = some y4 := by
  obtain ⟨cs, rfl, hsz⟩ := okWide_struct hs hv
  obtain ⟨l⟩ := cs
  match l, hsz.trans hC with
  | [c0, c1, c2, c3, c4], _ =>
    obtain ⟨fuel, hf⟩ := h
    obtain ⟨xs, n, _, hx, _, hlen, hg⟩ := DataW.trod_struct hs hf
    obtain ⟨o0, k0⟩ := hone_of hone 0 f0 rfl
    obtain ⟨o1, k1⟩ := hone_of hone 1 f1 rfl
    obtain ⟨o2, k2⟩ := hone_of hone 2 f2 rfl
    obtain ⟨o3, k3⟩ := hone_of hone 3 f3 rfl
    obtain ⟨o4, k4⟩ := hone_of hone 4 f4 rfl
    match xs, hlen with
    | [y0, y1, y2, y3, y4], _ =>
      exact ⟨c0, c1, c2, c3, c4, y0, y1, y2, y3, y4, n, rfl, by simpa [Value.cells, o0, k0] using hg 0 f0 rfl, by simpa [Value.cells, o1, k1] using hg 1 f1 rfl, by simpa [Value.cells, o2, k2] using hg 2 f2 rfl, by simpa [Value.cells, o3, k3] using hg 3 f3 rfl, by simpa [Value.cells, o4, k4] using hg 4 f4 rfl⟩
end

theorem trod_i64 {H : Type} {enc : TypeId × Value → H} {w : World} {base : Nat} {spare : Nat → Bool} {held : Bool} {n : Nat} {v : Value} {y : DataW H × List MemPlace} (h : DataW.trod enc Try.prog w base spare held n 2 [v] = some y) : ∃ x : Int, v = .int .i64 x := by
  obtain ⟨x, e, -, -⟩ := DataW.trod_int Try.underlying2 h
  exact ⟨x, by injection e⟩
theorem trod_int1 {H : Type} {enc : TypeId × Value → H} {w : World} {base : Nat} {spare : Nat → Bool} {held : Bool} {n : Nat} {v : Value} {y : DataW H × List MemPlace} (h : DataW.trod enc Try.prog w base spare held n 3 [v] = some y) : ∃ x : Int, v = .int .i64 x := by
  obtain ⟨x, e, -, -⟩ := DataW.trod_int Try.underlying3 h
  exact ⟨x, by injection e⟩
theorem trod_bool1 {H : Type} {enc : TypeId × Value → H} {w : World} {base : Nat} {spare : Nat → Bool} {held : Bool} {n : Nat} {v : Value} {y : DataW H × List MemPlace} (h : DataW.trod enc Try.prog w base spare held n 4 [v] = some y) : ∃ x : Bool, v = .bool x := by
  obtain ⟨x, e, -⟩ := DataW.trod_bool Try.underlying4 h
  exact ⟨x, by injection e⟩
/-- an item that came in -/
theorem open_item {H : Type} {enc : TypeId × Value → H} {W : World} {r : Reach} {b0 : Nat} {v : Value} {d : DataW H} {ps : List MemPlace} (hval : Value.okWide Try.prog W r b0 24 v) (h : DataW.Trod enc Try.prog W 0 (fun _ => true) true 24 v d ps) :
    ∃ x : Plain.It, v = itV x := by
  obtain ⟨v0, v1, v2, v3, v4, y0, y1, y2, y3, y4, n, rfl, h0, h1, h2, h3, h4⟩ := open_agg5 Try.underlying24 (by kernel_rfl) (by kernel_rfl) hval h
  obtain ⟨a0, rfl⟩ := trod_i64 h0
  obtain ⟨a1, rfl⟩ := trod_int1 h1
  obtain ⟨a2, rfl⟩ := trod_i64 h2
  obtain ⟨a3, rfl⟩ := trod_int1 h3
  obtain ⟨a4, rfl⟩ := trod_bool1 h4
  exact ⟨⟨a0, a1, a2, a3, a4⟩, rfl⟩

theorem open_items {H : Type} {enc : TypeId × Value → H} {W : World} {r : Reach} {b0 : Nat} {v : Value} {d : DataW H} {ps : List MemPlace} (hval : Value.okWide Try.prog W r b0 22 v) (h : DataW.Trod enc Try.prog W 0 (fun _ => true) true 22 v d ps) (hlt : ∀ x ∈ ps, x.block < W.heap.size) :
    ∃ (A : Option Addr) (cap : Nat) (xs : List Plain.It), v = .slice A xs.length cap ∧ xs.length ≤ cap ∧ cap ≤ maxLen ∧ Lies W A (flatI xs) := by
  obtain ⟨a0, len, cap, rfl⟩ := okWide_slice Try.underlying22 hval
  obtain ⟨fuel, hf⟩ := h
  have hC : Try.prog.cellsOf 24 = 5 := by kernel_rfl
  rcases open_slice Try.underlying22 hf with ⟨hcs, -⟩ | ⟨a, len', cap', m, n, D, Pl, hcs, hb, hl, hm, hmm, hx, hi⟩
  · simp [Value.cells] at hcs
    obtain ⟨rfl, rfl, rfl⟩ := hcs
    exact ⟨none, 0, [], rfl, by simp, by unfold maxLen; omega, .inl rfl⟩
  · simp [Value.cells] at hcs
    obtain ⟨rfl, rfl, rfl⟩ := hcs
    simp only [if_true] at hmm
    subst hmm
    have key : ∀ i, i < len → ∃ x : Plain.It, (∀ j u, (itCells x)[j]? = some u → W.cell? (a.add (i * 5 + j)) = some u) := by
      intro i hil
      obtain ⟨cs', hc, ht'⟩ := hi i (by omega)
      rw [hC] at hc
      obtain ⟨ys, n', hn', hy, hlen, hyl, hfl⟩ := DataW.trod_struct Try.underlying24 ht'
      obtain ⟨_, hcl, hat⟩ := World.cells?_some hc
      have k2 : Try.prog.cellsOf 2 = 1 := by kernel_rfl
      have k3 : Try.prog.cellsOf 3 = 1 := by kernel_rfl
      have k4 : Try.prog.cellsOf 4 = 1 := by kernel_rfl
      match cs', hcl with
      | [c0, c1, c2, c3, c4], _ =>
        match ys, hyl with
        | [y0, y1, y2, y3, y4], _ =>
          have h0 : DataW.trod enc Try.prog W 0 (fun _ => true) true n' 2 [c0] = some y0 := by have := hfl 0 _ rfl; simpa [k2] using this
          have h1 : DataW.trod enc Try.prog W 0 (fun _ => true) true n' 3 [c1] = some y1 := by have := hfl 1 _ rfl; simpa [k3] using this
          have h2 : DataW.trod enc Try.prog W 0 (fun _ => true) true n' 2 [c2] = some y2 := by have := hfl 2 _ rfl; simpa [k2] using this
          have h3 : DataW.trod enc Try.prog W 0 (fun _ => true) true n' 3 [c3] = some y3 := by have := hfl 3 _ rfl; simpa [k3] using this
          have h4 : DataW.trod enc Try.prog W 0 (fun _ => true) true n' 4 [c4] = some y4 := by have := hfl 4 _ rfl; simpa [k4] using this
          obtain ⟨a0, rfl⟩ := trod_i64 h0
          obtain ⟨a1, rfl⟩ := trod_int1 h1
          obtain ⟨a2, rfl⟩ := trod_i64 h2
          obtain ⟨a3, rfl⟩ := trod_int1 h3
          obtain ⟨a4, rfl⟩ := trod_bool1 h4
          refine ⟨⟨a0, a1, a2, a3, a4⟩, fun j u hu => ?_⟩
          have hj : j < 5 := by
            rcases Nat.lt_or_ge j 5 with h | h
            · exact h
            · rw [List.getElem?_eq_none (by rw [itCells_length]; exact h)] at hu; cases hu
          rw [← addr_add, hat j hj]
          exact hu
    let f : Nat → Plain.It := fun i => if h : i < len then Classical.choose (key i h) else default
    have hf2 : ∀ i, i < len → (∀ j u, (itCells (f i))[j]? = some u → W.cell? (a.add (i * 5 + j)) = some u) := fun i h => by
      have e : f i = Classical.choose (key i h) := by simp only [f, dif_pos h]
      rw [e]
      exact Classical.choose_spec (key i h)
    have hlen : ((List.range len).map f).length = len := by simp
    refine ⟨some a, m, (List.range len).map f, by rw [hlen], by rw [hlen]; exact hl, hm, ?_⟩
    · rcases Nat.eq_zero_or_pos len with h0 | h0
      · subst h0; exact .inl rfl
      · refine .inr ⟨a, rfl, ?_, fun q u hu => ?_⟩
        · have hx1 := congrArg Prod.snd hx
          simp only at hx1
          exact hlt (.cell a.block a.off) (by rw [hx1]; exact List.mem_append_left _ (MemPlace.mem_row.2 ⟨0, by rw [hC]; omega, by simp⟩))
        · have hq : q < len * 5 := by
            rcases Nat.lt_or_ge q (len * 5) with h | h
            · exact h
            · rw [List.getElem?_eq_none (by rw [flatI_length, hlen]; exact h)] at hu; cases hu
          have hi1 : q / 5 < len := by omega
          have hq2 : q / 5 * 5 + q % 5 = q := by omega
          have hat : ((List.range len).map f)[q / 5]? = some (f (q / 5)) := by simp [hi1]
          have := flatI_at _ _ (q % 5) _ hat (Nat.mod_lt _ (by omega))
          rw [hq2, hu] at this
          have h1 := hf2 _ hi1 (q % 5) u this.symm
          rw [hq2] at h1
          exact h1
end Go.Proofs.Ytkhlgjkbkpbhiaa
