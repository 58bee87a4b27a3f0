/-
  Layer 9: a table that came in, opened. Nothing is assumed.
-/
import Derived.Test.YtgicjdlpkphfnaaHdA
import Derived.ChangeSame
import Derived.JoinedOf
import Derived.Deep.Slices
import Derived.Deep.Fields

namespace Go.Proofs.Ytgicjdlpkphfnaa
open Go.ChangeShapes Go.WideShapes Go.ChangeAt Go.RowKit Go.Deep
set_option maxRecDepth 100000

theorem flatMap9_at {α : Type} (f : α → List Value) (k : Nat) (hk : ∀ x, (f x).length = k) (xs : List α) (i j : Nat) (x : α) (h : xs[i]? = some x) (hj : j < k) : (xs.flatMap f)[i * k + j]? = (f x)[j]? := by
  induction xs generalizing i with
  | nil => simp at h
  | cons y ys ih =>
    cases i with
    | zero =>
      simp only [List.getElem?_cons_zero, Option.some.injEq] at h
      subst h
      rw [List.flatMap_cons, List.getElem?_append_left (by rw [hk]; omega)]
      simp
    | succ i =>
      have := ih i (by simpa using h)
      rw [List.flatMap_cons, List.getElem?_append_right (by rw [hk, Nat.add_mul]; omega), hk]
      rw [show (i + 1) * k + j - k = i * k + j by rw [Nat.add_mul]; omega]
      exact this
theorem flatMap9_len {α : Type} (f : α → List Value) (k : Nat) (hk : ∀ x, (f x).length = k) (xs : List α) : (xs.flatMap f).length = xs.length * k := by
  induction xs with
  | nil => simp
  | cons x xs ih => rw [List.flatMap_cons, List.length_append, hk, ih, List.length_cons, Nat.add_mul]; omega

/-- a slice that came in, of elements of any make -/
theorem read9_rows {H : Type} {enc : TypeId × Value → H} {P : Program} {W : World} {α : Type} [Inhabited α] (f : α → List Value) (k : Nat) (hk : ∀ x, (f x).length = k) (h0 : 0 < k) (Q : α → Prop) {t e : TypeId} (ht : P.underlying t = some (.slice e)) (hC : P.cellsOf e = k)
    (hel : ∀ n cs y, cs.length = k → DataW.trod enc P W 0 (fun _ => true) true n e cs = some y → (∀ p ∈ y.2, p.block < W.heap.size) → ∃ x : α, cs = f x ∧ Q x)
    {n : Nat} {v : Value} {x : DataW H × List MemPlace} (hf : DataW.trod enc P W 0 (fun _ => true) true n t [v] = some x) (hlt : ∀ p ∈ x.2, p.block < W.heap.size) :
    ∃ (A : Option Addr) (cap : Nat) (xs : List α), v = .slice A xs.length cap ∧ xs.length ≤ cap ∧ cap ≤ maxLen ∧ Lies W A (xs.flatMap f) ∧ ∀ x ∈ xs, Q x := by
  rcases open_slice ht hf with ⟨hcs, -⟩ | ⟨a, len, cap, m, n', D, Pl, hcs, hb, hl, hm, hmm, hx, hi⟩
  · injection hcs with hcs
    subst hcs
    exact ⟨none, 0, [], rfl, by simp, by unfold maxLen; omega, .inl rfl, by simp⟩
  · injection hcs with hcs
    subst hcs
    simp only [if_true] at hmm
    subst hmm
    subst hx
    have key : ∀ i, i < len → ∃ y : α, Q y ∧ ∀ j u, (f y)[j]? = some u → W.cell? (a.add (i * k + j)) = some u := by
      intro i hil
      obtain ⟨cs', hc, ht'⟩ := hi i (by omega)
      rw [hC] at hc
      obtain ⟨_, hcl, hat⟩ := World.cells?_some hc
      obtain ⟨y, hy, hQ⟩ := hel _ cs' _ hcl ht' (fun p hp => hlt p (List.mem_append_right _ (List.mem_flatMap.2 ⟨i, List.mem_range.2 (by omega), hp⟩)))
      refine ⟨y, hQ, fun j u hu => ?_⟩
      have hj : j < k := by
        rcases Nat.lt_or_ge j k with h | h
        · exact h
        · rw [List.getElem?_eq_none (by rw [hk]; exact h)] at hu; cases hu
      rw [← addr_add, hat j hj, hy]
      exact hu
    let g : Nat → α := fun i => if h : i < len then Classical.choose (key i h) else default
    have hg : ∀ i, i < len → Q (g i) ∧ ∀ j u, (f (g i))[j]? = some u → W.cell? (a.add (i * k + j)) = some u := fun i h => by
      have e : g i = Classical.choose (key i h) := by simp only [g, dif_pos h]
      rw [e]
      exact Classical.choose_spec (key i h)
    have hlen : ((List.range len).map g).length = len := by simp
    refine ⟨some a, m, (List.range len).map g, by rw [hlen], by rw [hlen]; exact hl, hm, ?_, fun x hx => ?_⟩
    · rcases Nat.eq_zero_or_pos len with h1 | h1
      · subst h1; exact .inl rfl
      · refine .inr ⟨a, rfl, ?_, fun q u hu => ?_⟩
        · exact hlt (.cell a.block a.off) (List.mem_append_left _ (MemPlace.mem_row.2 ⟨0, by rw [hC]; exact Nat.mul_pos (by omega) h0, by simp⟩))
        · have hq : q < len * k := by
            rcases Nat.lt_or_ge q (len * k) with h | h
            · exact h
            · rw [List.getElem?_eq_none (by rw [flatMap9_len f k hk, hlen]; exact h)] at hu; cases hu
          have hi1 : q / k < len := Nat.div_lt_of_lt_mul (by rw [Nat.mul_comm]; exact hq)
          have hq2 : q / k * k + q % k = q := Nat.div_add_mod' q k
          have hat : ((List.range len).map g)[q / k]? = some (g (q / k)) := by simp [hi1]
          have := flatMap9_at f k hk _ _ (q % k) _ hat (Nat.mod_lt _ h0)
          rw [hq2, hu] at this
          have h2 := (hg _ hi1).2 (q % k) u this.symm
          rw [hq2] at h2
          exact h2
    · obtain ⟨i, hi2, rfl⟩ := List.mem_map.1 hx
      exact (hg i (List.mem_range.1 hi2)).1

theorem trod_l64 {H : Type} {enc : TypeId × Value → H} {w : World} {base : Nat} {spare : Nat → Bool} {held : Bool} {n : Nat} {v : Value} {y : DataW H × List MemPlace} (h : DataW.trod enc Try.prog w base spare held n 2 [v] = some y) : ∃ x : Int, v = .int .i64 x := by
  obtain ⟨x, e, -, -⟩ := DataW.trod_int Try.underlying2 h
  exact ⟨x, by injection e⟩
theorem trod_int1 {H : Type} {enc : TypeId × Value → H} {w : World} {base : Nat} {spare : Nat → Bool} {held : Bool} {n : Nat} {v : Value} {y : DataW H × List MemPlace} (h : DataW.trod enc Try.prog w base spare held n 3 [v] = some y) : ∃ x : Int, v = .int .i64 x := by
  obtain ⟨x, e, -, -⟩ := DataW.trod_int Try.underlying3 h
  exact ⟨x, by injection e⟩
theorem read_exts {H : Type} {enc : TypeId × Value → H} {W : World} {n : Nat} {v : Value} {y : DataW H × List MemPlace} (h : DataW.trod enc Try.prog W 0 (fun _ => true) true n 29 [v] = some y) (hlt : ∀ p ∈ y.2, p.block < W.heap.size) :
    ∃ (A : Option Addr) (cap : Nat) (xs : List Tb.Ext), v = .slice A xs.length cap ∧ xs.length ≤ cap ∧ cap ≤ maxLen ∧ Lies W A (flatX xs) := by
  obtain ⟨A, cap, xs, h1, h2, h3, h4, -⟩ := read9_rows exCells 2 exCells_length (by omega) (fun _ => True) Try.underlying29 (by kernel_rfl) (fun n cs y hc ht _ => by
    obtain ⟨ys, n', hn', hy, hlen, hyl, hfl⟩ := DataW.trod_struct Try.underlying44 ht
    have k2 : Try.prog.cellsOf 2 = 1 := by kernel_rfl
    have k3 : Try.prog.cellsOf 3 = 1 := by kernel_rfl
    match cs, hc with
    | [c0, c1], _ =>
      match ys, hyl with
      | [y0, y1], _ =>
        have h0 : DataW.trod enc Try.prog W 0 (fun _ => true) true n' 2 [c0] = some y0 := by have := hfl 0 _ rfl; simpa [k2] using this
        have h1 : DataW.trod enc Try.prog W 0 (fun _ => true) true n' 3 [c1] = some y1 := by have := hfl 1 _ rfl; simpa [k3] using this
        obtain ⟨a0, rfl⟩ := trod_l64 h0
        obtain ⟨a1, rfl⟩ := trod_int1 h1
        exact ⟨⟨a0, a1⟩, rfl, trivial⟩) h hlt
  exact ⟨A, cap, xs, h1, h2, h3, h4⟩
/-- a table that came in -/
theorem open_table {H : Type} {enc : TypeId × Value → H} {W : World} {r : Reach} {b0 : Nat} {v : Value} {d : DataW H} {ps : List MemPlace} (hval : Value.okWide Try.prog W r b0 31 v) (h : DataW.Trod enc Try.prog W 0 (fun _ => true) true 31 v d ps) (hlt : ∀ x ∈ ps, x.block < W.heap.size) :
    ∃ (g o : Int) (A : Option Addr) (cap : Nat) (xs : List Tb.Ext), v = tabV g o A xs.length cap ∧ xs.length ≤ cap ∧ cap ≤ maxLen ∧ Lies W A (flatX xs) := by
  obtain ⟨cs, rfl, hsz⟩ := okWide_struct Try.underlying31 hval
  have hC : Try.prog.cellsOf 31 = 3 := by kernel_rfl
  obtain ⟨l⟩ := cs
  match l, hsz.trans hC with
  | [c0, c1, c2], _ =>
    obtain ⟨fuel, hf⟩ := h
    obtain ⟨ys, n', hn', hy, hlen, hyl, hfl⟩ := DataW.trod_struct Try.underlying31 hf
    have k2 : Try.prog.cellsOf 2 = 1 := by kernel_rfl
    have k3 : Try.prog.cellsOf 3 = 1 := by kernel_rfl
    have k4 : Try.prog.cellsOf 29 = 1 := by kernel_rfl
    match ys, hyl with
    | [y0, y1, y2], _ =>
      have h0 : DataW.trod enc Try.prog W 0 (fun _ => true) true n' 2 [c0] = some y0 := by have := hfl 0 _ rfl; simpa [Value.cells, k2] using this
      have h1 : DataW.trod enc Try.prog W 0 (fun _ => true) true n' 3 [c1] = some y1 := by have := hfl 1 _ rfl; simpa [Value.cells, k3] using this
      have h2 : DataW.trod enc Try.prog W 0 (fun _ => true) true n' 29 [c2] = some y2 := by have := hfl 2 _ rfl; simpa [Value.cells, k4] using this
      have hin : ∀ q ∈ [y0, y1, y2], ∀ p ∈ q.2, p.block < W.heap.size := fun q hq p hp => hlt p (by
        have hy2 := congrArg Prod.snd hy
        simp only at hy2
        rw [hy2]
        exact List.mem_flatMap.2 ⟨q, hq, hp⟩)
      obtain ⟨a0, rfl⟩ := trod_l64 h0
      obtain ⟨a1, rfl⟩ := trod_int1 h1
      obtain ⟨A, cap, xs, rfl, b1, b2, b3⟩ := read_exts h2 (hin y2 (by simp))
      exact ⟨a0, a1, A, cap, xs, rfl, b1, b2, b3⟩
end Go.Proofs.Ytgicjdlpkphfnaa
