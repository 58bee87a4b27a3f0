/-
  What came in, opened: slices of elements of any make, over the element's reader; bytes within them. Nothing is assumed.
-/
import Derived.Test.YthcchfhkeghkhaaBase
import Derived.ChangeSame
import Derived.JoinedOf
import Derived.Deep.Slices
import Derived.Deep.Fields

namespace Go.Proofs.Ythcchfhkeghkhaa
open Go.ChangeShapes Go.WideShapes Go.ChangeAt Go.RowKit Go.Deep
set_option maxRecDepth 100000

theorem flatMap_at {α : Type} (f : α → List Value) (k : Nat) (hk : ∀ x, (f x).length = k) (xs : List α) (i j : Nat) (x : α) (h : xs[i]? = some x) (hj : j < k) : (xs.flatMap f)[i * k + j]? = (f x)[j]? := by
  induction xs generalizing i with
  | nil => simp at h
  | cons y ys ih =>
    cases i with
    | zero =>
      simp only [List.getElem?_cons_zero, Option.some.injEq] at h
      subst h
      rw [List.flatMap_cons, List.getElem?_append_left (by rw [hk]; omega)]
      simp
    | succ i =>
      have := ih i (by simpa using h)
      rw [List.flatMap_cons, List.getElem?_append_right (by rw [hk, Nat.add_mul]; omega), hk]
      rw [show (i + 1) * k + j - k = i * k + j by rw [Nat.add_mul]; omega]
      exact this
theorem flatMap_len {α : Type} (f : α → List Value) (k : Nat) (hk : ∀ x, (f x).length = k) (xs : List α) : (xs.flatMap f).length = xs.length * k := by
  induction xs with
  | nil => simp
  | cons x xs ih => rw [List.flatMap_cons, List.length_append, hk, ih, List.length_cons, Nat.add_mul]; omega

/-- a slice that came in, of elements of any make -/
theorem read_rows {H : Type} {enc : TypeId × Value → H} {P : Program} {W : World} {α : Type} [Inhabited α] (f : α → List Value) (k : Nat) (hk : ∀ x, (f x).length = k) (h0 : 0 < k) (Q : α → Prop) {t e : TypeId} (ht : P.underlying t = some (.slice e)) (hC : P.cellsOf e = k)
    (hel : ∀ n cs y, cs.length = k → DataW.trod enc P W 0 (fun _ => true) true n e cs = some y → (∀ p ∈ y.2, p.block < W.heap.size) → ∃ x : α, cs = f x ∧ Q x)
    {n : Nat} {v : Value} {x : DataW H × List MemPlace} (hf : DataW.trod enc P W 0 (fun _ => true) true n t [v] = some x) (hlt : ∀ p ∈ x.2, p.block < W.heap.size) :
    ∃ (A : Option Addr) (cap : Nat) (xs : List α), v = .slice A xs.length cap ∧ xs.length ≤ cap ∧ cap ≤ maxLen ∧ Lies W A (xs.flatMap f) ∧ ∀ x ∈ xs, Q x := by
  rcases open_slice ht hf with ⟨hcs, -⟩ | ⟨a, len, cap, m, n', D, Pl, hcs, hb, hl, hm, hmm, hx, hi⟩
  · injection hcs with hcs
    subst hcs
    exact ⟨none, 0, [], rfl, by simp, by unfold maxLen; omega, .inl rfl, by simp⟩
  · injection hcs with hcs
    subst hcs
    simp only [if_true] at hmm
    subst hmm
    subst hx
    have key : ∀ i, i < len → ∃ y : α, Q y ∧ ∀ j u, (f y)[j]? = some u → W.cell? (a.add (i * k + j)) = some u := by
      intro i hil
      obtain ⟨cs', hc, ht'⟩ := hi i (by omega)
      rw [hC] at hc
      obtain ⟨_, hcl, hat⟩ := World.cells?_some hc
      obtain ⟨y, hy, hQ⟩ := hel _ cs' _ hcl ht' (fun p hp => hlt p (List.mem_append_right _ (List.mem_flatMap.2 ⟨i, List.mem_range.2 (by omega), hp⟩)))
      refine ⟨y, hQ, fun j u hu => ?_⟩
      have hj : j < k := by
        rcases Nat.lt_or_ge j k with h | h
        · exact h
        · rw [List.getElem?_eq_none (by rw [hk]; exact h)] at hu; cases hu
      rw [← addr_add, hat j hj, hy]
      exact hu
    let g : Nat → α := fun i => if h : i < len then Classical.choose (key i h) else default
    have hg : ∀ i, i < len → Q (g i) ∧ ∀ j u, (f (g i))[j]? = some u → W.cell? (a.add (i * k + j)) = some u := fun i h => by
      have e : g i = Classical.choose (key i h) := by simp only [g, dif_pos h]
      rw [e]
      exact Classical.choose_spec (key i h)
    have hlen : ((List.range len).map g).length = len := by simp
    refine ⟨some a, m, (List.range len).map g, by rw [hlen], by rw [hlen]; exact hl, hm, ?_, fun x hx => ?_⟩
    · rcases Nat.eq_zero_or_pos len with h1 | h1
      · subst h1; exact .inl rfl
      · refine .inr ⟨a, rfl, ?_, fun q u hu => ?_⟩
        · exact hlt (.cell a.block a.off) (List.mem_append_left _ (MemPlace.mem_row.2 ⟨0, by rw [hC]; exact Nat.mul_pos (by omega) h0, by simp⟩))
        · have hq : q < len * k := by
            rcases Nat.lt_or_ge q (len * k) with h | h
            · exact h
            · rw [List.getElem?_eq_none (by rw [flatMap_len f k hk, hlen]; exact h)] at hu; cases hu
          have hi1 : q / k < len := Nat.div_lt_of_lt_mul (by rw [Nat.mul_comm]; exact hq)
          have hq2 : q / k * k + q % k = q := Nat.div_add_mod' q k
          have hat : ((List.range len).map g)[q / k]? = some (g (q / k)) := by simp [hi1]
          have := flatMap_at f k hk _ _ (q % k) _ hat (Nat.mod_lt _ h0)
          rw [hq2, hu] at this
          have h2 := (hg _ hi1).2 (q % k) u this.symm
          rw [hq2] at h2
          exact h2
    · obtain ⟨i, hi2, rfl⟩ := List.mem_map.1 hx
      exact (hg i (List.mem_range.1 hi2)).1

theorem trodA_int {H : Type} {enc : TypeId × Value → H} {w : World} {base : Nat} {spare : Nat → Bool} {held : Bool} {n : Nat} {v : Value} {y : DataW H × List MemPlace} (h : DataW.trod enc Try.prog w base spare held n 3 [v] = some y) : ∃ x : Int, v = .int .i64 x ∧ -9223372036854775808 ≤ x ∧ x ≤ 9223372036854775807 := by
  obtain ⟨x, e, -, hw⟩ := DataW.trod_int Try.underlying3 h
  have := bounds_i64 hw
  exact ⟨x, (by injection e), by omega, by omega⟩
theorem trodA_u8 {H : Type} {enc : TypeId × Value → H} {w : World} {base : Nat} {spare : Nat → Bool} {held : Bool} {n : Nat} {v : Value} {y : DataW H × List MemPlace} (h : DataW.trod enc Try.prog w base spare held n 5 [v] = some y) : ∃ c : UInt8, v = .int .u8 (c.toNat : Int) := by
  obtain ⟨x, e, -, hw⟩ := DataW.trod_int Try.underlying5 h
  have := bounds_u8 hw
  refine ⟨UInt8.ofNat x.toNat, ?_⟩
  injection e with e
  rw [e]
  congr 1
  simp
  omega
theorem trodA_u32 {H : Type} {enc : TypeId × Value → H} {w : World} {base : Nat} {spare : Nat → Bool} {held : Bool} {n : Nat} {v : Value} {y : DataW H × List MemPlace} (h : DataW.trod enc Try.prog w base spare held n 94 [v] = some y) : ∃ c : Nat, v = .int .u32 (c : Int) ∧ c < 4294967296 := by
  obtain ⟨x, e, -, hw⟩ := DataW.trod_int Try.underlying94 h
  have := bounds_u32 hw
  obtain ⟨c, rfl⟩ := Int.eq_ofNat_of_zero_le this.1
  exact ⟨c, (by injection e), by omega⟩
theorem trodA_bool {H : Type} {enc : TypeId × Value → H} {w : World} {base : Nat} {spare : Nat → Bool} {held : Bool} {n : Nat} {v : Value} {y : DataW H × List MemPlace} (h : DataW.trod enc Try.prog w base spare held n 4 [v] = some y) : ∃ x : Bool, v = .bool x := by
  obtain ⟨x, e, -⟩ := DataW.trod_bool Try.underlying4 h
  exact ⟨x, by injection e⟩

theorem one_of {cs : List Value} (h : cs.length = 1) : ∃ c, cs = [c] := List.length_eq_one_iff.1 h

section
variable {H : Type} {enc : TypeId × Value → H} {W : World} {n : Nat} {v : Value} {y : DataW H × List MemPlace}
theorem read_bytes (h : DataW.trod enc Try.prog W 0 (fun _ => true) true n 68 [v] = some y) (hlt : ∀ p ∈ y.2, p.block < W.heap.size) :
    ∃ (A : Option Addr) (cap : Nat) (bs : List UInt8), v = .slice A bs.length cap ∧ bs.length ≤ cap ∧ cap ≤ maxLen ∧ Lies W A (cells bs) := by
  obtain ⟨A, cap, xs, h1, h2, h3, h4, -⟩ := read_rows (fun c : UInt8 => [.int .u8 (c.toNat : Int)]) 1 (fun _ => rfl) (by omega) (fun _ => True) Try.underlying68 (by kernel_rfl) (fun n cs y hc ht _ => by
    obtain ⟨c, rfl⟩ := one_of hc
    obtain ⟨x, rfl⟩ := trodA_u8 ht
    exact ⟨x, rfl, trivial⟩) h hlt
  refine ⟨A, cap, xs, h1, h2, h3, ?_⟩
  have e : xs.flatMap (fun c : UInt8 => [Value.int .u8 (c.toNat : Int)]) = cells xs := by
    unfold cells
    clear h1 h2 h4
    induction xs with
    | nil => rfl
    | cons a l ih => rw [List.flatMap_cons, ih]; rfl
  rwa [e] at h4
end

theorem cells_one_slice {t : TypeId} {r : Reach} {b0 : Nat} {W : World} {v : Value} {e : TypeId} (ht : Try.prog.underlying t = some (.slice e)) (hval : Value.okWide Try.prog W r b0 t v) : v.cells.toList = [v] := by
  obtain ⟨a0, len, cap, rfl⟩ := okWide_slice ht hval
  rfl
end Go.Proofs.Ythcchfhkeghkhaa
