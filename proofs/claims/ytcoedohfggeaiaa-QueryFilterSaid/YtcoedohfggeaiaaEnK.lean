/-
  Layer 14: turntableref14.Same, the law's One: what they answer, of any entries. Assumed: that these lie in memory.
-/
import Derived.Test.YtcoedohfggeaiaaEnI
import Derived.Deep.Slices
import Derived.Deep.Fields

namespace Go.Proofs.Ytcoedohfggeaiaa
open Go.RowKit Go.Maps En
set_option maxRecDepth 100000

theorem undrew14 {a b : World} (h : Below a.drew.heap.size a.drew b) : Below a.heap.size a b := ⟨h.os, h.tape, h.output, h.size, h.block⟩
/-- the k-th entry's cells, in every later world -/
theorem at_ent {w : World} {A : Option Addr} {l : List Ent} (h : Lies w A (flatEn l)) (k : Nat) (hk : k < l.length) :
    ∃ ad, A = some ad ∧ ad.block < w.heap.size ∧ ∀ u, Below w.heap.size w u → ∀ j c, (entCs l[k])[j]? = some c → u.cell? ((ad.add (k * 13)).add j) = some c := by
  obtain ⟨ad, rfl, hadb, -⟩ := h.at_ (k := k * 13) (by rw [flatEn_length]; omega)
  refine ⟨ad, rfl, hadb, fun u hu j c hc => ?_⟩
  have hj : j < 13 := by
    rcases Nat.lt_or_ge j 13 with h | h
    · exact h
    · rw [List.getElem?_eq_none (by rw [entCs_length]; exact h)] at hc; cases hc
  have hf := flatEn_at l k j l[k] (List.getElem?_eq_getElem hk) hj
  rw [hc] at hf
  rw [addr_add]
  rcases h with h | ⟨ad', e, _, hcl⟩
  · rw [h] at hf; simp at hf
  · injection e with e; subst e
    exact (hu.cell (by rw [addr_block]; exact hadb)).trans (hcl _ _ hf)
/-- an entry in a row, read whole -/
theorem run_loadRow (w : World) (q : Addr) (t : Ent) (h : ∀ j c, (entCs t)[j]? = some c → w.cell? (q.add j) = some c) : (Instr.loadAt 29 (.pointer (some q))).run Try.prog w = .ok (.agg (enA t.e (.slice t.A t.e.sv.length t.cap))) w := by
  have c0 : w.cell? q = some (.int .i64 t.e.id) := by have := h 0 _ rfl; simpa [Addr.add] using this
  have key : ∀ j c, 0 < j → (entCs t)[j]? = some c → w.cell? ⟨q.block, q.off + j, none⟩ = some c := fun j c hj hc => by
    have := h j c hc
    obtain ⟨b, o, sp⟩ := q
    cases sp with
    | none => simpa [Addr.add, Nat.ne_of_gt hj] using this
    | some n =>
      simp only [World.cell?] at c0
      split at c0 <;> simp at c0
  have c1 := key 1 _ (by omega) rfl
  have c2 := key 2 _ (by omega) rfl
  have c3 := key 3 _ (by omega) rfl
  have c4 := key 4 _ (by omega) rfl
  have c5 := key 5 _ (by omega) rfl
  have c6 := key 6 _ (by omega) rfl
  have c7 := key 7 _ (by omega) rfl
  have c8 := key 8 _ (by omega) rfl
  have c9 := key 9 _ (by omega) rfl
  have c10 := key 10 _ (by omega) rfl
  have c11 := key 11 _ (by omega) rfl
  have c12 := key 12 _ (by omega) rfl
  clear key h
  unfold enA
  go_simp

/-- the law's One -/
def one14 (i t s a : Int) : E := ⟨i, 0, t, 20, false, i, 0, 0, 1, [[119, 101, 98]], s, a, 20⟩
theorem one14_any (i t s a : Int) (w : World) : Calls Try.prog 19 #[.int .i64 i, .int .i64 t, .int .i64 s, .int .i64 a] w fun e w' => ∃ g, e = .returned (.agg (enA (one14 i t s a) (.slice (some ⟨g, 0, none⟩) 1 1))) ∧ w.heap.size ≤ g ∧ Svs w' [[119, 101, 98]] (some ⟨g, 0, none⟩) 1 ∧ Below w.heap.size w w' := by
  go_enter Try.func19, Try.ntmps19
  go_wp2_with fail
  have hb := ((BoxE.new w (one14 i t s a) (.slice (some ⟨w.heap.size + 1, 0, none⟩) 1 1)).below ((Below.refl _ _).alloc (Nat.le_refl _) (.cells #[.string ⟨#[119, 101, 98]⟩] 9)))
  have hL : Lies ((w.alloc (.cells (enA (one14 i t s a) (.slice (some ⟨w.heap.size + 1, 0, none⟩) 1 1)) 29)).alloc (.cells #[.string ⟨#[119, 101, 98]⟩] 9)) (some ⟨w.heap.size + 1, 0, none⟩) (strs [[119, 101, 98]]) := by
    have := Lies.new (w.alloc (.cells (enA (one14 i t s a) (.slice (some ⟨w.heap.size + 1, 0, none⟩) 1 1)) 29)) #[.string ⟨#[119, 101, 98]⟩] 9
    rw [World.size_alloc] at this
    exact this
  have hB : Below w.heap.size w ((w.alloc (.cells (enA (one14 i t s a) (.slice (some ⟨w.heap.size + 1, 0, none⟩) 1 1)) 29)).alloc (.cells #[.string ⟨#[119, 101, 98]⟩] 9)) := ((Below.refl _ _).alloc (Nat.le_refl _) _).alloc (by simp) _
  unfold enA at *
  simp only [one14] at *
  revert hb hL hB
  generalize World.alloc _ _ = wf
  intro hb hL hB
  obtain ⟨y0, y1, y2, y3, y4, y5, y6, y7, y8, y9, y10, y11, y12⟩ := BoxE.all (x := one14 i t s a) hb
  simp only [one14] at y0 y1 y2 y3 y4 y5 y6 y7 y8 y9 y10 y11 y12
  refine bodyPost_ret (v := .agg #[.int .i64 i, .int .i64 0, .int .i64 t, .int .i64 20, .bool false, .int .i64 i, .int .i64 0, .int .i64 0, .int .i64 1, .slice (some ⟨w.heap.size + 1, 0, none⟩) 1 1, .int .i64 s, .int .i64 a, .int .i64 20]) (w := wf) (by simp [results, Try.results19, go_sem, y0, y1, y2, y3, y4, y5, y6, y7, y8, y9, y10, y11, y12]) rfl ?_
  exact ⟨w.heap.size + 1, rfl, by omega, ⟨by simp, by simp, by unfold maxLen; omega, hL⟩, hB⟩
end Go.Proofs.Ytcoedohfggeaiaa

