/-
  Layer 14: an entry read in its row; rows of one's own: their form, and that they stay. Nothing is assumed. (Out of GrE and LwE: no call of the developers' in it.)
-/
import Derived.Test.YtcoedohfggeaiaaEnK

namespace Go.Proofs.Ytcoedohfggeaiaa
open Go.RowKit Go.Maps En
set_option maxRecDepth 100000

/-- the same, as the walk spells it, behind the first cell -/
theorem cell_key {w : World} {q : Addr} {f : List Value} (h : ∀ j c, f[j]? = some c → w.cell? (q.add j) = some c) {c0 : Value} (h0 : f[0]? = some c0) {j : Nat} {c : Value} (hj : 0 < j) (hc : f[j]? = some c) : w.cell? ⟨q.block, q.off + j, none⟩ = some c := by
  have := h j c hc
  have c0 := h 0 c0 h0
  obtain ⟨b, o, sp⟩ := q
  cases sp with
  | none => simpa [Addr.add, Nat.ne_of_gt hj] using this
  | some n =>
    simp only [Addr.add, World.cell?] at c0
    split at c0 <;> simp at c0
theorem ent_all {w : World} {q : Addr} {t : Ent} (h : ∀ j c, (entCs t)[j]? = some c → w.cell? (q.add j) = some c) : w.cell? q = some (.int .i64 t.e.id) ∧ w.cell? ⟨q.block, q.off + 1, none⟩ = some (.int .i64 t.e.cl) ∧ w.cell? ⟨q.block, q.off + 2, none⟩ = some (.int .i64 t.e.tick) ∧ w.cell? ⟨q.block, q.off + 3, none⟩ = some (.int .i64 t.e.cost) ∧ w.cell? ⟨q.block, q.off + 4, none⟩ = some (.bool t.e.pin) ∧ w.cell? ⟨q.block, q.off + 5, none⟩ = some (.int .i64 t.e.bid) ∧ w.cell? ⟨q.block, q.off + 6, none⟩ = some (.int .i64 t.e.lo) ∧ w.cell? ⟨q.block, q.off + 7, none⟩ = some (.int .i64 t.e.hi) ∧ w.cell? ⟨q.block, q.off + 8, none⟩ = some (.int .i64 t.e.many) ∧ w.cell? ⟨q.block, q.off + 9, none⟩ = some (.slice t.A t.e.sv.length t.cap) ∧ w.cell? ⟨q.block, q.off + 10, none⟩ = some (.int .i64 t.e.seq) ∧ w.cell? ⟨q.block, q.off + 11, none⟩ = some (.int .i64 t.e.pl) ∧ w.cell? ⟨q.block, q.off + 12, none⟩ = some (.int .i64 t.e.sz) := by
  have key : ∀ j c, 0 < j → (entCs t)[j]? = some c → w.cell? ⟨q.block, q.off + j, none⟩ = some c := fun j c hj hc => cell_key h rfl hj hc
  have h0 : w.cell? q = some (.int .i64 t.e.id) := by have := h 0 _ rfl; simpa [Addr.add] using this
  exact ⟨h0, key 1 _ (by omega) rfl, key 2 _ (by omega) rfl, key 3 _ (by omega) rfl, key 4 _ (by omega) rfl, key 5 _ (by omega) rfl, key 6 _ (by omega) rfl, key 7 _ (by omega) rfl, key 8 _ (by omega) rfl, key 9 _ (by omega) rfl, key 10 _ (by omega) rfl, key 11 _ (by omega) rfl, key 12 _ (by omega) rfl⟩
theorem own_block_lt {w : World} {base size n : Nat} {v : Value} {e : TypeId} {xs : List Value} (h : w.ownsRow base e size v n xs) : ∀ r ∈ v.ownBlock.toList, r < w.heap.size ∧ base ≤ r := by
  intro r hr
  rcases h.2 with ⟨rfl, -⟩ | ⟨g, cap, cur, rfl, hb, hg, -⟩
  · cases hr
  · simp only [Value.ownBlock, Option.toList_some, List.mem_singleton] at hr
    subst hr
    exact ⟨(Array.getElem?_eq_some_iff.1 hg).1, hb⟩
theorem row_form {w : World} {base size n : Nat} {v : Value} {e : TypeId} {xs : List Value} (h : w.ownsRow base e size v n xs) : ∃ A cap, v = .slice A n cap ∧ n ≤ cap ∧ cap ≤ maxLen ∧ (n = 0 ∨ Lies w A xs) ∧ (∀ ad, A = some ad → base ≤ ad.block) ∧ (v.ownBlock = A.map (·.block)) := by
  rcases h.2 with ⟨rfl, h0⟩ | ⟨g, cap, cur, rfl, hb, hg, h1, h2, h3⟩
  · subst h0
    exact ⟨none, 0, rfl, Nat.le_refl _, Nat.zero_le _, .inl rfl, fun _ e => (by cases e), rfl⟩
  · exact ⟨_, cap, rfl, h1, h2, .inr (.inr ⟨_, rfl, (h.lt g rfl).2, h.cells (g := g) rfl⟩), fun ad e => (by cases e; exact hb), rfl⟩
theorem nil_of_len {α : Type} {l : List α} (h : l.length = 0) : l = [] := List.eq_nil_of_length_eq_zero h
theorem row_lies {w : World} {base : Nat} {v : Value} {e : TypeId} {l : List Int} (h : w.ownsRow base e 1 v l.length (nums l)) : ∃ A cap, v = .slice A l.length cap ∧ l.length ≤ cap ∧ cap ≤ maxLen ∧ Lies w A (nums l) := by
  obtain ⟨A, cap, h1, h2, h3, h4, -⟩ := row_form h
  refine ⟨A, cap, h1, h2, h3, ?_⟩
  rcases h4 with h4 | h4
  · rw [nil_of_len h4]; exact .inl rfl
  · exact h4
theorem lies_row {w : World} {base m caps : Nat} {A : Option Addr} {e : TypeId} {L : List Int} (hm : L.length = m) (h : w.ownsRow base e 1 (.slice A m caps) m (nums L)) : Lies w A (nums L) := by
  subst hm
  obtain ⟨A', c', e', -, -, h'⟩ := row_lies h
  cases e'
  exact h'
theorem own_off14 {w w' : World} {base size n : Nat} {e : TypeId} {v : Value} {xs : List Value} {S : List Nat} (h : w.ownsRow base e size v n xs) (k : Kept S w w') (hS : ∀ s ∈ S, s ∉ v.ownBlock.toList) : w'.ownsRow base e size v n xs := by
  refine ⟨h.1, h.2.imp id ?_⟩
  rintro ⟨g, cap, cur, rfl, h2, h3, h4⟩
  exact ⟨g, cap, cur, rfl, h2, (k.block g (Array.getElem?_eq_some_iff.1 h3).1 (fun hm => hS g hm (by simp [Value.ownBlock]))).trans h3, h4⟩
end Go.Proofs.Ytcoedohfggeaiaa
