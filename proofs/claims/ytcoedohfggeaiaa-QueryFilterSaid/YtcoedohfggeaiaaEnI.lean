/-
  Layer 14: entry.told, of Ids, of Items, of entries: what it answers, of any pointers to an index's entries; rows of entries. Assumed: that these lie in memory.
-/
import Derived.Test.YtcoedohfggeaiaaEnH

namespace Go.Proofs.Ytcoedohfggeaiaa
open Go.RowKit Go.Maps En
set_option maxRecDepth 100000

/-- an entry in a row, with where its services lie -/
structure Ent where
  e : E
  A : Option Addr
  cap : Nat
instance : Inhabited Ent := ⟨⟨default, none, 0⟩⟩
def entCs (t : Ent) : List Value := (enA t.e (.slice t.A t.e.sv.length t.cap)).toList
theorem entCs_length (t : Ent) : (entCs t).length = 13 := rfl
def flatEn (ts : List Ent) : List Value := ts.flatMap entCs
theorem flatEn_length (ts : List Ent) : (flatEn ts).length = ts.length * 13 := by
  induction ts with
  | nil => rfl
  | cons x xs ih => simp only [flatEn, List.flatMap_cons, List.length_append, List.length_cons, entCs_length] at ih ⊢; omega
theorem flatEn_append (xs ys : List Ent) : flatEn (xs ++ ys) = flatEn xs ++ flatEn ys := by simp [flatEn]
theorem flatEn_snoc (xs : List Ent) (t : Ent) : flatEn (xs ++ [t]) = flatEn xs ++ entCs t := by simp [flatEn]
theorem flatEn_one (ts : List Ent) : ∀ u ∈ flatEn ts, u.oneCell' = true := by
  intro u hu
  obtain ⟨x, _, hx⟩ := List.mem_flatMap.1 hu
  exact enA_one _ _ _ _ u hx
theorem flatEn_at (ts : List Ent) (i j : Nat) (t : Ent) (h : ts[i]? = some t) (hj : j < 13) : (flatEn ts)[i * 13 + j]? = (entCs t)[j]? := by
  induction ts generalizing i with
  | nil => simp at h
  | cons y ys ih =>
    cases i with
    | zero =>
      simp only [List.getElem?_cons_zero, Option.some.injEq] at h
      subst h
      simp only [flatEn, List.flatMap_cons]
      rw [List.getElem?_append_left (by rw [entCs_length]; omega)]
      simp
    | succ i =>
      have := ih i (by simpa using h)
      simp only [flatEn, List.flatMap_cons] at this ⊢
      rw [List.getElem?_append_right (by rw [entCs_length]; omega), entCs_length, show (i + 1) * 13 + j - 13 = i * 13 + j by omega]
      exact this
/-- the entries' services are there, off some blocks -/
def EntOk (S : List Nat) (w : World) (ts : List Ent) : Prop := ∀ t ∈ ts, Svs w t.e.sv t.A t.cap ∧ Off S t.A (strs t.e.sv)
theorem EntOk.kept {S S' : List Nat} {w w' : World} {ts : List Ent} (h : EntOk S w ts) (k : Kept S' w w') (hS : ∀ s ∈ S', s ∈ S ∨ w.heap.size ≤ s) : EntOk S w' ts := fun t ht => by
  obtain ⟨h1, h2⟩ := h t ht
  refine ⟨⟨h1.few, h1.le, h1.cap, ?_⟩, h2⟩
  rcases h1.lies with h3 | ⟨ad, e1, hb, hc⟩
  · exact .inl h3
  · rcases h2 with h2 | h2
    · exact .inl h2
    · have hn : ad.block ∉ S' := fun hm => by
        rcases hS _ hm with h | h
        · exact h2 ad e1 h
        · omega
      exact .inr ⟨ad, e1, Nat.lt_of_lt_of_le hb k.size, fun j u hu => (World.cell?_of_block (by rw [addr_block]; exact k.block _ hb hn)).trans (hc j u hu)⟩
theorem EntOk.below {S : List Nat} {w w' : World} {ts : List Ent} (h : EntOk S w ts) (k : Below w.heap.size w w') : EntOk S w' ts := h.kept (Kept.of k []) (by simp)
theorem EntOk.more {S S' : List Nat} {w : World} {ts : List Ent} (h : EntOk S w ts) (hS : ∀ s ∈ S', s ∈ S ∨ w.heap.size ≤ s) : EntOk S' w ts := fun t ht => by
  obtain ⟨h1, h2⟩ := h t ht
  refine ⟨h1, ?_⟩
  rcases h2 with h2 | h2
  · exact .inl h2
  · rcases h1.lies with h4 | ⟨ad, e1, hb, hc⟩
    · exact .inl h4
    · refine .inr fun ad' e2 hm => ?_
      rw [e1] at e2; injection e2 with e2; subst e2
      rcases hS _ hm with h5 | h5
      · exact h2 ad e1 h5
      · omega

theorem grown_kept {w w' : World} {row : Option Nat} (hg : w.grownBy w' row) : Kept row.toList w w' := ⟨hg.os, hg.tape, hg.output, hg.size, fun k hk hn => hg.block k hk (fun e => hn (by rw [← e]; simp))⟩
theorem at_ptr {w : World} {A : Option Addr} {p : Int → Nat} {l : List E} (h : Lies w A (ptrs p l)) (k : Nat) (hk : k < l.length) :
    ∃ ad, A = some ad ∧ ad.block < w.heap.size ∧ ∀ u, Below w.heap.size w u → u.cell? (ad.add k) = some (.pointer (some ⟨p l[k].id, 0, none⟩)) := by
  obtain ⟨ad, rfl, hadb, hc⟩ := h.at_ (k := k) (by rw [ptrs_length]; exact hk)
  refine ⟨ad, rfl, hadb, fun u hu => (hu.cell (by rw [addr_block]; exact hadb)).trans ?_⟩
  rw [hc]; simp [ptrs]

section
variable {R : List Nat} {w : World} {x b : Nat} {p : Int → Nat} {m : List E}
theorem nums_append14 (a b : List Int) : nums (a ++ b) = nums a ++ nums b := by simp [nums]

end
end Go.Proofs.Ytcoedohfggeaiaa
