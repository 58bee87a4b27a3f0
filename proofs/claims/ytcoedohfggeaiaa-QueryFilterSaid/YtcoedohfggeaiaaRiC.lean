/-
  Layer 14, the document's answer: set, Pin, Class, Move of its index: what they answer, of any index. Nothing is assumed but that it lies in memory. (Made by gen14/ric.py.)
-/
import Derived.Test.YtcoedohfggeaiaaRiB
import Derived.Test.YtcoedohfggeaiaaSec

namespace Go.Proofs.Ytcoedohfggeaiaa
open Go.RowKit Go.Maps En
set_option maxRecDepth 100000

theorem lies_range {w : World} {g : Nat} {xs : List Value} (hx : xs ≠ []) : Lies w (some ⟨g, 0, none⟩) xs ↔ g < w.heap.size ∧ w.rangeAt g 0 xs := by
  constructor
  · rintro (h | ⟨ad, e, hb, hc⟩)
    · exact absurd h hx
    · injection e with e; subst e
      exact ⟨hb, fun j v hv => by have := hc j v hv; rwa [Addr.add_mid] at this⟩
  · rintro ⟨h1, h2⟩
    exact .inr ⟨_, rfl, h1, fun j v hv => by rw [Addr.add_mid]; exact h2 j v hv⟩
theorem range_app {w : World} {g o : Nat} {xs ys : List Value} (h1 : w.rangeAt g o xs) (h2 : w.rangeAt g (o + xs.length) ys) : w.rangeAt g o (xs ++ ys) := fun j v hv => by
  rcases Nat.lt_or_ge j xs.length with h | h
  · exact h1 j v (by rwa [List.getElem?_append_left h] at hv)
  · rw [List.getElem?_append_right h] at hv
    have := h2 _ v hv
    rwa [show o + xs.length + (j - xs.length) = o + j by omega] at this
theorem range_left {w : World} {g o : Nat} {xs ys : List Value} (h : w.rangeAt g o (xs ++ ys)) : w.rangeAt g o xs := fun j v hv => h j v (by
  rw [List.getElem?_append_left (List.getElem?_eq_some_iff.1 hv).1]; exact hv)
theorem range_right {w : World} {g o : Nat} {xs ys : List Value} (h : w.rangeAt g o (xs ++ ys)) : w.rangeAt g (o + xs.length) ys := fun j v hv => by
  have := h (xs.length + j) v (by rw [List.getElem?_append_right (by omega)]; simpa using hv)
  rwa [← Nat.add_assoc] at this
theorem flat_set (ts : List Ent) (k : Nat) (hk : k < ts.length) (t : Ent) : flatEn (ts.set k t) = flatEn (ts.take k) ++ (entCs t ++ flatEn (ts.drop (k + 1))) := by
  rw [List.set_eq_take_append_cons_drop, if_pos hk, flatEn_append]
  simp [flatEn]
/-- one entry of a row is written over -/
theorem lies_set {w : World} {g : Nat} {ts : List Ent} {k : Nat} (hk : k < ts.length) (t : Ent) (hl : Lies w (some ⟨g, 0, none⟩) (flatEn ts)) (hf : ∀ j, w.frozen? ⟨g, j, none⟩ = false) :
    w.there g (k * 13) 13 ∧ Lies (w.setCells g (k * 13) (entCs t)) (some ⟨g, 0, none⟩) (flatEn (ts.set k t)) := by
  have hne : ∀ us : List Ent, k < us.length → flatEn us ≠ [] := fun us hu e => by
    have := flatEn_length us
    rw [e] at this; simp at this; omega
  obtain ⟨hg, hr⟩ := (lies_range (hne ts hk)).1 hl
  have hself : ts = ts.set k ts[k] := by simp
  rw [hself, flat_set ts k hk] at hr
  have hlen : (flatEn (ts.take k)).length = k * 13 := by rw [flatEn_length, List.length_take, Nat.min_eq_left (by omega)]
  have h1 := range_left hr
  have h2 := range_right hr
  rw [hlen, Nat.zero_add] at h2
  have h3 := range_left h2
  have h4 := range_right h2
  rw [entCs_length] at h4
  have hth : w.there g (k * 13) 13 := fun j hj => ⟨by
    have := h3 j ((entCs ts[k])[j]'(by rw [entCs_length]; exact hj)) (List.getElem?_eq_getElem _)
    rw [this]; rfl, hf _⟩
  refine ⟨hth, (lies_range (hne _ (by simpa using hk))).2 ⟨by rw [setCells_size]; exact hg, ?_⟩⟩
  rw [flat_set ts k hk]
  refine range_app (World.rangeAt_setCells_apart h1 g _ _ (.inr (.inl (by rw [hlen]; omega)))) ?_
  rw [hlen, Nat.zero_add]
  refine range_app (World.rangeAt_setCells_same w g _ _ (by rw [entCs_length]; exact hth)) ?_
  rw [entCs_length]
  exact World.rangeAt_setCells_apart h4 g _ _ (.inr (.inr (by rw [entCs_length]; omega)))

section
variable {S : List Nat} {w : World} {r : Nat} {m : List E}
end
end Go.Proofs.Ytcoedohfggeaiaa
