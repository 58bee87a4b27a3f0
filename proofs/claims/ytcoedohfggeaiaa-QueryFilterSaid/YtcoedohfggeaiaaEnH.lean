/-
  Layer 14: entry.sorted: the entries that fit, sorted, as pointers: what it answers, of any index, whatever order the map is told in. Assumed: that the index lies in memory; the sorting (its contract is taken in).
-/
import Derived.Test.YtcoedohfggeaiaaEnG

namespace Go.Proofs.Ytcoedohfggeaiaa
open Go.RowKit Go.Maps En
set_option maxRecDepth 100000

def ptrs (p : Int → Nat) (l : List E) : List Value := l.map fun e => .pointer (some ⟨p e.id, 0, none⟩)
theorem ptrs_length (p : Int → Nat) (l : List E) : (ptrs p l).length = l.length := by simp [ptrs]
theorem ptrs_snoc (p : Int → Nat) (l : List E) (e : E) : ptrs p (l ++ [e]) = ptrs p l ++ [.pointer (some ⟨p e.id, 0, none⟩)] := by simp [ptrs]
theorem ptrs_one (p : Int → Nat) (l : List E) : ∀ u ∈ ptrs p l, u.oneCell' = true := by
  intro u hu
  obtain ⟨s, _, rfl⟩ := List.mem_map.1 hu
  rfl
theorem Uq.nodup {m : List E} (h : Uq m) : m.Nodup := (List.pairwise_map.1 h).imp fun h e => h (by rw [e])
/-- those that have come -/
def come (left : Lit → Bool) (m : List E) : List E := m.filter fun e => !left (.int .i64 e.id)
theorem come_step {m : List E} (hu : Uq m) {left : Lit → Bool} {e0 : E} (h0 : e0 ∈ m) (hl : left (.int .i64 e0.id) = true) : (come (fun z => left z && !z.sameKey (.int .i64 e0.id)) m).Perm (come left m ++ [e0]) := by
  unfold come
  have hn := Uq.nodup hu
  rw [List.perm_ext_iff_of_nodup (hn.sublist List.filter_sublist)]
  · intro e
    rw [List.mem_append, List.mem_filter, List.mem_filter, List.mem_singleton]
    by_cases he : e.id = e0.id
    · have hk : (Lit.int .i64 e.id).sameKey (.int .i64 e0.id) = true := by rw [he]; exact WideAt.sameKey_self trivial
      simp only [hk, Bool.not_true, Bool.and_false, Bool.not_false, and_true]
      constructor
      · exact fun h => .inr (hu.inj h h0 he)
      · rintro (⟨h, -⟩ | rfl)
        · exact h
        · exact h0
    · have hk : (Lit.int .i64 e.id).sameKey (.int .i64 e0.id) = false := sameKey_ne (by intro h; injection h with _ h; exact he h)
      simp only [hk, Bool.not_false, Bool.and_true]
      constructor
      · exact fun h => .inl h
      · rintro (h | rfl)
        · exact h
        · exact absurd rfl he
  · rw [List.nodup_append]
    refine ⟨hn.sublist List.filter_sublist, by simp, fun a ha b hb e => ?_⟩
    rw [List.mem_singleton.1 hb] at e
    subst e
    rw [List.mem_filter, hl] at ha
    simp at ha
theorem come_start {m : List E} {left : Lit → Bool} (h : ∀ e ∈ m, left (.int .i64 e.id) = true) : come left m = [] := by
  unfold come
  rw [List.filter_eq_nil_iff]
  intro e he
  rw [h e he]; simp
theorem come_end {m : List E} {left : Lit → Bool} (h : ∀ k, left k = false) : come left m = m := by
  unfold come
  rw [List.filter_eq_self]
  intro e he
  rw [h]; rfl

/-- pointers to entries that were handed back, in new memory -/
def GivesP (w w' : World) (p : Int → Nat) (l : List E) (v : Value) : Prop := ∃ A cap, v = .slice A l.length cap ∧ l.length ≤ cap ∧ Lies w' A (ptrs p l) ∧ Below w.heap.size w w'

section
variable {R : List Nat} {w : World} {x b : Nat} {p : Int → Nat} {m : List E}
end
end Go.Proofs.Ytcoedohfggeaiaa
