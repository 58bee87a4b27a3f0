/-
  Layer 14: how the developers' index lies in memory: a map from Ids to entries in blocks of their own; and what looking up, putting, deleting and counting come to. Nothing is assumed.
-/
import Derived.Test.YtcoedohfggeaiaaEnB

namespace Go.Proofs.Ytcoedohfggeaiaa
open Go.RowKit Go.Maps En
set_option maxRecDepth 100000

def I64 (x : Int) : Prop := -9223372036854775808 ≤ x ∧ x ≤ 9223372036854775807

open Classical in
/-- how an element of the map reads -/
noncomputable def ptrElem (v : Value) : Option (DataW Nat × List MemPlace) := if v = .pointer none then some (.nil, []) else if h : ∃ b, v = .pointer (some ⟨b, 0, none⟩) then some (.held h.choose, []) else none
theorem ptrElem_nil : ptrElem (.pointer none) = some (.nil, []) := by unfold ptrElem; rw [if_pos rfl]
theorem ptrElem_mk (b : Nat) : ptrElem (.pointer (some ⟨b, 0, none⟩)) = some (.held b, []) := by
  have hx : ∃ b', Value.pointer (some ⟨b, 0, none⟩) = .pointer (some ⟨b', 0, none⟩) := ⟨b, rfl⟩
  unfold ptrElem
  rw [if_neg (by simp), dif_pos hx]
  have hs := hx.choose_spec
  generalize hx.choose = c at *
  simp only [Value.pointer.injEq, Option.some.injEq, Addr.mk.injEq, and_true] at hs
  rw [hs]
theorem ptrElem_held {v : Value} {b : Nat} {ps : List MemPlace} (h : ptrElem v = some (.held b, ps)) : v = .pointer (some ⟨b, 0, none⟩) ∧ ps = [] := by
  unfold ptrElem at h
  split at h
  · cases h
  · split at h
    · rename_i hx
      injection h with h
      injection h with h1 h2
      injection h1 with h1
      rw [← h1]
      exact ⟨hx.choose_spec, h2.symm⟩
    · cases h
theorem ptrElem_none {v : Value} {ps : List MemPlace} (h : ptrElem v = some (.nil, ps)) : v = .pointer none := by
  unfold ptrElem at h
  split at h
  · assumption
  · split at h <;> cases h
theorem ptrElem_inv {v : Value} {z : DataW Nat × List MemPlace} (h : ptrElem v = some z) : ∃ c : Option Addr, v = .pointer c := by
  unfold ptrElem at h
  split at h
  · rename_i h1; exact ⟨_, h1⟩
  · split at h
    · rename_i hx; exact ⟨_, hx.choose_spec⟩
    · cases h

theorem keyedL : Keyed Try.prog 2 := int_keyed Try.underlying2
theorem keyL (i : Int) (h : I64 i) : keyOf Try.prog 2 (.int .i64 i) = some (.int .i64 i) := keyOf_int_mk Try.underlying2 (WalkArith.wf_i64 h)
/-- what the map holds -/
structure Held (D : DataW Nat) (p : Int → Nat) (m : List E) : Prop where
  has : ∀ k, Maps.has D k = true ↔ ∃ e ∈ m, k = .int .i64 e.id
  at_ : ∀ e ∈ m, ∀ z, D.atKey (.int .i64 e.id) z = .held (p e.id)
  size : Maps.size D = m.length
theorem Held.get {D : DataW Nat} {p : Int → Nat} {m : List E} (h : Held D p m) (i : Int) : Maps.has D (.int .i64 i) = (En.get m i).isSome := by
  rw [Bool.eq_iff_iff, h.has]
  cases hg : En.get m i with
  | none =>
    rw [get_none] at hg
    simp only [Option.isSome_none, Bool.false_eq_true, iff_false]
    rintro ⟨e, he, hk⟩
    injection hk with _ hk
    exact hg e he hk.symm
  | some e =>
    obtain ⟨h1, h2⟩ := get_some hg
    simp only [Option.isSome_some, iff_true]
    exact ⟨e, h1, by rw [h2]⟩
theorem Held.nil (p : Int → Nat) : Held (.map []) p [] := ⟨fun k => by simp [has_eq], by simp, rfl⟩
theorem Held.put {D : DataW Nat} {p : Int → Nat} {m : List E} (h : Held D p m) (hu : Uq m) (ht : Tidy D) (e : E) (g : Nat) : Held (D.put (.int .i64 e.id) (.held g)) (fun i => if i = e.id then g else p i) (En.put m e) := by
  have hm : IsMap D := ht.isMap
  have hk : WideAt.IsKeyLit (.int .i64 e.id) := trivial
  refine ⟨fun k => ?_, fun x hx z => ?_, ?_⟩
  · by_cases e1 : k = .int .i64 e.id
    · subst e1
      rw [has_put_same hm hk]
      simp only [true_iff]
      exact ⟨e, mem_put.2 (.inl rfl), rfl⟩
    · rw [has_put_other e1, h.has]
      constructor
      · rintro ⟨x, hx, rfl⟩
        exact ⟨x, mem_put.2 (.inr ⟨hx, fun e2 => e1 (by rw [e2])⟩), rfl⟩
      · rintro ⟨x, hx, rfl⟩
        rcases mem_put.1 hx with rfl | hx
        · exact absurd rfl e1
        · exact ⟨x, hx.1, rfl⟩
  · rcases mem_put.1 hx with rfl | hx
    · rw [atKey_put_same hm hk, if_pos rfl]
    · rw [atKey_put_other (fun e2 => hx.2 (by injection e2)), if_neg hx.2]
      exact h.at_ x hx.1 z
  · have := len_put hu e
    rw [size_put ht, h.get, h.size]
    split <;> simp_all
theorem Held.del {D : DataW Nat} {p : Int → Nat} {m : List E} (h : Held D p m) (hu : Uq m) (ht : Tidy D) (i : Int) : Held (D.del (.int .i64 i)) p (En.del m i) := by
  refine ⟨fun k => ?_, fun x hx z => ?_, ?_⟩
  · by_cases e1 : k = .int .i64 i
    · subst e1
      rw [has_del_same]
      simp only [Bool.false_eq_true, false_iff]
      rintro ⟨x, hx, e2⟩
      injection e2 with _ e2
      exact (mem_del.1 hx).2 e2.symm
    · rw [has_del_other e1, h.has]
      constructor
      · rintro ⟨x, hx, rfl⟩
        exact ⟨x, mem_del.2 ⟨hx, fun e2 => e1 (by rw [e2])⟩, rfl⟩
      · rintro ⟨x, hx, rfl⟩
        exact ⟨x, (mem_del.1 hx).1, rfl⟩
  · have hx := mem_del.1 hx
    rw [atKey_del_other (fun e2 => hx.2 (by injection e2))]
    exact h.at_ x hx.1 z
  · have := len_del hu i
    have h2 := size_del (k := .int .i64 i) ht
    rw [h.get, h.size] at h2
    omega
theorem Held.upd {D : DataW Nat} {p : Int → Nat} {m : List E} (h : Held D p m) (i : Int) (f : E → E) (hf : ∀ x, (f x).id = x.id) : Held D p (En.upd m i f) := by
  have key : ∀ j, (∃ e ∈ m, e.id = j) ↔ ∃ e ∈ En.upd m i f, e.id = j := fun j => by
    have := upd_ids m i f hf
    constructor
    · rintro ⟨e, he, rfl⟩
      have : e.id ∈ (En.upd m i f).map E.id := by rw [this]; exact List.mem_map.2 ⟨e, he, rfl⟩
      obtain ⟨e', h1, h2⟩ := List.mem_map.1 this
      exact ⟨e', h1, h2⟩
    · rintro ⟨e, he, rfl⟩
      have : e.id ∈ m.map E.id := by rw [← this]; exact List.mem_map.2 ⟨e, he, rfl⟩
      obtain ⟨e', h1, h2⟩ := List.mem_map.1 this
      exact ⟨e', h1, h2⟩
  refine ⟨fun k => ?_, fun x hx z => ?_, by rw [h.size]; simp [En.upd]⟩
  · rw [h.has]
    constructor
    · rintro ⟨x, hx, rfl⟩
      obtain ⟨y, hy, e⟩ := (key x.id).1 ⟨x, hx, rfl⟩
      exact ⟨y, hy, by rw [e]⟩
    · rintro ⟨x, hx, rfl⟩
      obtain ⟨y, hy, e⟩ := (key x.id).2 ⟨x, hx, rfl⟩
      exact ⟨y, hy, by rw [e]⟩
  · obtain ⟨y, hy, e⟩ := (key x.id).2 ⟨x, hx, rfl⟩
    rw [← e]
    exact h.at_ y hy z

/-- the blocks that an index writes into -/
def mine (x b : Nat) (p : Int → Nat) (m : List E) : List Nat := x :: b :: m.map fun e => p e.id
theorem mem_mine {x b : Nat} {p : Int → Nat} {m : List E} {k : Nat} : k ∈ mine x b p m ↔ k = x ∨ k = b ∨ ∃ e ∈ m, p e.id = k := by simp [mine]

section
variable {R : List Nat} {w : World} {x b : Nat} {p : Int → Nat} {m : List E}
end
end Go.Proofs.Ytcoedohfggeaiaa
