/-
  Layer 14: what EntryMap and EntryPlays share: what a call does to the index as a list, and what is there then. Nothing is assumed.
-/
import Derived.Test.YtepfbpljkhchbaaLwE

namespace Go.Proofs.Ytepfbpljkhchbaa
open Go.RowKit Go.Maps En
set_option maxRecDepth 100000

/-- what a call does -/
def step14 (o : Opq) (m : List E) : List E := if o.what = 3 then En.del m o.id else if o.what = 4 then En.upd m o.id (pinU o.is) else if o.what = 5 then En.upd m o.id (classU o.cl) else if o.what = 6 then En.upd m o.id (moveU o.sq o.pl o.sz) else En.put m o.t.e
def run14 (l : List Opq) : List E := l.foldl (fun m o => step14 o m) []
theorem step14_ok {m : List E} (h : Ok m) (o : Opq) : Ok (step14 o m) := by
  unfold step14
  split
  · exact h.del _
  · split
    · exact h.upd _ _ (fun _ => rfl) (fun _ => rfl)
    · split
      · exact h.upd _ _ (fun _ => rfl) (fun _ => rfl)
      · split
        · exact h.upd _ _ (fun _ => rfl) (fun _ => rfl)
        · exact h.put _
theorem step14_len {m : List E} (h : Ok m) (o : Opq) : (step14 o m).length ≤ m.length + 1 := by
  unfold step14
  split
  · exact Nat.le_trans (List.length_filter_le ..) (Nat.le_succ _)
  · split
    · simp [En.upd]
    · split
      · simp [En.upd]
      · split
        · simp [En.upd]
        · exact put_len_le m h.uq o.t.e
theorem run14_take (l : List Opq) (k : Nat) (hk : k < l.length) : run14 (l.take (k + 1)) = step14 l[k] (run14 (l.take k)) := by
  unfold run14
  rw [List.take_succ_eq_append_getElem hk, List.foldl_append]
  rfl
theorem run14_both (l : List Opq) : ∀ m, Ok m → Ok (l.foldl (fun m o => step14 o m) m) ∧ (l.foldl (fun m o => step14 o m) m).length ≤ m.length + l.length := by
  induction l with
  | nil => exact fun m h => ⟨h, Nat.le_refl _⟩
  | cons o r ih =>
    intro m h
    have h1 := ih _ (step14_ok h o)
    have h2 := step14_len h o
    exact ⟨h1.1, by rw [List.foldl_cons, List.length_cons]; omega⟩
theorem run14_ok (l : List Opq) : Ok (run14 l) := (run14_both l [] Ok.nil).1
theorem run14_len (l : List Opq) : (run14 l).length ≤ l.length := by have := (run14_both l [] Ok.nil).2; simpa [run14] using this

theorem got14_few {R : List Nat} {w : World} {x b : Nat} {p : Int → Nat} {m : List E} (h : IsIdx R w x b p m) (i : Int) : (got14 m i).sv.length ≤ 9000 := by
  unfold got14
  cases hg : En.get m i with
  | none => simp [E.zero]
  | some y =>
    obtain ⟨h1, -⟩ := get_some hg
    obtain ⟨_, _, _, hs, _⟩ := h.ent y h1
    exact hs.few
/-! what is there then -/
theorem got_del {m : List E} (h : Uq m) (i j : Int) : got14 (En.del m i) j = if i = j then E.zero else got14 m j := by
  unfold got14; rw [get_del h]; split <;> rfl
theorem is_del {m : List E} (h : Uq m) (i j : Int) : (En.get (En.del m i) j).isSome = if i = j then false else (En.get m j).isSome := by
  rw [get_del h]; split <;> rfl
theorem got_put {m : List E} (h : Ok m) (e : E) (j : Int) : got14 (En.put m e) j = if e.id = j then e else got14 m j := by
  unfold got14; rw [get_put h]; split <;> rfl
theorem is_put {m : List E} (h : Ok m) (e : E) (j : Int) : (En.get (En.put m e) j).isSome = if e.id = j then true else (En.get m j).isSome := by
  rw [get_put h]; split <;> rfl
theorem got_upd (m : List E) (i j : Int) (f : E → E) (hf : ∀ x, (f x).id = x.id) : got14 (En.upd m i f) j = if i = j ∧ (En.get m j).isSome = true then f (got14 m j) else got14 m j := by
  unfold got14
  rw [get_upd m i j f hf]
  by_cases h : i = j
  · rw [if_pos h]
    cases hg : En.get m j with
    | none => simp
    | some y => simp [h]
  · rw [if_neg h, if_neg (fun h2 => h h2.1)]
end Go.Proofs.Ytepfbpljkhchbaa
