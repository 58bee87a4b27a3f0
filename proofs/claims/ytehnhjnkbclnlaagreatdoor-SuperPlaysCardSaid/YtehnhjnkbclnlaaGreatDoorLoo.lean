/-
  Layer 7: dev.Loose: the keys of what was written, sorted by the library, which is met by the shelf's contracts. Nothing is assumed.
-/
import Derived.Test.YtehnhjnkbclnlaaGreatDoorDvs
import Derived.Test.YtehnhjnkbclnlaaGreatDoorLay7
import Derived.Shelf.SlIterI.Sorted
import Derived.Shelf.SortM.Plain
import Derived.Shelf.SortM.SortNone
import Derived.WalkKit
import Derived.OwnWalkIn
import Derived.TacticsInMore

namespace Go.Proofs.YtehnhjnkbclnlaaGreatDoor
open Go.RowKit Go.Maps Go.Sort Go.Shelf
set_option maxRecDepth 100000

theorem sortsI (m : Nat) : AnyZI.SortsIn Tryz.prog Tryz.sortedI_ren Fence.wide m :=
  ⟨fun blk off cap ss W hH hblk hsz => callsIn_wide.2 (AnyM.slices_Sort_int Tryz.sortI blk off cap ss W hH hblk hsz),
   fun p cap W => callsIn_wide.2 (AnyM.slices_Sort_int_none Tryz.sortI p cap W)⟩
/-- numbers as cells -/
def nums (l : List Nat) : List Value := l.map fun i : Nat => .int .i64 (i : Int)
theorem nums_length (l : List Nat) : (nums l).length = l.length := by simp [nums]
theorem nums_at (l : List Nat) (k : Nat) (h : k < l.length) : (nums l)[k]? = some (.int .i64 (l[k] : Int)) := by simp [nums, h]
theorem nums_one (l : List Nat) : ∀ u ∈ nums l, u.oneCell' = true := by
  intro u hu
  obtain ⟨s, _, rfl⟩ := List.mem_map.1 hu
  rfl
theorem loose_sorted (d : Plain.Dv) : ((d.loose.map fun i : Nat => (i : Int)).mergeSort leI) = d.loose.map fun i : Nat => (i : Int) := by
  refine List.mergeSort_of_pairwise ?_
  rw [List.pairwise_map]
  exact d.loose_rising.imp fun {a b} h => by simp only [leI, decide_eq_true_eq]; omega

/-- numbers that are handed out: memory of one's own -/
def GivesN (w : World) (l : List Nat) (e : Ending) (w' : World) : Prop := ∃ v, e = .returned v ∧ w'.ownsRow w.heap.size 3 1 v l.length (nums l) ∧ Below w.heap.size w w'

set_option maxHeartbeats 2000000 in
theorem loose_any (w : World) (g : Nat) (d : Plain.Dv) (h : IsDev w g d) :
    Calls Tryz.prog 22 #[.pointer (some ⟨g + 2, 0, none⟩)] w (GivesN w d.loose) := by
  have hown := h.map
  have hfew := h.ok.few
  have hsz := wD_size d.wr d.n
  have hkeys : intKeys (wD d.wr d.n) = d.loose.map fun i : Nat => (i : Int) := wD_keys d.wr d.n
  have c1 : w.cell? ⟨g + 2, 1, none⟩ = some (.map (some (g + 1))) := h.box.cell 1
  have HS := Lib.hid (loose_sorted d)
  have HK := Lib.hid hkeys
  clear hkeys
  generalize wD d.wr d.n = D0 at *
  refine (callsIn_wide (n := 6)).1 ?_
  have hbl := hown.lt
  have hseq : SeqGives Fence.wide 2 Tryz.prog 64 #[.pointer (some ⟨w.heap.size, 0, none⟩)] encZ (fun ss => ss.Perm (intKeys D0)) (Maps.size D0) (w.alloc (.cells #[.map (some (g + 1))] 58)) :=
    AnyZI.keys_gives (ρ := Tryz.keysI_ren) { Tryz.keysI with } Fence.wide _ trivial rfl (by omega) w.heap.size (g + 1) d.n D0 _ (by simp) (by simp) (by
      obtain ⟨es, clock, hb, Ft, hs, hD⟩ := hown
      exact ⟨es, clock, (Below.heap_alloc _ _ (g + 1) hbl).trans hb, Ft, hs, hD⟩)
  have cK : ∀ mb W, CallsIn Fence.wide 5 Tryz.prog 47 #[.map mb] W fun e w' => e = .returned (.func (.func 64) #[] #[.pointer (some ⟨W.heap.size, 0, none⟩)]) ∧ w' = W.alloc (.cells #[.map mb] 58) := fun mb W => AnyZI.keys_in Tryz.keysI Fence.wide 5 trivial rfl mb W
  have cS := AnyZI.sorted_in Tryz.sortedI Fence.wide 5 trivial trivial trivial trivial rfl (by omega) (sortsI _) (enters_of Tryz.func63 (by kernel_rfl) rfl) 64 #[.pointer (some ⟨w.heap.size, 0, none⟩)] trivial (enters_of Tryz.func64 (by kernel_rfl) rfl) _ _ (show Maps.size D0 ≤ maxLen by unfold maxLen; omega) (by omega) _ hseq
  change CallsIn _ _ Tryz.prog 46 _ _ _ at cS
  have hfK : Fence.wide.fn 47 := trivial
  have hfS : Fence.wide.fn 46 := trivial
  refine callsIn_of_wp Tryz.func22 rfl trivial ?_ rfl
  simp only [Tryz.ntmps22, List.size_toArray, List.length_cons, List.length_nil, Nat.reduceAdd, Nat.reduceSub, Array.replicate_succ, Array.replicate_zero, List.push_toArray, List.append_toArray, List.nil_append, List.cons_append]
  clear h hseq hsz
  gi_wp2_with (first
    | (gi_at_call 47; refine (cK _ _).mono ?_; rintro e w' ⟨rfl, rfl⟩)
    | (gi_at_call 46; refine cS.mono ?_; rintro e w' ⟨v, ss, rfl, hS, hrow, hnil, hb⟩))
  go_ret
  have e1 : ss.mergeSort leI = d.loose.map fun i : Nat => (i : Int) := by rw [mergeSort_of_perm_i hS, HK.out, HS.out]
  have e2 : ss.length = d.loose.length := by rw [hS.length_eq, HK.out, List.length_map]
  have e3 : (ss.mergeSort leI).map encZ = nums d.loose := by rw [e1, List.map_map]; rfl
  refine ⟨v, rfl, ?_, ((Below.refl _ w).alloc (Nat.le_refl _) _).trans (hb.mono (by simp))⟩
  have h3 := ownsRow_base_a (base' := w.heap.size) hrow (by simp)
  rw [e2] at h3
  exact (show nums d.loose = (ss.mergeSort fun x y => decide (x ≤ y)).map encZ from e3.symm) ▸ h3
end Go.Proofs.YtehnhjnkbclnlaaGreatDoor
