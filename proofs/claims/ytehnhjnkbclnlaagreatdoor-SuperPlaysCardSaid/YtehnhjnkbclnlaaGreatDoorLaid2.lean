/-
  The table of layer 2: from what the given rows say of the variable to its sixteen cells; and that the program's own start meets it. Nothing is assumed.
-/
import Derived.Test.YtehnhjnkbclnlaaGreatDoorCrcC
import Derived.Test.YtehnhjnkbclnlaaGreatDoorBase
import Derived.Test.YtehnhjnkbclnlaaGreatDoorCards
import Derived.Test.YtehnhjnkbclnlaaGreatDoorTie
import Derived.SevenTiedAt
import Derived.LaidMore
import Derived.Stop.Joined
namespace Go.Proofs.YtehnhjnkbclnlaaGreatDoor
open Go.ChangeShapes Go.WideShapes Go.ChangeAt Go.WideMaps Go.WideElems Go.RowKit
set_option maxRecDepth 100000

def laidHere : List (String × DataW Unit) := [("turntable/crc.steps", Rows.laid_turntable_crc_steps)]
def laidKindsHere : List LaidKind := [.data]
def doorSteps : Nat := 14
theorem gSteps : Tryz.prog.globalNamed "turntable/crc.steps" = some 0 := by kernel_rfl
theorem tSteps : (Tryz.prog.globals[(0 : Nat)]?).map (·.type) = some 143 := by kernel_rfl
theorem door_met (os : Os) (args : Array Value) : laidMetH Tryz.prog laidHere ((World.doorLaid Tryz.prog doorSteps os).forCall (fun _ _ => 0) ⟨#[], args, []⟩).memory :=
  laidMetH_of_parts3 (fuel := 8) (laidMet_of_run' 8 (by kernel_rfl) (by kernel_rfl)) (by kernel_rfl) (by kernel_rfl)

theorem of_laid {W : World} (h : laidMetH Tryz.prog laidHere W) : Tab W := by
  rw [MakeChecks.laidMetH_plain _ _ _ (by kernel_rfl)] at h
  obtain ⟨ps, ⟨g0, t0, cs0, f0, p0, q0, hg0, ht0, hv0, hd0, _⟩, _⟩ := h
  obtain rfl := Option.some.inj (gSteps.symm.trans hg0)
  obtain rfl := Option.some.inj (tSteps.symm.trans ht0)
  obtain ⟨xs, m1, rfl, hx1, hlen, hn, hel⟩ := DataW.trod_array Tryz.underlying143 hd0
  have c1 : Tryz.prog.cellsOf 70 = 1 := by kernel_rfl
  have c16 : Tryz.prog.cellsOf 143 = 16 := by kernel_rfl
  simp only [Prod.mk.injEq] at hx1
  have hx2 := hx1.1
  rw [c16] at hlen
  have key : ∀ i, i < 16 → W.cell? ⟨0, i, none⟩ = some (.int .u32 (Crc.tab i : Int)) := by
    intro i hi
    have h0 := hel i hi
    rw [c1, Nat.mul_one] at h0
    have hi2 : i < xs.length := by omega
    rw [List.getElem?_eq_getElem hi2] at h0
    obtain ⟨k, e1, e2, _⟩ := DataW.trod_int Tryz.underlying70 h0
    have hk : k = (Crc.tab i : Int) := by
      have h3 : (xs.map (·.1))[i]? = some (.lit (.int .u32 (Crc.tab i : Int))) := by
        have h4 : Rows.laid_turntable_crc_steps = (.agg (xs.map (·.1)) : DataW Unit) := hx2
        unfold Rows.laid_turntable_crc_steps at h4
        injection h4 with h4
        rw [← h4]
        have : ∀ j : Fin 16, ([.lit (.int .u32 0), .lit (.int .u32 274646895), .lit (.int .u32 549293790), .lit (.int .u32 820201905), .lit (.int .u32 1098587580), .lit (.int .u32 1361435347), .lit (.int .u32 1640403810), .lit (.int .u32 1905808397), .lit (.int .u32 2197175160), .lit (.int .u32 2460548119), .lit (.int .u32 2722870694), .lit (.int .u32 2987750089), .lit (.int .u32 3280807620), .lit (.int .u32 3553878443), .lit (.int .u32 3811616794), .lit (.int .u32 4084100981)] : List (DataW Unit))[j.val]? = some (.lit (.int .u32 (Crc.tab j.val : Int))) := by
          intro j
          rcases j with ⟨j, hj⟩
          have : j = 0 ∨ j = 1 ∨ j = 2 ∨ j = 3 ∨ j = 4 ∨ j = 5 ∨ j = 6 ∨ j = 7 ∨ j = 8 ∨ j = 9 ∨ j = 10 ∨ j = 11 ∨ j = 12 ∨ j = 13 ∨ j = 14 ∨ j = 15 := by omega
          rcases this with rfl | rfl | rfl | rfl | rfl | rfl | rfl | rfl | rfl | rfl | rfl | rfl | rfl | rfl | rfl | rfl <;> rfl
        exact this ⟨i, hi⟩
      rw [List.getElem?_map, List.getElem?_eq_getElem hi2, e2] at h3
      simpa using h3
    rw [World.var?_cell hg0 hv0 i]
    have h5 : ((cs0.toList.drop i).take 1)[0]? = some (.int .u32 k) := by rw [e1]; rfl
    rw [List.getElem?_take, if_pos (by omega), List.getElem?_drop, Nat.add_zero] at h5
    rw [← hk]
    simpa using h5
  refine ⟨?_, key⟩
  have h0 := key 0 (by omega)
  rcases Nat.lt_or_ge 0 W.heap.size with h | h
  · exact h
  · unfold World.cell? at h0
    rw [Array.getElem?_eq_none h] at h0
    simp at h0
end Go.Proofs.YtehnhjnkbclnlaaGreatDoor
