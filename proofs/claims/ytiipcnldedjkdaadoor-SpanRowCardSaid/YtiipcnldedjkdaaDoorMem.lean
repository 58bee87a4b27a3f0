/-
  Memory once more, over this seat's program: bytes that a call makes, as laws use them. Nothing is assumed.
-/
import Derived.Test.YtiipcnldedjkdaaDoorChecked
import Derived.Test.YtiipcnldedjkdaaDoorWords
import Derived.WalkKit
import Derived.Handy
import Derived.Lib.Hide
import Derived.Maps.AppendAt
import Derived.Laws.CopyOwn
import Derived.Lib.AppendStr
namespace Go.Proofs.YtiipcnldedjkdaaDoor
open Go.RowKit

theorem ret_int {k : IntKind} {a b : Int} (h : a = b) : Ending.returned (.int k a) = .returned (.int k b) := by rw [h]
theorem infoU8 : (Tryd.prog.info? 5).map (fun i => (i.zero, i.size, i.bytes)) = some (some (.int .u8 0), 1, 1) := by kernel_rfl
theorem sizeU8 : (Tryd.prog.info? 5).map (·.size) = some 1 := by kernel_rfl

/-- what a call that makes bytes hands back: memory of its own, that holds just these; nothing that was there has turned -/
def Made (w : World) (bs : List UInt8) (e : Ending) (w' : World) : Prop := ∃ v, e = .returned v ∧ w'.ownsRow w.heap.size 5 1 v bs.length (cells bs) ∧ Below w.heap.size w w'

theorem below_many {B : Nat} {a w : World} (h : Below B a w) (n : Nat) : Below B a (w.drewN n) := ⟨h.os, h.tape, h.output, h.size, h.block⟩
theorem Lies.many {w : World} {A : Option Addr} {xs : List Value} (h : Lies w A xs) (n : Nat) : Lies (w.drewN n) A xs := h
theorem Lies.drew1 {w : World} {A : Option Addr} {xs : List Value} (h : Lies w A xs) : Lies w.drew A xs := h
/-- string(b[:j]) -/
theorem conv_take {w : World} {A : Option Addr} {bs : List UInt8} (h : Lies w A (cells bs)) (j cap : Nat) (hj : j ≤ bs.length) :
    (convert 24 9 (.slice A j cap)).run Tryd.prog w = .ok (.string (str (bs.take j))) w := by
  have h1 := h.take j
  rw [cells_take] at h1
  have hn : (bs.take j).length = j := by rw [List.length_take]; omega
  have := conv_str (P := Tryd.prog) (c := cap) h1 24 5 Tryd.underlying24 Tryd.underlying5 9 Tryd.underlying9
  rw [hn] at this
  exact this
theorem strCells_cells (s : List UInt8) : Lib.strCells (str s) = cells s := by
  unfold Lib.strCells cells str
  simp
end Go.Proofs.YtiipcnldedjkdaaDoor
