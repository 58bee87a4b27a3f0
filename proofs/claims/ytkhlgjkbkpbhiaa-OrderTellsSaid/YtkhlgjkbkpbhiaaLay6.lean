/-
  The library's sorting at this program: which of its functions the shelf's contract (slices.insertionSortCmpFunc) speak of; each fact is looked at by the kernel. Nothing is assumed.
-/
import Derived.Shelf.SlSortCmp.InsertionK
import Derived.Test.YtkhlgjkbkpbhiaaProg
namespace Go.Proofs
open Go.Shelf
def Try.insF_ren : Go.Shelf.Ren := ⟨fun | 20 => 34 | n => n, fun | 24 => 24 | 22 => 22 | 3 => 3 | 25 => 47 | 4 => 4 | 0 => 0 | n => n, fun | n => n⟩
theorem Try.insF : Go.Proofs.SlLaysF0.n20 Try.prog Try.insF_ren := {
  mixed := by kernel_rfl
  f20 := ⟨Try.f34.name, by decide, Try.func34.trans (congrArg some (by kernel_rfl))⟩
  t0 := Try.underlying0
  a0 := Try.isAgg0
  z0 := Try.sizeOf0
  v0 := Try.zeroValue0
  t3 := Try.underlying3
  a3 := Try.isAgg3
  z3 := Try.sizeOf3
  v3 := Try.zeroValue3
  t4 := Try.underlying4
  a4 := Try.isAgg4
  z4 := Try.sizeOf4
  v4 := Try.zeroValue4
  t22 := Try.underlying22
  a22 := Try.isAgg22
  z22 := Try.sizeOf22
  v22 := Try.zeroValue22
  t25 := Try.underlying47
  a25 := Try.isAgg47
  z25 := Try.sizeOf47
  v25 := Try.zeroValue47 }
end Go.Proofs
