/-
  Layer 12: equalities, and worlds that drew, as the laws' last statements want them. Nothing is assumed.
-/
import Derived.Test.YtchfiekepjndeaaHd12

namespace Go.Proofs.Ytchfiekepjndeaa
open Go.RowKit
set_option maxRecDepth 100000

theorem undrew {a b : World} (h : Below a.drew.heap.size a.drew b) : Below a.heap.size a b := ⟨h.os, h.tape, h.output, h.size, h.block⟩
theorem eqs12 (W : World) (s : ByteArray) : (binOp .eql 9 (.string s) (.string s)).run Try.prog W = .ok (.bool true) W := by
  go_simp
theorem eqi12 (W : World) (n : Int) : (binOp .eql 3 (.int .i64 n) (.int .i64 n)).run Try.prog W = .ok (.bool true) W := by
  go_simp
end Go.Proofs.Ytchfiekepjndeaa
