/-
  Layer 12: equalities, and worlds that drew, as the laws' last statements want them. Nothing is assumed.
-/
import Derived.Test.YtchfiekepjndeaaHd12

namespace Go.Proofs.Ytchfiekepjndeaa
open Go.RowKit
set_option maxRecDepth 100000

theorem undrew {a b : World} (h : Below a.drew.heap.size a.drew b) : Below a.heap.size a b := ⟨h.os, h.tape, h.output, h.size, h.block⟩
theorem eqs12 (W : World) (s : ByteArray) : (binOp .eql 9 (.string s) (.string s)).run Try.prog W = .ok (.bool true) W := by
  go_simp
theorem eqi12 (W : World) (n : Int) : (binOp .eql 3 (.int .i64 n) (.int .i64 n)).run Try.prog W = .ok (.bool true) W := by
  go_simp
theorem str_append (a b : List UInt8) : str a ++ str b = str (a ++ b) := by
  unfold str
  rw [ByteArray.mk_append_mk]
theorem add_str (W : World) (a b : List UInt8) (h : a.length + b.length ≤ 1000000000) : (binOp .add 9 (.string (str a)) (.string (str b))).run Try.prog W = .ok (.string (str (a ++ b))) W := by
  have h1 := str_size a
  have h2 := str_size b
  rw [← str_append]
  go_simp
  omega
theorem slice_str (W : World) (bs : List UInt8) (T : Nat) (h : T ≤ bs.length) : (Instr.sliceAt 9 (.string (str bs)) none (some (.int .i64 (T : Int))) none).run Try.prog W = .ok (.string (str (bs.take T))) W := by
  have h1 := str_size bs
  have e : (str bs).extract 0 T = str (bs.take T) := by
    unfold str
    rw [ByteArray.extract_mk]
    simp
  rw [← e]
  go_simp
end Go.Proofs.Ytchfiekepjndeaa
