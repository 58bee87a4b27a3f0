/-
  Layer 3: loads of spans and of their numbers, for statements whose order is open. Nothing is assumed.
-/
import Derived.Test.YtiipcnldedjkdaaDoorLaid3
import Derived.Test.YtiipcnldedjkdaaDoorSoftV
namespace Go.Proofs.YtiipcnldedjkdaaDoor
open Go.RowKit
set_option maxRecDepth 100000

theorem load_span {W : World} {g : Nat} {v0 v1 v2 v3 v4 v5 v6 : Value} (h : Blk W g #[v0, v1, v2, v3, v4, v5, v6] 23) :
    (Instr.loadAt 23 (.pointer (some ⟨g, 0, none⟩))).run Tryd.prog W = .ok (.agg #[v0, v1, v2, v3, v4, v5, v6]) W := by
  obtain ⟨c0, c1, c2, c3, c4, c5, c6⟩ := h.seven
  go_simp
theorem load_num {W : World} {g j : Nat} {x : Int} (h : W.cell? ⟨g, j, none⟩ = some (.int .i64 x)) :
    (Instr.loadAt 2 (.pointer (some ⟨g, j, none⟩))).run Tryd.prog W = .ok (.int .i64 x) W := by
  go_simp
theorem geq_i64 (W : World) (a b : Int) (h : b ≤ a) : (binOp .geq 2 (.int .i64 a) (.int .i64 b)).run Tryd.prog W = .ok (.bool true) W := by
  go_simp
theorem leq_i64 (W : World) (a b : Int) (h : a ≤ b) : (binOp .leq 2 (.int .i64 a) (.int .i64 b)).run Tryd.prog W = .ok (.bool true) W := by
  go_simp
theorem eql_i64 (W : World) (a : Int) : (binOp .eql 2 (.int .i64 a) (.int .i64 a)).run Tryd.prog W = .ok (.bool true) W := by
  go_simp
theorem sub_i64 (W : World) (a b : Int) (h : 0 ≤ a - b ∧ a - b ≤ 281474976710656) : (binOp .sub 2 (.int .i64 a) (.int .i64 b)).run Tryd.prog W = .ok (.int .i64 (a - b)) W := by
  go_simp
  rw [IntKind.wrap_i64]; omega
end Go.Proofs.YtiipcnldedjkdaaDoor
