/-
  Layer 13: what the laws' last statements want, in open orders. Nothing is assumed.
-/
import Derived.Test.YtdfeccmcefcpbaaDoorL13T

namespace Go.Proofs.YtdfeccmcefcpbaaDoor
open Go.RowKit
set_option maxRecDepth 100000

theorem soft13_index {P : Program} {w : World} {ρ : Operand → Value} {o : Oper} {x y : Operand} {t : TypeId} {vx vy u : Value} (hx : ρ x = vx) (hy : ρ y = vy) (hr : (Instr.indexAt t vx vy).run P w = .ok u w) (ho : o.op = .indexAddr t x y) : softUpon P w (Fact.is u) ((execOp ρ o).run P w) := by
  have e : (execOp ρ o).run P w = .ok (.value u) w := by simp [execOp, ho, hx, hy, hr]
  rw [e]
  exact ⟨rfl, Below.refl _ _⟩
theorem soft13_buildZ {w : World} {ρ : Operand → Value} {o : Oper} (ho : o.op = .build 24 #[]) : softUpon Tryd.prog w (Fact.is (.agg #[.int .i64 0, .int .i64 0, .int .i64 0, .int .i64 0, .bool false, .slice none 0 0])) ((execOp ρ o).run Tryd.prog w) := by
  have e : (execOp ρ o).run Tryd.prog w = .ok (.value (.agg #[.int .i64 0, .int .i64 0, .int .i64 0, .int .i64 0, .bool false, .slice none 0 0])) w := by
    simp [execOp, ho]
    go_simp
  rw [e]
  exact ⟨rfl, Below.refl _ _⟩
theorem eqe13 (W : World) (a : Int) : (binOp .eql 28 (.int .i64 a) (.int .i64 a)).run Tryd.prog W = .ok (.bool true) W := by
  go_simp
theorem eqe13_D (W : World) (a : Int) (R : Bool) (h : (a == 0) = R) : (binOp .eql 28 (.int .i64 a) (.int .i64 0)).run Tryd.prog W = .ok (.bool R) W := by
  rw [← h]
  go_simp
theorem nee13_D (W : World) (a : Int) (R : Bool) (h : (a != 0) = R) : (binOp .neq 28 (.int .i64 a) (.int .i64 0)).run Tryd.prog W = .ok (.bool R) W := by
  rw [← h]
  go_simp
theorem first13 {w : World} {ad : Addr} {x : List UInt8} (h : Lies w (some ad) (cells x)) (hx : 1 ≤ x.length) (u : World) (hu : Below w.heap.size w u) : (Instr.loadAt 5 (.pointer (some ad))).run Tryd.prog u = .ok (.int .u8 ((x.getD 0 0).toNat : Nat)) u := by
  obtain ⟨ad', e, -, h3⟩ := (h.below hu).at_ (k := 0) (by rw [cells_length]; omega)
  injection e with e; subst e
  have h4 : u.cell? ad = some (.int .u8 ((x.getD 0 0).toNat : Nat)) := by
    rw [show ad = ad.add 0 from rfl, h3]
    simp [cells, List.getD_eq_getElem?_getD, List.getElem?_eq_getElem (show 0 < x.length by omega)]
  clear h3 h
  go_simp
theorem conv13_i (W : World) (k : Nat) (h : k < 256) : (convert 5 3 (.int .u8 (k : Int))).run Tryd.prog W = .ok (.int .i64 (k : Int)) W := by
  go_simp
  rw [IntKind.wrap_i64]
  omega
theorem str13 {w : World} {A : Option Addr} {c m : Nat} {x : List UInt8} (h : Lies w A (cells x)) (hm : x.length = m) (u : World) (hu : Below w.heap.size w u) : (convert 25 9 (.slice A m c)).run Tryd.prog u = .ok (.string (str x)) u := by
  subst hm
  exact conv_str (P := Tryd.prog) (c := c) (h.below hu) 25 5 Tryd.underlying25 Tryd.underlying5 9 Tryd.underlying9
theorem load13 {w : World} {g : Nat} {v0 v1 v2 v3 v4 v5 : Value} (h : Blk w g #[v0, v1, v2, v3, v4, v5] 24) (u : World) (hu : Below w.heap.size w u) : (Instr.loadAt 24 (.pointer (some ⟨g, 0, none⟩))).run Tryd.prog u = .ok (.agg #[v0, v1, v2, v3, v4, v5]) u := by
  obtain ⟨x0, x1, x2, x3, x4, x5⟩ := six13 ((hu.block _ h.lt).trans h)
  exact load_rec13 x0 x1 x2 x3 x4 x5
theorem loadK13 {w : World} {g : Nat} {v0 : Int} {v1 v2 v3 v4 v5 : Value} (h : Blk w g #[.int .i64 v0, v1, v2, v3, v4, v5] 24) (u : World) (hu : Below w.heap.size w u) : (Instr.loadAt 3 (.pointer (some ⟨g, 0, none⟩))).run Tryd.prog u = .ok (.int .i64 v0) u := by
  obtain ⟨x0, x1, x2, x3, x4, x5⟩ := six13 ((hu.block _ h.lt).trans h)
  exact load_int13 x0
theorem loadS13 {w : World} {g n c : Nat} {A : Option Addr} {v0 v1 v2 v3 v4 : Value} (h : Blk w g #[v0, v1, v2, v3, v4, .slice A n c] 24) (u : World) (hu : Below w.heap.size w u) : (Instr.loadAt 22 (.pointer (some ⟨g, 5, none⟩))).run Tryd.prog u = .ok (.slice A n c) u := by
  obtain ⟨x0, x1, x2, x3, x4, x5⟩ := six13 ((hu.block _ h.lt).trans h)
  exact load_spans13 x5
end Go.Proofs.YtdfeccmcefcpbaaDoor
