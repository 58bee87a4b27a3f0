/-
  Layer 13: what the laws' texts share: the law's head; equalities in open orders; what 'Great' answers. Nothing is assumed but that a type has its handle.
-/
import Derived.Test.YtdfeccmcefcpbaaDoorRoG
import Derived.Test.YtdfeccmcefcpbaaDoorHf13
import Derived.Test.YtdfeccmcefcpbaaDoorOpR
import Derived.Test.YtdfeccmcefcpbaaDoorRs13
import Derived.Test.YtdfeccmcefcpbaaDoorTrR6

namespace Go.Proofs.YtdfeccmcefcpbaaDoor
open Go.RowKit
set_option maxRecDepth 100000

theorem up13_any (w : World) (hH : Handle w) : Calls Tryd.prog 10 #[] w fun e w' => e = .returned (.bool true) ∧ Below w.heap.size w w' := head13_any recOk w hH
theorem eqs13_D (W : World) (a b : List UInt8) (R : Bool) (h : decide (a = b) = R) : (binOp .eql 9 (.string (str a)) (.string (str b))).run Tryd.prog W = .ok (.bool R) W := by
  rw [← h, ← beq_str]
  go_simp
theorem eqi13_D (W : World) (a b : Int) (R : Bool) (h : decide (a = b) = R) : (binOp .eql 3 (.int .i64 a) (.int .i64 b)).run Tryd.prog W = .ok (.bool R) W := by
  rw [← h, ← Bool.beq_eq_decide_eq]
  go_simp
theorem eqb13 (W : World) (a : Bool) : (binOp .eql 4 (.bool a) (.bool a)).run Tryd.prog W = .ok (.bool true) W := by
  cases a <;> go_simp
theorem bare_iff {r : Rc.R} {n : Nat} (hn : r.sp.length = n) (hk : 2 ≤ r.kind ∧ r.kind ≤ 5) : Rc.right r = true ↔ r.tick = 0 ∧ r.pin = false ∧ n = 0 ∧ 1 ≤ r.id ∧ r.id ≤ 281474976710656 ∧ (r.cls = 0 ∨ r.kind = 4 ∧ 0 < r.cls ∧ r.cls ≤ 7) := by
  have hl : r.sp = [] ↔ n = 0 := by rw [← hn]; exact List.length_eq_zero_iff.symm
  rw [Rc.right_iff, Rc.may_iff]
  constructor
  · rintro ⟨⟨h1, h2, ⟨h3, -⟩ | ⟨-, h3, h4, h5, h6, h7⟩⟩, -⟩
    · omega
    · exact ⟨h5, h6, hl.1 h7, h1.1, h1.2, by omega⟩
  · rintro ⟨h1, h2, h3, h4, h5, h6⟩
    exact ⟨⟨⟨h4, h5⟩, by omega, .inr ⟨by omega, hk, by omega, h1, h2, hl.2 h3⟩⟩, fun h => by omega⟩
theorem right_kind {r : Rc.R} (h : ¬ (1 ≤ r.kind ∧ r.kind ≤ 5)) : Rc.right r = false := by
  cases hr : Rc.right r with
  | false => rfl
  | true =>
    have := Rc.kind_first hr
    omega
end Go.Proofs.YtdfeccmcefcpbaaDoor
