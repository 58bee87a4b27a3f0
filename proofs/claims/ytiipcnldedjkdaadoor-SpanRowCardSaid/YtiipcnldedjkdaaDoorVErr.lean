/-
  Layer 1: errors.Is of a vint.fault, and vint.errno: which of api's errors a fault wraps. Nothing is assumed.
-/
import Derived.Test.YtiipcnldedjkdaaDoorChecked
import Derived.WalkKit
import Derived.Handy
import Derived.LaidEql
import Derived.Stop.Asserts
import Derived.RowKitTokens
import Derived.Lib.Hide
namespace Go.Proofs.YtiipcnldedjkdaaDoor
open Go.RowKit Go.Extern.Stop Go.Stop Go.Extern

/-- '==' of two interface values of one integer type: as their numbers are. -/
theorem eqlIn_ints {P : Program} (w : World) (d : Nat) {ti tn : TypeId} {ms : Array (String × TypeId)} {i : TypeInfo} {k : IntKind} (a b : Int)
    (hi : P.underlying ti = some (.interface ms)) (hn : P.underlying tn = some (.int k)) (hinfo : P.info? tn = some i) (hcomp : i.comparable = true) :
    (Op.equalIn (d + 2) ti (.iface tn (.int k a)) (.iface tn (.int k b))).run P w = .ok (a == b) w := by
  simp [Op.equalIn, run_underlying hi, run_underlying hn, typeInfo, hinfo, hcomp]
theorem eql_ints {P : Program} (w : World) {ti tn : TypeId} {ms : Array (String × TypeId)} {i : TypeInfo} {k : IntKind} (a b : Int)
    (hi : P.underlying ti = some (.interface ms)) (hn : P.underlying tn = some (.int k)) (hinfo : P.info? tn = some i) (hcomp : i.comparable = true) :
    (binOp .eql ti (.iface tn (.int k a)) (.iface tn (.int k b))).run P w = .ok (.bool (a == b)) w := by
  simp only [binOp]
  simp [Op.equal, Op.maxDepth, eqlIn_ints w 9998 a b hi hn hinfo hcomp]

theorem isTypeOf (v : Value) (w : World) : (Extern.ReflectliteType.typeOf #[.iface 27 v]).run Tryd.prog w = .ok (.iface 87 (.agg #[.pointer (some ⟨1, 27, none⟩)])) w := by kernel_rfl
theorem isComparable (w : World) : (callFunc 84 #[.agg #[.pointer (some ⟨1, 27, none⟩)]]).run Tryd.prog w = .ok (.value (.bool true)) w := by
  rw [@run_callFunc_extern Tryd.prog 84 _ _ Tryd.func84 (by kernel_rfl) (by kernel_rfl) (by kernel_rfl) rfl]
  kernel_rfl
theorem isComp : (Tryd.prog.info? 27).map (·.comparable) = some true := by kernel_rfl
theorem noIsE (v : Value) (xT : TypeId) (w : World) : (Instr.typeAssert (.iface 27 v) xT 113 true).run Tryd.prog w = .ok (.tuple #[.nilIface, .bool false]) w := run_typeAssert_lacksB Tryd.underlying113 (by kernel_rfl) (by kernel_rfl) v xT w
theorem noUnwrapE (v : Value) (xT : TypeId) (w : World) : (Instr.typeAssert (.iface 27 v) xT 95 true).run Tryd.prog w = .ok (.tuple #[.nilIface, .bool false]) w := run_typeAssert_lacksB Tryd.underlying95 (by kernel_rfl) (by kernel_rfl) v xT w
theorem noUnwrapsE (v : Value) (xT : TypeId) (w : World) : (Instr.typeAssert (.iface 27 v) xT 97 true).run Tryd.prog w = .ok (.tuple #[.nilIface, .bool false]) w := run_typeAssert_lacksB Tryd.underlying97 (by kernel_rfl) (by kernel_rfl) v xT w
theorem noIsF (v : Value) (xT : TypeId) (w : World) : (Instr.typeAssert (.iface 110 v) xT 113 true).run Tryd.prog w = .ok (.tuple #[.nilIface, .bool false]) w := run_typeAssert_lacksB Tryd.underlying113 (by kernel_rfl) (by kernel_rfl) v xT w
theorem hasUnwrapF (v : Value) (xT : TypeId) (w : World) : (Instr.typeAssert (.iface 110 v) xT 95 true).run Tryd.prog w = .ok (.tuple #[.iface 110 v, .bool true]) w := run_typeAssert_hasB Tryd.underlying95 (by kernel_rfl) v xT w

/-- a fault: at which byte, of which error -/
def fault (at_ code : Int) : Value := .iface 110 (.agg #[.int .i64 at_, .iface 27 (.int .i64 code)])

theorem is_fault (at_ code : Int) (w : World) (hc : (code == 11) = true ∨ (code == 11) = false) :
    Calls Tryd.prog 57 #[.iface 110 (.agg #[.int .i64 at_, .iface 27 (.int .i64 code)]), .iface 27 (.int .i64 11)] w fun e w' => e = .returned (.bool (code == 11)) ∧ Below w.heap.size w w' := by
  obtain ⟨i, hi, hcmp⟩ := Option.map_eq_some_iff.1 isComp
  have h8 := @run_callFunc_extern Tryd.prog 45 _ Extern.ReflectliteType.typeOf Tryd.func45 (by kernel_rfl) (by kernel_rfl) (by kernel_rfl) (by kernel_rfl)
  have tT := isTypeOf
  have cT := isComparable
  have nE := noIsE
  have uE := noUnwrapE
  have vE := noUnwrapsE
  have nF := noIsF
  have uF := hasUnwrapF
  have heq := fun W : World => eql_ints (P := Tryd.prog) W code 11 Tryd.underlying41 Tryd.underlying27 hi hcmp
  have hty := fun W : World => run_eql_iface_types (P := Tryd.prog) 110 27 (.agg #[.int .i64 at_, .iface 27 (.int .i64 code)]) (.int .i64 11) Tryd.underlying41 (by decide) W
  rcases hc with hc | hc
  all_goals
    go_enter Tryd.func57, Tryd.ntmps57
    go_wp2
    refine wp_loop_rounds 2 ?_
    rw [rounds_succ]
    go_wp2
    rw [rounds_succ]
    go_wp2
    go_ret
    refine ⟨by rw [hc]; rfl, ?_⟩
    go_grown

/-- the error value of a code: nil, or a fault of it -/
def errOf (at_ : Int) (code : Nat) : Value := if code = 0 then .nilIface else .iface 110 (.agg #[.int .i64 at_, .iface 27 (.int .i64 code)])

theorem errno_nil (w : World) : Calls Tryd.prog 55 #[.nilIface] w fun e w' => e = .returned (.int .i64 0) ∧ Below w.heap.size w w' := by
  go_enter Tryd.func55, Tryd.ntmps55
  go_wp2
  go_ret
  exact ⟨rfl, Below.refl _ _⟩
theorem errno_fault (at_ code : Int) (w : World) (hc : code = 11 ∨ code = 12) :
    Calls Tryd.prog 55 #[.iface 110 (.agg #[.int .i64 at_, .iface 27 (.int .i64 code)])] w fun e w' => e = .returned (.int .i64 code) ∧ Below w.heap.size w w' := by
  rcases hc with rfl | rfl
  all_goals
    go_enter Tryd.func55, Tryd.ntmps55
    go_wp2_with fail
    refine (is_fault at_ _ _ (by decide)).mono ?_
    rintro e w' ⟨rfl, hb⟩
    go_wp2
    go_ret
    exact ⟨rfl, hb⟩
theorem errno_any (at_ : Int) (code : Nat) (w : World) (hc : code = 0 ∨ code = 11 ∨ code = 12) :
    Calls Tryd.prog 55 #[errOf at_ code] w fun e w' => e = .returned (.int .i64 code) ∧ Below w.heap.size w w' := by
  unfold errOf
  split
  · rename_i h; subst h; exact errno_nil w
  · exact errno_fault at_ code w (by omega)
end Go.Proofs.YtiipcnldedjkdaaDoor
