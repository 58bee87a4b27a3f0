/-
  Layer 3: errors.As of a span.fault, at a target of the type *api.Errno: it finds the number that the fault wraps. Assumed: errors.errorType is what its own text lays (its one cell).
-/
import Derived.Test.YthcchfhkeghkhaaVint
import Derived.Test.YthcchfhkeghkhaaBase
import Derived.WalkKit
import Derived.LaidEql
import Derived.Stop.Asserts
import Derived.RowKitTokens
namespace Go.Proofs.Ythcchfhkeghkhaa
open Go.RowKit Go.Extern.Stop Go.Stop Go.Extern
set_option maxRecDepth 100000

theorem asKindE (w : World) : ((ReflectliteType.abiMethod fun t => (fun a : Nat => Value.int IntKind.u8 (a : Int)) <$> Rtype.kind t) #[.pointer (some ⟨0, 36, none⟩)]).run Try.prog w = .ok (.int .u8 2) w := by kernel_rfl
theorem asRun (z : Sem Value) (f : TypeId → Addr → Nat → Nat → Sem Value) (v : Value) (t : TypeId) (a : Addr) (fl : Nat) (W : World) (h : (ReflectliteValue.parts v).run Try.prog W = .ok (some (t, a, fl)) W) :
    (ReflectliteValue.method z f #[v]).run Try.prog W = (f t a fl (fl % 32)).run Try.prog W := by
  change (Bind.bind (ReflectliteValue.parts v) _).run _ _ = _
  rw [Sem.run_bind, h]
  rfl
theorem asValueOfE (c : Int) (w : World) : (ReflectliteValue.unpack (.iface 36 (.int .i64 c))).run Try.prog w
    = .ok (.agg #[.pointer (some ⟨0, 36, none⟩), .pointer (some ⟨w.heap.size, 0, none⟩), .int .u64 130]) (w.alloc (.cells #[.int .i64 c] 36)) := by kernel_rfl
theorem asMk (p : Addr) (w : World) : (ReflectliteValue.mk 36 p ReflectliteValue.flagAddr).run Try.prog w = .ok (.agg #[.pointer (some ⟨0, 36, none⟩), .pointer (some p), .int .u64 386]) w := by kernel_rfl
theorem asPartsEa (a : Addr) (w : World) : (ReflectliteValue.parts (.agg #[.pointer (some ⟨0, 36, none⟩), .pointer (some a), .int .u64 386])).run Try.prog w = .ok (some (36, a, 386)) w := by kernel_rfl
theorem asPartsE (a : Addr) (w : World) : (ReflectliteValue.parts (.agg #[.pointer (some ⟨0, 36, none⟩), .pointer (some a), .int .u64 130])).run Try.prog w = .ok (some (36, a, 130)) w := by kernel_rfl
theorem asDirect (w : World) : (Rtype.directlyAssignable 36 36).run Try.prog w = .ok true w := by kernel_rfl
theorem asSet (ta b : Addr) (c : Int) (old : Value) (W : World) (hb : W.cell? b = some (.int .i64 c)) (ht : W.cell? ta = some old) (hf : W.frozen? ta = false) :
    (ReflectliteValue.set #[.agg #[.pointer (some ⟨0, 36, none⟩), .pointer (some ta), .int .u64 386], .agg #[.pointer (some ⟨0, 36, none⟩), .pointer (some b), .int .u64 130]]).run Try.prog W
      = .ok (.tuple #[]) (W.setCell ta (.int .i64 c)) := by
  change (Bind.bind (ReflectliteValue.parts (.agg #[.pointer (some ⟨0, 36, none⟩), .pointer (some ta), .int .u64 386])) fun _ => Bind.bind (ReflectliteValue.parts (.agg #[.pointer (some ⟨0, 36, none⟩), .pointer (some b), .int .u64 130])) fun _ => _).run _ _ = _
  simp only [Sem.run_bind, asPartsEa, asPartsE, Result.andThen]
  simp [ReflectliteValue.flagAddr, loadVar, isAgg, underlying, Try.underlying36, hb, Result.andThen, asDirect, storeVar, Value.cells, storeCells, Addr.add]
  rw [run_store Try.prog W ta _ _ (by rfl)]
  simp [ht, hf]
end Go.Proofs.Ythcchfhkeghkhaa
