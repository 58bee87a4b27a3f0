/-
  BatAs: Layer 4: errors.As of a batch.fault, at a target of the type *batch.fault: it finds the fault itself. Assumed: errors.errorType is what its own text lays (its one cell).
  BatEr: Layer 4: errors.Is of a batch.fault, and batch.errno: which of api's errors a fault wraps. Nothing is assumed.
-/
import Derived.Test.YtimelckjbofhbaaDoorSpAs
import Derived.Test.YtimelckjbofhbaaDoorSpanR
import Derived.Test.YtimelckjbofhbaaDoorVint

namespace Go.Proofs.YtimelckjbofhbaaDoor
open Go.RowKit Go.Extern.Stop Go.Stop Go.Extern
set_option maxRecDepth 100000

theorem baValueOfP (t : Addr) (w : World) : (ReflectliteValue.unpack (.iface 49 (.pointer (some t)))).run Tryd.prog w
    = .ok (.agg #[.pointer (some ⟨2, 49, none⟩), .pointer (some ⟨w.heap.size, 0, none⟩), .int .u64 150]) (w.alloc (.cells #[.pointer (some t)] 49)) := by kernel_rfl
theorem baTypeP (a : Addr) (w : World) : (ReflectliteValue.methodAny (ReflectliteValue.valueError "reflectlite.Value.Type" 0) (fun t _ _ _ => ReflectliteType.toType t) #[.agg #[.pointer (some ⟨2, 49, none⟩), .pointer (some a), .int .u64 150]]).run Tryd.prog w
    = .ok (.iface 90 (.agg #[.pointer (some ⟨2, 49, none⟩)])) w := by kernel_rfl
theorem baKindP (w : World) : ((ReflectliteType.abiMethod fun t => (fun a : Nat => Value.int IntKind.u8 (a : Int)) <$> Rtype.kind t) #[.pointer (some ⟨2, 49, none⟩)]).run Tryd.prog w = .ok (.int .u8 22) w := by kernel_rfl
theorem baKindE (w : World) : ((ReflectliteType.abiMethod fun t => (fun a : Nat => Value.int IntKind.u8 (a : Int)) <$> Rtype.kind t) #[.pointer (some ⟨2, 47, none⟩)]).run Tryd.prog w = .ok (.int .u8 25) w := by kernel_rfl
theorem baPartsP (a : Addr) (w : World) : (ReflectliteValue.parts (.agg #[.pointer (some ⟨2, 49, none⟩), .pointer (some a), .int .u64 150])).run Tryd.prog w = .ok (some (49, a, 150)) w := by kernel_rfl
theorem baIsNil (a p : Addr) (W : World) (ha : W.cell? a = some (.pointer (some p))) :
    (ReflectliteValue.method (ReflectliteValue.valueError "reflectlite.Value.IsNil" 0) ReflectliteValue.isNil #[.agg #[.pointer (some ⟨2, 49, none⟩), .pointer (some a), .int .u64 150]]).run Tryd.prog W = .ok (.bool false) W := by
  rw [asRun _ _ _ _ _ _ _ (baPartsP a W)]
  simp [ReflectliteValue.isNil, loadVar, isAgg, underlying, Tryd.underlying49, ha, Result.andThen]
theorem baElemT (w : World) : (ReflectliteType.method ReflectliteType.elem #[.agg #[.pointer (some ⟨2, 49, none⟩)]]).run Tryd.prog w = .ok (.iface 90 (.agg #[.pointer (some ⟨2, 47, none⟩)])) w := by kernel_rfl
theorem baImplements (w : World) : (ReflectliteType.relation "Implements" ReflectliteType.implements_ #[.agg #[.pointer (some ⟨2, 47, none⟩)], .iface 90 (.agg #[.pointer (some ⟨2, 43, none⟩)])]).run Tryd.prog w = .ok (.bool true) w := by kernel_rfl
theorem baTypeOfE (v : Value) (w : World) : (ReflectliteType.typeOf #[.iface 47 v]).run Tryd.prog w = .ok (.iface 90 (.agg #[.pointer (some ⟨2, 47, none⟩)])) w := by kernel_rfl
theorem baAssignableE (w : World) : (ReflectliteType.relation "AssignableTo" ReflectliteType.assignableTo #[.agg #[.pointer (some ⟨2, 47, none⟩)], .iface 90 (.agg #[.pointer (some ⟨2, 47, none⟩)])]).run Tryd.prog w = .ok (.bool true) w := by kernel_rfl
theorem baValueOfE (c : Int) (e : Value) (w : World) : (ReflectliteValue.unpack (.iface 47 (.agg #[.int .i64 c, e]))).run Tryd.prog w
    = .ok (.agg #[.pointer (some ⟨2, 47, none⟩), .pointer (some ⟨w.heap.size, 0, none⟩), .int .u64 153]) (w.alloc (.cells #[.int .i64 c, e] 47)) := by kernel_rfl
theorem baElemOf (w : World) : (Rtype.elem? 49).run Tryd.prog w = .ok (some 47) w := by kernel_rfl
theorem baMk (p : Addr) (w : World) : (ReflectliteValue.mk 47 p ReflectliteValue.flagAddr).run Tryd.prog w = .ok (.agg #[.pointer (some ⟨2, 47, none⟩), .pointer (some p), .int .u64 409]) w := by kernel_rfl
theorem baElemV (a p : Addr) (W : World) (ha : W.cell? a = some (.pointer (some p))) :
    (ReflectliteValue.method (ReflectliteValue.valueError "reflectlite.Value.Elem" 0) ReflectliteValue.elem #[.agg #[.pointer (some ⟨2, 49, none⟩), .pointer (some a), .int .u64 150]]).run Tryd.prog W
      = .ok (.agg #[.pointer (some ⟨2, 47, none⟩), .pointer (some p), .int .u64 409]) W := by
  rw [asRun _ _ _ _ _ _ _ (baPartsP a W)]
  simp [ReflectliteValue.elem, loadVar, isAgg, underlying, Tryd.underlying49, ha, Result.andThen, baElemOf, baMk]
theorem baPartsEa (a : Addr) (w : World) : (ReflectliteValue.parts (.agg #[.pointer (some ⟨2, 47, none⟩), .pointer (some a), .int .u64 409])).run Tryd.prog w = .ok (some (47, a, 409)) w := by kernel_rfl
theorem baPartsE (a : Addr) (w : World) : (ReflectliteValue.parts (.agg #[.pointer (some ⟨2, 47, none⟩), .pointer (some a), .int .u64 153])).run Tryd.prog w = .ok (some (47, a, 153)) w := by kernel_rfl
theorem baDirect (w : World) : (Rtype.directlyAssignable 47 47).run Tryd.prog w = .ok true w := by kernel_rfl
theorem baLoad (g : Nat) (x y : Value) (W : World) (h0 : W.cell? ⟨g, 0, none⟩ = some x) (h1 : W.cell? ⟨g, 1, none⟩ = some y) :
    (loadVar 47 ⟨g, 0, none⟩).run Tryd.prog W = .ok (.agg #[x, y]) W := by
  have := Tryd.underlying47
  go_simp
theorem baStore (g : Nat) (x y u v : Value) (W : World) (h : Blk W g #[u, v] 47) (hx : x.oneCell' = true) (hy : y.oneCell' = true) :
    (storeVar 47 ⟨g, 0, none⟩ (.agg #[x, y])).run Tryd.prog W = .ok () ((W.setCell ⟨g, 0, none⟩ x).setCell ⟨g, 1, none⟩ y) := by
  have := Tryd.underlying47
  have h0 := h.cell 0
  have f0 := h.frozen 0
  have hs := h.set 0 x
  have h1 := hs.cell 1
  have f1 := hs.frozen 1
  simp at h0 h1
  go_simp
  rw [run_store Tryd.prog W _ _ _ hx]
  simp only [h0, f0, Result.andThen, Bool.false_eq_true, if_false]
  rw [run_store Tryd.prog _ _ _ _ hy]
  simp [h1, f1]
theorem baSet (te b : Nat) (x y u v : Value) (W : World) (h0 : W.cell? ⟨b, 0, none⟩ = some x) (h1 : W.cell? ⟨b, 1, none⟩ = some y) (ht : Blk W te #[u, v] 47) (hx : x.oneCell' = true) (hy : y.oneCell' = true) :
    (ReflectliteValue.set #[.agg #[.pointer (some ⟨2, 47, none⟩), .pointer (some ⟨te, 0, none⟩), .int .u64 409], .agg #[.pointer (some ⟨2, 47, none⟩), .pointer (some ⟨b, 0, none⟩), .int .u64 153]]).run Tryd.prog W
      = .ok (.tuple #[]) ((W.setCell ⟨te, 0, none⟩ x).setCell ⟨te, 1, none⟩ y) := by
  change (Bind.bind (ReflectliteValue.parts (.agg #[.pointer (some ⟨2, 47, none⟩), .pointer (some ⟨te, 0, none⟩), .int .u64 409])) fun _ => Bind.bind (ReflectliteValue.parts (.agg #[.pointer (some ⟨2, 47, none⟩), .pointer (some ⟨b, 0, none⟩), .int .u64 153])) fun _ => _).run _ _ = _
  simp only [Sem.run_bind, baPartsEa, baPartsE, Result.andThen]
  have hl := baLoad b x y W h0 h1
  have hst := baStore te x y u v W ht hx hy
  simp [ReflectliteValue.flagAddr, Result.andThen, baDirect, hl, hst]

set_option maxHeartbeats 8000000 in
/-- errors.As(fault, &f): f is the fault -/
theorem asB_hit (at_ code : Int) (te : Nat) (u v : Value) (w : World) (hg : Handle w) (ht : Blk w te #[u, v] 47) :
    Calls Tryd.prog 21 #[.iface 47 (.agg #[.int .i64 at_, .iface 26 (.int .i64 code)]), .iface 49 (.pointer (some ⟨te, 0, none⟩))] w fun ev w' => ev = .returned (.bool true) ∧ w' = (((((w.alloc (.cells #[.pointer (some ⟨te, 0, none⟩)] 49)).alloc (.cells #[.pointer (some ⟨2, 49, none⟩), .pointer (some ⟨w.heap.size, 0, none⟩), .int .u64 150] 69)).alloc (.cells #[.pointer (some ⟨2, 49, none⟩), .pointer (some ⟨w.heap.size, 0, none⟩), .int .u64 150] 69)).alloc (.cells #[.int .i64 at_, .iface 26 (.int .i64 code)] 47)).setCell ⟨te, 0, none⟩ (.int .i64 at_)).setCell ⟨te, 1, none⟩ (.iface 26 (.int .i64 code)) := by
  have h6 := @run_callFunc_extern Tryd.prog 37 _ (fun args => ReflectliteValue.unpack (args.getD 0 (.tuple #[]))) Tryd.func37 (by kernel_rfl) (by kernel_rfl) (by kernel_rfl) (by kernel_rfl)
  have h7 := @run_callFunc_extern Tryd.prog 38 _ (ReflectliteValue.methodAny (ReflectliteValue.valueError "reflectlite.Value.Type" 0) (fun t _ _ _ => ReflectliteType.toType t)) Tryd.func38 (by kernel_rfl) (by kernel_rfl) (by kernel_rfl) (by kernel_rfl)
  have h8 := @run_callFunc_extern Tryd.prog 39 _ (ReflectliteValue.method (ReflectliteValue.valueError "reflectlite.Value.IsNil" 0) ReflectliteValue.isNil) Tryd.func39 (by kernel_rfl) (by kernel_rfl) (by kernel_rfl) (by kernel_rfl)
  have h27 := @run_callFunc_extern Tryd.prog 89 _ (ReflectliteType.abiMethod fun t => do pure (.int .u8 (← Rtype.kind t))) Tryd.func89 (by kernel_rfl) (by kernel_rfl) (by kernel_rfl) (by kernel_rfl)
  have h37 := @run_callFunc_extern Tryd.prog 101 _ (ReflectliteType.method ReflectliteType.elem) Tryd.func101 (by kernel_rfl) (by kernel_rfl) (by kernel_rfl) (by kernel_rfl)
  have h38 := @run_callFunc_extern Tryd.prog 102 _ (ReflectliteType.relation "Implements" ReflectliteType.implements_) Tryd.func102 (by kernel_rfl) (by kernel_rfl) (by kernel_rfl) (by kernel_rfl)
  have h10 := @run_callFunc_extern Tryd.prog 56 _ ReflectliteType.typeOf Tryd.func56 (by kernel_rfl) (by kernel_rfl) (by kernel_rfl) (by kernel_rfl)
  have h35 := @run_callFunc_extern Tryd.prog 99 _ (ReflectliteType.relation "AssignableTo" ReflectliteType.assignableTo) Tryd.func99 (by kernel_rfl) (by kernel_rfl) (by kernel_rfl) (by kernel_rfl)
  have h11 := @run_callFunc_extern Tryd.prog 57 _ (ReflectliteValue.method (ReflectliteValue.valueError "reflectlite.Value.Elem" 0) ReflectliteValue.elem) Tryd.func57 (by kernel_rfl) (by kernel_rfl) (by kernel_rfl) (by kernel_rfl)
  have h12 := @run_callFunc_extern Tryd.prog 58 _ ReflectliteValue.set Tryd.func58 (by kernel_rfl) (by kernel_rfl) (by kernel_rfl) (by kernel_rfl)
  have tE := baTypeOfE
  have mA := asMethodAssignableTo
  have aE := baAssignableE
  have vE := baValueOfE
  have f6 := baValueOfP
  have f7 := baTypeP
  have mK := asMethodKind
  have mE := asMethodElem
  have mI := asMethodImplements
  have kP := baKindP
  have kE := baKindE
  have eT := baElemT
  have iE := baImplements
  have n8 := baIsNil ⟨w.heap.size, 0, none⟩ ⟨te, 0, none⟩ ((w.alloc (.cells #[.pointer (some ⟨te, 0, none⟩)] 49)).alloc (.cells #[.pointer (some ⟨2, 49, none⟩), .pointer (some ⟨w.heap.size, 0, none⟩), .int .u64 150] 69)) (by simp)
  have hg2 : ((w.alloc (.cells #[.pointer (some ⟨te, 0, none⟩)] 49)).alloc (.cells #[.pointer (some ⟨2, 49, none⟩), .pointer (some ⟨w.heap.size, 0, none⟩), .int .u64 150] 69)).cell? ⟨0, 0, none⟩ = some (.iface 90 (.agg #[.pointer (some ⟨2, 43, none⟩)])) := (hg.alloc _).alloc _
  have el := baElemV ⟨w.heap.size, 0, none⟩ ⟨te, 0, none⟩ (((w.alloc (.cells #[.pointer (some ⟨te, 0, none⟩)] 49)).alloc (.cells #[.pointer (some ⟨2, 49, none⟩), .pointer (some ⟨w.heap.size, 0, none⟩), .int .u64 150] 69)).alloc (.cells #[.pointer (some ⟨2, 49, none⟩), .pointer (some ⟨w.heap.size, 0, none⟩), .int .u64 150] 69)) (by rw [World.cell?_alloc_lt _ _ ⟨w.heap.size, 0, none⟩ (by simp; omega)]; simp)
  have k4 := ((((Kept.refl [] w).alloc (.cells #[.pointer (some ⟨te, 0, none⟩)] 49)).alloc (.cells #[.pointer (some ⟨2, 49, none⟩), .pointer (some ⟨w.heap.size, 0, none⟩), .int .u64 150] 69)).alloc (.cells #[.pointer (some ⟨2, 49, none⟩), .pointer (some ⟨w.heap.size, 0, none⟩), .int .u64 150] 69)).alloc (.cells #[.int .i64 at_, .iface 26 (.int .i64 code)] 47)
  have st := baSet te (w.heap.size + 1 + 1 + 1) (.int .i64 at_) (.iface 26 (.int .i64 code)) u v _ (by rw [World.cell?_alloc_at _ _ _ _ (by simp)]; rfl) (by rw [World.cell?_alloc_at _ _ _ _ (by simp)]; rfl) (k4.blk ht (by simp)) rfl rfl
  clear k4 ht hg
  go_enter Tryd.func21, Tryd.ntmps21
  go_wp2
  refine wp_loop_rounds 1 ?_
  rw [rounds_succ]
  go_wp2
  go_ret
  exact ⟨rfl, rfl⟩
/-- errors.As of a fault, at a target in a block of its own -/
theorem asB_is (at_ code : Int) (te : Nat) (u v : Value) (w : World) (hg : Handle w) (ht : Blk w te #[u, v] 47) :
    Calls Tryd.prog 21 #[.iface 47 (.agg #[.int .i64 at_, .iface 26 (.int .i64 code)]), .iface 49 (.pointer (some ⟨te, 0, none⟩))] w fun ev w' => ev = .returned (.bool true) ∧ Blk w' te #[.int .i64 at_, .iface 26 (.int .i64 code)] 47 ∧ Kept [te] w w' := by
  refine (asB_hit at_ code te u v w hg ht).mono ?_
  rintro e w' ⟨rfl, rfl⟩
  have k := ((((Kept.refl [te] w).alloc (.cells #[.pointer (some ⟨te, 0, none⟩)] 49)).alloc (.cells #[.pointer (some ⟨2, 49, none⟩), .pointer (some ⟨w.heap.size, 0, none⟩), .int .u64 150] 69)).alloc (.cells #[.pointer (some ⟨2, 49, none⟩), .pointer (some ⟨w.heap.size, 0, none⟩), .int .u64 150] 69)).alloc (.cells #[.int .i64 at_, .iface 26 (.int .i64 code)] 47)
  have k0 := ((((Kept.refl [] w).alloc (.cells #[.pointer (some ⟨te, 0, none⟩)] 49)).alloc (.cells #[.pointer (some ⟨2, 49, none⟩), .pointer (some ⟨w.heap.size, 0, none⟩), .int .u64 150] 69)).alloc (.cells #[.pointer (some ⟨2, 49, none⟩), .pointer (some ⟨w.heap.size, 0, none⟩), .int .u64 150] 69)).alloc (.cells #[.int .i64 at_, .iface 26 (.int .i64 code)] 47)
  exact ⟨rfl, ((k0.blk ht (by simp)).set 0 _).set 1 _, (k.setCell (by simp) _).setCell (by simp) _⟩
end Go.Proofs.YtimelckjbofhbaaDoor

namespace Go.Proofs.YtimelckjbofhbaaDoor
open Go.RowKit Go.Extern.Stop Go.Stop Go.Extern
set_option maxRecDepth 100000

theorem bnoIsF (v : Value) (xT : TypeId) (w : World) : (Instr.typeAssert (.iface 47 v) xT 116 true).run Tryd.prog w = .ok (.tuple #[.nilIface, .bool false]) w := run_typeAssert_lacksB Tryd.underlying116 (by kernel_rfl) (by kernel_rfl) v xT w
theorem bhasUnwrapF (v : Value) (xT : TypeId) (w : World) : (Instr.typeAssert (.iface 47 v) xT 98 true).run Tryd.prog w = .ok (.tuple #[.iface 47 v, .bool true]) w := run_typeAssert_hasB Tryd.underlying98 (by kernel_rfl) v xT w

theorem is_faultB (at_ code T : Int) (w : World) (hc : (code == T) = true ∨ (code == T) = false) :
    Calls Tryd.prog 41 #[.iface 47 (.agg #[.int .i64 at_, .iface 26 (.int .i64 code)]), .iface 26 (.int .i64 T)] w fun e w' => e = .returned (.bool (code == T)) ∧ Below w.heap.size w w' := by
  obtain ⟨i, hi, hcmp⟩ := Option.map_eq_some_iff.1 isComp
  have h8 := @run_callFunc_extern Tryd.prog 56 _ Extern.ReflectliteType.typeOf Tryd.func56 (by kernel_rfl) (by kernel_rfl) (by kernel_rfl) (by kernel_rfl)
  have tT := isTypeOf
  have cT := isComparable
  have nE := noIsE
  have uE := noUnwrapE
  have vE := noUnwrapsE
  have nF := bnoIsF
  have uF := bhasUnwrapF
  have heq := fun W : World => eql_ints (P := Tryd.prog) W code T Tryd.underlying43 Tryd.underlying26 hi hcmp
  have hty := fun W : World => run_eql_iface_types (P := Tryd.prog) 47 26 (.agg #[.int .i64 at_, .iface 26 (.int .i64 code)]) (.int .i64 T) Tryd.underlying43 (by decide) W
  rcases hc with hc | hc
  all_goals
    go_enter Tryd.func41, Tryd.ntmps41
    go_wp2
    refine wp_loop_rounds 2 ?_
    rw [rounds_succ]
    go_wp2
    rw [rounds_succ]
    go_wp2
    go_ret
    refine ⟨by rw [hc]; rfl, ?_⟩
    go_grown

theorem errnoB_any (at_ : Int) (code : Nat) (w : World) (hc : code = 11 ∨ code = 12 ∨ code = 21) :
    Calls Tryd.prog 22 #[.iface 47 (.agg #[.int .i64 at_, .iface 26 (.int .i64 code)])] w fun e w' => e = .returned (.int .i64 code) ∧ Below w.heap.size w w' := by
  rcases hc with rfl | rfl | rfl
  · go_enter Tryd.func22, Tryd.ntmps22
    go_wp2_with fail
    refine (is_faultB at_ _ 11 _ (by decide)).mono ?_
    rintro e w' ⟨rfl, hb⟩
    go_wp2
    go_ret
    exact ⟨rfl, hb⟩
  all_goals
    go_enter Tryd.func22, Tryd.ntmps22
    go_wp2_with fail
    refine (is_faultB at_ _ 11 _ (by decide)).mono ?_
    rintro e w' ⟨rfl, hb⟩
    go_wp2_with fail
    refine (is_faultB at_ _ 21 _ (by decide)).mono ?_
    rintro e w'' ⟨rfl, hb'⟩
    go_wp2
    go_ret
    exact ⟨rfl, hb.trans (hb'.mono hb.size)⟩
end Go.Proofs.YtimelckjbofhbaaDoor
