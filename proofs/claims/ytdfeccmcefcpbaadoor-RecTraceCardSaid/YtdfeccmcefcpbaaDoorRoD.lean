/-
  Layer 13, the developers' rec: Put: of any record its bytes are the document's. Assumed: that the spans lie in memory.
-/
import Derived.Test.YtdfeccmcefcpbaaDoorRoC
import Derived.Test.YtdfeccmcefcpbaaDoorSoftP

namespace Go.Proofs.YtdfeccmcefcpbaaDoor
open Go.RowKit
set_option maxRecDepth 100000

/-! what is found in the map of shapes -/
def SV (w : World) (k : Int) (u : Value) : Prop := (k = 1 → u = sealV) ∧ (2 ≤ k ∧ k ≤ 5 → ∃ gm gn gc, u = chgV gm gn gc ∧ Cap13 w gm gn gc (decide (k = 4))) ∧ (¬ (1 ≤ k ∧ k ≤ 5) → u = noV)
theorem SV.below {w w' : World} {k : Int} {u : Value} (h : SV w k u) (hb : Below w.heap.size w w') : SV w' k u :=
  ⟨h.1, fun e => by obtain ⟨gm, gn, gc, e1, e2⟩ := h.2.1 e; exact ⟨gm, gn, gc, e1, e2.below hb⟩, h.2.2⟩
def Fact.shp : Fact := ⟨fun v w => ∃ b, v = .map (some b) ∧ Shp w b, fun _ _ _ ⟨b, e, h⟩ hb => ⟨b, e, h.below hb⟩⟩
def Fact.tup (k : Int) : Fact := ⟨fun v w => ∃ u, v = .tuple #[u, .bool (decide (1 ≤ k ∧ k ≤ 5))] ∧ SV w k u, fun _ _ _ ⟨u, e, h⟩ hb => ⟨u, e, h.below hb⟩⟩
def Fact.sv (k : Int) : Fact := ⟨fun v w => SV w k v, fun _ _ _ h hb => h.below hb⟩
def Fact.new13 (B : Nat) (cs : Array Value) (t : TypeId) : Fact := ⟨fun v w => ∃ g, v = .pointer (some ⟨g, 0, none⟩) ∧ B ≤ g ∧ Blk w g cs t, fun _ _ _ ⟨g, e, h1, h⟩ hb => ⟨g, e, h1, (Kept.of hb []).blk h (by simp)⟩⟩
theorem shp_is {w : World} : ∀ (e : Ending) (w' : World), (∃ b, e = .returned (.map (some b)) ∧ Shp w' b ∧ Below w.heap.size w w') → ∃ v, e = .returned v ∧ Fact.shp.φ v w' ∧ Below w.heap.size w w' := fun _ _ ⟨b, he, h, hb⟩ => ⟨_, he, ⟨b, rfl, h⟩, hb⟩
theorem soft13_call0 {P : Program} {w : World} {F : Fact} {ρ : Operand → Value} {o : Oper} {f : FuncId} {ats : Array TypeId} {R : Ending → World → Prop}
    (hf : ∀ f, ρ (.func f) = .func (.func f) #[] #[]) (hc : Calls P f #[] w R) (ho : o.op = .call { callee := .value (.func f), args := #[], argTypes := ats })
    (hfn : (P.funcs[f]?).map (fun fn => (fn.name == "runtime.NumGoroutine", fn.body.isNone)) = some (false, false)) (hR : ∀ e w', R e w' → ∃ v, e = .returned v ∧ F.φ v w' ∧ Below w.heap.size w w') : softUpon P w F ((execOp ρ o).run P w) := by
  have e : (execOp ρ o).run P w = .ok (.enter f #[]) w := by
    simp [execOp, ho, resolve, invoke, hf, Deferred.ofValue, go_sem, enters hfn]
  rw [e]
  exact ⟨rfl, hc.mono hR⟩
theorem soft13_callV0 {P : Program} {w : World} {F : Fact} {ρ : Operand → Value} {o : Oper} {x g : Operand} {f : FuncId} {ats : Array TypeId} {vx : Value} {R : Ending → World → Prop}
    (hx : ρ x = vx) (hg : ρ g = .func (.func f) #[] #[]) (hc : Calls P f #[vx] w R) (ho : o.op = .call { callee := .value g, args := #[x], argTypes := ats })
    (hfn : (P.funcs[f]?).map (fun fn => (fn.name == "runtime.NumGoroutine", fn.body.isNone)) = some (false, false)) (hR : ∀ e w', R e w' → ∃ v, e = .returned v ∧ F.φ v w' ∧ Below w.heap.size w w') : softUpon P w F ((execOp ρ o).run P w) := by
  have e : (execOp ρ o).run P w = .ok (.enter f #[vx]) w := by
    simp [execOp, ho, resolve, invoke, hg, hx, Deferred.ofValue, go_sem, enters hfn]
  rw [e]
  exact ⟨rfl, hc.mono hR⟩
theorem soft13_callV1 {P : Program} {w : World} {F : Fact} {ρ : Operand → Value} {o : Oper} {x g : Operand} {f : FuncId} {ats : Array TypeId} {vx vc : Value} {R : Ending → World → Prop}
    (hx : ρ x = vx) (hg : ρ g = .func (.func f) #[] #[vc]) (hc : Calls P f #[vx, vc] w R) (ho : o.op = .call { callee := .value g, args := #[x], argTypes := ats })
    (hfn : (P.funcs[f]?).map (fun fn => (fn.name == "runtime.NumGoroutine", fn.body.isNone)) = some (false, false)) (hR : ∀ e w', R e w' → ∃ v, e = .returned v ∧ F.φ v w' ∧ Below w.heap.size w w') : softUpon P w F ((execOp ρ o).run P w) := by
  have e : (execOp ρ o).run P w = .ok (.enter f #[vx, vc]) w := by
    simp [execOp, ho, resolve, invoke, hg, hx, Deferred.ofValue, go_sem, enters hfn]
  rw [e]
  exact ⟨rfl, hc.mono hR⟩
theorem soft13_look {w : World} {ρ : Operand → Value} {o : Oper} {m x : Operand} {k : Int} (hm : Fact.shp.φ (ρ m) w) (hx : ρ x = .int .i64 k) (ho : o.op = .lookup 50 m x true) : softUpon Tryd.prog w (Fact.tup k) ((execOp ρ o).run Tryd.prog w) := by
  obtain ⟨b, e1, hs⟩ := hm
  obtain ⟨v, h1, h2, h3, h4⟩ := hs.look k
  have e : (execOp ρ o).run Tryd.prog w = .ok (.value (.tuple #[v, .bool (decide (1 ≤ k ∧ k ≤ 5))])) w := by
    simp [execOp, ho, hx, e1, h1]
  rw [e]
  exact ⟨⟨v, rfl, h2, h3, h4⟩, Below.refl _ _⟩
theorem soft13_move {P : Program} {w : World} {ρ : Operand → Value} {o : Oper} {x : Operand} {F : Fact} (hx : F.φ (ρ x) w) (ho : o.op = .move x) : softUpon P w F ((execOp ρ o).run P w) := by
  have e : (execOp ρ o).run P w = .ok (.value (ρ x)) w := by simp [execOp, ho]
  rw [e]
  exact ⟨hx, Below.refl _ _⟩
theorem soft13_ext {P : Program} {w : World} {ρ : Operand → Value} {o : Oper} {x : Operand} {k : Int} (hx : (Fact.tup k).φ (ρ x) w) (ho : o.op = .extract x 0) : softUpon P w (Fact.sv k) ((execOp ρ o).run P w) := by
  obtain ⟨u, e1, h⟩ := hx
  have e : (execOp ρ o).run P w = .ok (.value u) w := by simp [execOp, ho, e1, go_sem]
  rw [e]
  exact ⟨h, Below.refl _ _⟩
theorem free13_ext {P : Program} {w : World} {ρ : Operand → Value} {o : Oper} {x : Operand} {c : Value} (hx : ∃ u, ρ x = .tuple #[u, c]) (ho : o.op = .extract x 1) : (execOp ρ o).run P w = .ok (.value c) w := by
  obtain ⟨u, e1⟩ := hx
  simp [execOp, ho, e1, go_sem]
theorem soft13_alloc {w : World} {ρ : Operand → Value} {o : Oper} {B : Nat} (hB : B ≤ w.heap.size) (ho : o.op = .alloc 48) : softUpon Tryd.prog w (Fact.new13 B #[.nilFunc, .nilFunc, .nilFunc] 48) ((execOp ρ o).run Tryd.prog w) := by
  have e : (execOp ρ o).run Tryd.prog w = .ok (.value (.pointer (some ⟨w.heap.size, 0, none⟩))) (w.alloc (.cells #[.nilFunc, .nilFunc, .nilFunc] 48)) := by
    simp [execOp, ho]
    go_simp
  rw [e]
  exact ⟨⟨_, rfl, hB, Blk.new _ _ _⟩, (Below.refl _ _).alloc (Nat.le_refl _) _⟩
theorem soft13_build {w : World} {ρ : Operand → Value} {o : Oper} {x : Operand} {B k : Nat} (hB : B ≤ w.heap.size) (hc : cells [UInt8.ofNat k] = [.int .u8 (k : Int)]) (hx : ρ x = .int .u8 (k : Int)) (ho : o.op = .buildSlice 25 1 #[(0, x)]) : softUpon Tryd.prog w (Fact.row B 5 1 1 (cells [UInt8.ofNat k])) ((execOp ρ o).run Tryd.prog w) := by
  have e : (execOp ρ o).run Tryd.prog w = .ok (.value (.slice (some ⟨w.heap.size, 0, none⟩) 1 1)) (w.alloc (.cells #[.int .u8 (k : Int)] 5)) := by
    simp [execOp, ho, hx]
    go_simp
  rw [e]
  refine ⟨?_, (Below.refl _ _).alloc (Nat.le_refl _) _⟩
  rw [hc]
  exact World.ownsRow_lit w #[.int .u8 (k : Int)] 1 hB (by unfold maxLen; omega) rfl
theorem late13_store {P : Program} {W w' : World} {a : Act} {o : Oper} {x y : Operand} {t : TypeId} {K : Act → World → Prop} {Q : Exit → Act → World → Prop} (ho : o.op = .store t x y) (hr : (Instr.storeAt t (a.eval x) (a.eval y)).run P W = .ok () w') (hK : K (a.put o.dst undef) w') : o.wp P a W K Q := by
  unfold Oper.wp
  simp [execOp, ho, hr, Result.andThen]
  exact hK
theorem three_set (u0 u1 u2 v0 v1 v2 : Value) : (((#[u0, u1, u2].setIfInBounds 0 v0).setIfInBounds 1 v1).setIfInBounds 2 v2) = #[v0, v1, v2] := rfl
theorem store13 {w : World} {g : Nat} {k : Int} {u : Value} (h : SV w k u) (hb : Blk w g #[.nilFunc, .nilFunc, .nilFunc] 48) :
    ∃ w', (Instr.storeAt 48 (.pointer (some ⟨g, 0, none⟩)) u).run Tryd.prog w = .ok () w' ∧ Blk w' g u.cells 48 ∧ Kept [g] w w' := by
  have q0 := Blk.cell hb 0
  have q1 := Blk.cell hb 1
  have q2 := Blk.cell hb 2
  have f0 := hb.frozen 0
  have f1 := hb.frozen 1
  have f2 := hb.frozen 2
  have key : ∀ v0 v1 v2 : Value, u = .agg #[v0, v1, v2] → (Instr.storeAt 48 (.pointer (some ⟨g, 0, none⟩)) (.agg #[v0, v1, v2])).run Tryd.prog w = .ok () (((w.setCell ⟨g, 0, none⟩ v0).setCell ⟨g, 1, none⟩ v1).setCell ⟨g, 2, none⟩ v2) → 
      ∃ w', (Instr.storeAt 48 (.pointer (some ⟨g, 0, none⟩)) u).run Tryd.prog w = .ok () w' ∧ Blk w' g u.cells 48 ∧ Kept [g] w w' := fun v0 v1 v2 e hr => by
    subst e
    refine ⟨_, hr, ?_, (((Kept.refl [g] w).setCell (p := ⟨g, 0, none⟩) (by simp) _).setCell (p := ⟨g, 1, none⟩) (by simp) _).setCell (p := ⟨g, 2, none⟩) (by simp) _⟩
    have hh := ((hb.set 0 v0).set 1 v1).set 2 v2
    rw [three_set] at hh
    exact hh
  by_cases h1 : k = 1
  · refine key _ _ _ (h.1 h1) ?_
    clear key h
    go_simp
  by_cases h2 : 2 ≤ k ∧ k ≤ 5
  · obtain ⟨gm, gn, gc, e, -⟩ := h.2.1 h2
    refine key _ _ _ e ?_
    clear key h e
    go_simp
  · refine key _ _ _ (h.2.2 (by omega)) ?_
    clear key h
    go_simp
theorem cap_kept13 {w w' : World} {g gm gn gc : Nat} {c : Bool} {v0 v1 v2 : Value} {t : TypeId} (h : Cap13 w gm gn gc c) (hb : Blk w g #[v0, v1, v2] t) (hk : Kept [g] w w') : Cap13 w' gm gn gc c := by
  have hne : ∀ {i : Nat} {v : Value} {t' : TypeId}, Blk w i #[v] t' → Blk w' i #[v] t' := fun {i v t'} hi => hk.blk hi (by
    simp only [List.mem_singleton]
    rintro rfl
    have h1 := hi.symm.trans hb
    simp at h1)
  exact ⟨hne h.1, hne h.2.1, hne h.2.2⟩
theorem SV.kept {w w' : World} {g : Nat} {k : Int} {u v0 v1 v2 : Value} {t : TypeId} (h : SV w k u) (hb : Blk w g #[v0, v1, v2] t) (hk : Kept [g] w w') : SV w' k u :=
  ⟨h.1, fun e => by obtain ⟨gm, gn, gc, e1, e2⟩ := h.2.1 e; exact ⟨gm, gn, gc, e1, cap_kept13 e2 hb hk⟩, h.2.2⟩
theorem rest_S (r : Rc.R) (h : r.kind = 1) : Rc.rest r = [UInt8.ofNat (Rc.cp r)] ++ Plain.put r.tick ++ Plain.tput r.sp := by
  unfold Rc.rest
  rw [if_pos h]
  simp
theorem fitsS_cls (r : Rc.R) (h : fitsS r = true) : 0 ≤ r.cls ∧ r.cls ≤ 7 := by
  unfold fitsS at h
  simp only [Bool.and_eq_true, decide_eq_true_eq] at h
  exact h.1
theorem fitsC_cls (c : Bool) (r : Rc.R) (h : fitsC c r = true) : 0 ≤ r.cls ∧ r.cls ≤ 7 := by
  unfold fitsC at h
  simp only [Bool.and_eq_true, decide_eq_true_eq] at h
  refine ⟨h.1.1, ?_⟩
  have := h.1.2
  split at this <;> omega

set_option maxHeartbeats 16000000 in
theorem dput13_any (r : Rc.R) (A : Option Addr) (n cap : Nat) (w : World) (hn : r.sp.length = n) (hm : n ≤ maxLen) (hA : Lies w A (flat r.sp)) (hS : Fine r.sp) :
    Calls Tryd.prog 16 #[recV r A n cap] w (Made w (Rc.rput r)) := by
  have hbx := Blk.new w (recCs r A n cap) 24
  have HX := Lib.hid (fun (u : World) (h : Below (w.alloc (.cells (recCs r A n cap) 24)).heap.size (w.alloc (.cells (recCs r A n cap) 24)) u) => BoxR.six (BoxR.below hbx h))
  have hB0 : Below w.heap.size w (w.alloc (.cells (recCs r A n cap) 24)) := (Below.refl _ _).alloc (Nat.le_refl _) _
  have HRS := Lib.hid (fun (W : World) (hW : Below w.heap.size w W) => dright13S_any r A n cap W hn hm (hA.below hW) hS)
  have HRC := Lib.hid (fun (c : Bool) (gm gn gc : Nat) (W : World) (hC : Cap13 W gm gn gc c) => dright13C_any c gm gn gc r A n cap W hC hn)
  have HQS := Lib.hid (fun (hc : 0 ≤ r.cls ∧ r.cls ≤ 7) (W : World) (hW : Below w.heap.size w W) => dput13S_any r A n cap W hc hn hm (hA.below hW) hS)
  have HQC := Lib.hid (fun (hc : 0 ≤ r.cls ∧ r.cls ≤ 7) (c : Bool) (gm gn gc : Nat) (W : World) (hC : Cap13 W gm gn gc c) => dput13C_any c gm gn gc r A n cap W hC hc)
  have HNK := Lib.hid (Rc.rput_no_kind r)
  have HNI := Lib.hid (Rc.rput_no_id r)
  have HNF := Lib.hid (Rc.rput_no_fits r)
  have HFI := Lib.hid (Rc.rput_fit r)
  have HFS := Lib.hid (fits_S r)
  have HFC := Lib.hid (fits_C r)
  have HCS := Lib.hid (fitsS_cls r)
  have HCC := Lib.hid (fun c => fitsC_cls c r)
  have HTS := Lib.hid (rest_S r)
  have HTC := Lib.hid (rest_C r)
  have HRL := Lib.hid (Rc.rest_len r)
  obtain ⟨RP, hRP⟩ : ∃ RP, Rc.rput r = RP := ⟨_, rfl⟩
  rw [hRP] at HNK HNI HNF HFI ⊢
  obtain ⟨FT, hFT⟩ : ∃ FT, Rc.fits r = FT := ⟨_, rfl⟩
  rw [hFT] at HNF HFI HFS HFC
  obtain ⟨RS, hRS⟩ : ∃ RS, Rc.rest r = RS := ⟨_, rfl⟩
  rw [hRS] at HFI HTS HTC HRL
  obtain ⟨FS, hFS⟩ : ∃ FS, fitsS r = FS := ⟨_, rfl⟩
  rw [hFS] at HRS HFS HCS
  obtain ⟨FC, hFC⟩ : ∃ FC : Bool → Bool, (fun c => fitsC c r) = FC := ⟨_, rfl⟩
  have hFC' : ∀ c, fitsC c r = FC c := fun c => by rw [← hFC]
  simp only [hFC'] at HRC HFC HCC
  obtain ⟨TS, hTS⟩ : ∃ TS, [UInt8.ofNat (Rc.cp r)] ++ Plain.put r.tick ++ Plain.tput r.sp = TS := ⟨_, rfl⟩
  rw [hTS] at HQS HTS
  obtain ⟨TC, hTC⟩ : ∃ TC : Bool → List UInt8, (fun c => restC c r) = TC := ⟨_, rfl⟩
  have hTC' : ∀ c, restC c r = TC c := fun c => by rw [← hTC]
  simp only [hTC'] at HQC HTC
  clear hRP hFT hRS hFS hFC hFC' hTS hTC hTC' hbx hA hS hn
  unfold recV recCs at *
  obtain ⟨kind, id, cls, tick, pin, sp⟩ := r
  simp only at HX HRS HRC HQS HQC HNK HNI HFI HFS HFC HCS HCC HTS HTC hB0 ⊢
  obtain ⟨w0, hw0⟩ : ∃ w0, w.alloc (.cells #[.int .i64 kind, .int .i64 id, .int .i64 cls, .int .i64 tick, .bool pin, .slice A n cap] 24) = w0 := ⟨_, rfl⟩
  rw [hw0] at HX hB0
  have HW0 := Lib.hid hw0
  have HB0 := Lib.hid hB0
  have LK := Lib.hid (fun (u : World) (h : Below w0.heap.size w0 u) => load_int13 (HX.out u h).1)
  have LR := Lib.hid (fun (u : World) (h : Below w0.heap.size w0 u) => load_rec13 (HX.out u h).1 (HX.out u h).2.1 (HX.out u h).2.2.1 (HX.out u h).2.2.2.1 (HX.out u h).2.2.2.2.1 (HX.out u h).2.2.2.2.2)
  have HBW := Lib.hid (fun (u : World) (h : Below w0.heap.size w0 u) => hB0.trans (h.mono hB0.size))
  have HWI := Lib.hid (fun (W : World) => dwithin13_any 1 281474976710656 id W)
  obtain ⟨qi, hqi⟩ : ∃ q, decide (1 ≤ id ∧ id ≤ 281474976710656) = q := ⟨_, rfl⟩
  rw [hqi] at HWI
  have HQI := Lib.hid hqi
  clear hqi hB0
  go_enter Tryd.func16, Tryd.ntmps16
  clear hw0
  go_wp2
  rw [HW0.out]
  refine wp_lateP (by kernel_rfl) 6 (fun v => ∃ u, v = .tuple #[u, .bool (decide (1 ≤ kind ∧ kind ≤ 5))]) 42 [(7, []), (8, [1]), (9, [8]), (10, [7, 9]), (6, [10]), (11, [6]), (12, [6]), (3, []), (1008, [3, 11]), (1009, [12])]
    [Fact.shp, Fact.is (.pointer (some ⟨w.heap.size, 0, none⟩)), Fact.is (.int .i64 kind), Fact.tup kind, Fact.tup kind, Fact.sv kind, Fact.is (.bool (decide (1 ≤ kind ∧ kind ≤ 5))), Fact.new13 w0.heap.size #[.nilFunc, .nilFunc, .nilFunc] 48, default, default]
    [1, 1, 1, 1, 1, 1, 0, 1, 2, 2] [8, 9] [3, 4] [7, 8, 9, 10, 6, 11, 12, 3, 4] ((fun p vs w' => ∃ g u, vs.getD 0 undef = .pointer (some ⟨g, 0, none⟩) ∧ w0.heap.size ≤ g ∧ Blk w' g u.cells 48 ∧ SV w' kind u ∧ Below w0.heap.size w0 w' ∧ (p = 2 → vs.getD 1 undef = .bool (decide (1 ≤ kind ∧ kind ≤ 5)))))
    (by kernel_rfl) (by kernel_rfl) rfl rfl (fun j v w hs h => by have e : some 4 = some j := hs; injection e with e; subst e; obtain ⟨u, e, -⟩ := h; exact ⟨u, e⟩) (by kernel_rfl) ⟨?s0, ?s1, ?s2, ?s3, ?s4, ?s5, ?s6, ?s7, trivial⟩ ?late ?fin
  case s0 =>
    intro ρ W hb hc hf hr
    clear hr
    refine under_none rfl ?_
    exact soft13_call0 hf (shapes13_any W) rfl (by kernel_rfl) shp_is
  case s1 =>
    intro ρ W hb hc hf hr
    obtain ⟨r1, -⟩ := hr
    have e1 : ρ (.tmp 1) = .pointer (some ⟨w.heap.size, 0, none⟩) := r1
    clear r1
    refine under_none rfl ?_
    exact soft_field e1 rfl (fun W => by go_simp)
  case s2 =>
    intro ρ W hb hc hf hr
    obtain ⟨r8, -⟩ := hr
    have e8 : ρ (.tmp 8) = .pointer (some ⟨w.heap.size, 0, none⟩) := r8
    clear r8
    refine under_none rfl ?_
    exact soft_load e8 (LK.out W (undrew13 hb)) rfl
  case s3 =>
    intro ρ W hb hc hf hr
    obtain ⟨r7, r9, -⟩ := hr
    have e9 : ρ (.tmp 9) = .int .i64 kind := r9
    clear r9
    refine under_none rfl ?_
    exact soft13_look r7 e9 rfl
  case s4 =>
    intro ρ W hb hc hf hr
    obtain ⟨r10, -⟩ := hr
    refine under_none rfl ?_
    exact soft13_move r10 rfl
  case s5 =>
    intro ρ W hb hc hf hr
    obtain ⟨r6, -⟩ := hr
    refine under_none rfl ?_
    exact soft13_ext r6 rfl
  case s6 =>
    refine ⟨rfl, _, rfl, ?_⟩
    intro ρ W hc hf hp hr
    replace hp := hp rfl
    clear hr
    exact free13_ext hp rfl
  case s7 =>
    intro ρ W hb hc hf hr
    clear hr
    refine under_none rfl ?_
    exact soft13_alloc (undrew13 hb).size rfl
  case late =>
    intro p j o hj ho a W hsz h0 h1 hfr hou
    match p, hj with
    | 0, hj =>
      obtain rfl : 8 = j := Option.some.inj hj
      obtain rfl := Option.some.inj ho
      clear hj ho
      obtain ⟨hb, hhard⟩ := h0 rfl
      have r3 : (Fact.new13 w0.heap.size #[.nilFunc, .nilFunc, .nilFunc] 48).φ (a.tmps.getD 3 undef) W := hhard 3 7 rfl rfl
      have r11 : (Fact.sv kind).φ (a.tmps.getD 11 undef) W := hhard 11 5 rfl rfl
      clear h0 h1 hhard hfr hou
      obtain ⟨g, e3, hg, hB⟩ := r3
      have e3' : a.eval (.tmp 3) = .pointer (some ⟨g, 0, none⟩) := e3
      obtain ⟨w', hr, hb', hk⟩ := store13 r11 hB
      refine late13_store (x := .tmp 3) (y := .tmp 11) (w' := w') rfl (by rw [e3']; exact hr) ⟨undef, rfl, ?_⟩
      exact ⟨g, _, e3, hg, hb', r11.kept hB hk, Kept.below (undrew13 hb) hk (by simpa using hg), fun h => absurd h (by omega)⟩
    | 1, hj =>
      obtain rfl : 9 = j := Option.some.inj hj
      obtain rfl := Option.some.inj ho
      clear hj ho
      have hP := h1 (by omega)
      have e12 : a.eval (.tmp 12) = .bool (decide (1 ≤ kind ∧ kind ≤ 5)) := hfr 12 6 rfl rfl (by kernel_rfl)
      clear h0 h1 hfr hou
      obtain ⟨g, u, h1, h2, h3, h4, h5, -⟩ := hP
      refine late_assign rfl e12 ⟨_, rfl, ?_⟩
      exact ⟨g, u, by simpa [Act.put, Array.getD_eq_getD_getElem?, hsz] using h1, h2, h3, h4, h5, fun _ => by simp [Act.put, Array.getD_eq_getD_getElem?, hsz]⟩
    | q + 2, hj => cases hj
  case fin =>
    intro a w1 ha hP
    obtain ⟨g, u, h3, hg, hb1, hsv, hb01, h4⟩ := hP
    have e3 : a.tmps.getD 3 undef = .pointer (some ⟨g, 0, none⟩) := h3
    have e4 : a.tmps.getD 4 undef = .bool (decide (1 ≤ kind ∧ kind ≤ 5)) := h4 rfl
    simp only [List.foldl_cons, List.foldl_nil, e3, e4] at ha
    clear e3 e4
    generalize a.tmps.getD 7 undef = v7 at ha
    generalize a.tmps.getD 8 undef = v8 at ha
    generalize a.tmps.getD 9 undef = v9 at ha
    generalize a.tmps.getD 10 undef = v10 at ha
    generalize a.tmps.getD 6 undef = v6 at ha
    generalize a.tmps.getD 11 undef = v11 at ha
    generalize a.tmps.getD 12 undef = v12 at ha
    simp only [Act.put, List.setIfInBounds_toArray, List.set_cons_succ, List.set_cons_zero] at ha
    subst ha
    have HB01 := Lib.hid hb01
    have HB1 := Lib.hid (HBW.out w1 hb01)
    have HBK := Lib.hid hb1
    have HSV := Lib.hid hsv
    clear h3 h4 hg hb01 hb1 hsv
    by_cases hk : 1 ≤ kind ∧ kind ≤ 5
    rotate_left
    · rw [decide_eq_false hk]
      have HV := Lib.hid (HNK.out hk)
      clear hk
      go_wp2
      go_ret
      rw [HV.out]
      exact made_nil HB1.out
    rw [decide_eq_true hk]
    have hk1 := hk.1
    have hk5 := hk.2
    obtain ⟨x0, x1, x2, x3, x4, x5⟩ := HX.out w1 HB01.out
    cases qi with
    | false =>
      have HV := Lib.hid (HNI.out (of_decide_eq_false HQI.out))
      clear hk
      go_wp2_with fail
      refine (HWI.out w1).mono ?_
      rintro e w2 ⟨rfl, rfl⟩
      go_wp2
      go_ret
      rw [HV.out]
      exact made_nil HB1.out
    | true =>
    obtain ⟨k, rfl⟩ := Int.eq_ofNat_of_zero_le (show 0 ≤ kind by omega)
    have HKC := Lib.hid (cells_u8 k (by omega))
    have HCV := Lib.hid (fun (W : World) => show (convert 3 5 (.int .i64 (k : Int))).run Tryd.prog W = .ok (.int .u8 (k : Int)) W by
      have ek : ((k : Int) % 256) = (k : Int) := by omega
      clear HX HRS HRC HQS HQC LK LR HSV HBK
      go_simp
      rw [IntKind.wrap_u8]
      exact ek)
    by_cases hks : (k : Int) = 1
    · have hu := HSV.out.1 hks
      subst hu
      have HFT := Lib.hid (HFS.out hks)
      have HRT := Lib.hid (HTS.out hks)
      obtain ⟨RR, hRR⟩ : ∃ RR, FS = RR := ⟨_, rfl⟩
      have HRX := Lib.hid (HRS.out w1 HB1.out)
      have HCX := Lib.hid HCS.out
      rw [hRR] at HFT HRX HCX
      have HCAP := Lib.hid trivial
      clear hRR
      have c0 : w1.cell? ⟨g, 0, none⟩ = some (.func (.func 39) #[] #[]) := Blk.cell HBK.out 0
      cases RR with
      | false =>
        have HV := Lib.hid (HNF.out HFT.out)
        clear hk hks hk1 hk5
        go_wp2_with fail
        refine (HWI.out w1).mono ?_
        rintro e w2 ⟨rfl, rfl⟩
        go_wp2_with fail
        refine HRX.out.mono ?_
        rintro e w2 ⟨rfl, hb2⟩
        have HB2 := Lib.hid (HB1.out.trans (hb2.mono HB1.out.size))
        clear hb2
        go_wp2
        go_ret
        rw [HV.out]
        exact made_nil HB2.out
      | true =>
        have hkey := HFI.out hk (of_decide_eq_true HQI.out) HFT.out
        rw [Int.toNat_natCast] at hkey
        have hcls := HCX.out rfl
        have HCLS := Lib.hid hcls
        have HKEY := Lib.hid hkey
        clear hk hks hk1 hk5 hkey hcls
        go_wp2_with fail
        refine (HWI.out w1).mono ?_
        rintro e w2 ⟨rfl, rfl⟩
        go_wp2_with fail
        refine HRX.out.mono ?_
        rintro e w5 ⟨rfl, hb5⟩
        have B15 := Lib.hid hb5
        have B05 := Lib.hid (HB1.out.trans (hb5.mono HB1.out.size))
        have B005 := Lib.hid (HB01.out.trans (hb5.mono HB01.out.size))
        have LK5 := Lib.hid (fun (u : World) (h : Below w5.heap.size w5 u) => LK.out u (B005.out.trans (h.mono B005.out.size)))
        have LR5 := Lib.hid (fun (u : World) (h : Below w5.heap.size w5 u) => LR.out u (B005.out.trans (h.mono B005.out.size)))
        have LF5 := Lib.hid (fun (u : World) (h : Below w5.heap.size w5 u) => show (Instr.loadAt 32 (.pointer (some ⟨g, 1, none⟩))).run Tryd.prog u = .ok (.func (.func 40) #[] #[]) u by
          have c1 : u.cell? ⟨g, 1, none⟩ = some (.func (.func 40) #[] #[]) := Blk.cell (((B15.out.trans (h.mono B15.out.size)).block g HBK.out.lt).trans HBK.out) 1
          clear LK LR LK5 LR5
          go_simp)
        have HPS := Lib.hid (fun (u : World) (h : Below w5.heap.size w5 u) => HQS.out HCLS.out u (B05.out.trans (h.mono B05.out.size)))
        have HRL1 := HRL.out
        rw [HRT.out] at HKEY HRL1
        generalize TS = RS at *
        obtain ⟨RL, hRL⟩ : ∃ RL, RS.length = RL := ⟨_, rfl⟩
        rw [hRL] at HKEY HRL1
        have HRLE := Lib.hid hRL
        clear hRL hb5 c0 x0 x1 x2 x3 x4 x5
        go_wp2
        refine wp_late (by kernel_rfl) 42 [(28, [1]), (29, [28]), (30, [29]), (31, [30]), (32, [3]), (33, [32]), (34, [1]), (35, [33, 34]), (1008, [31, 35]), (1009, [36])]
          [Fact.is (.pointer (some ⟨w.heap.size, 0, none⟩)), Fact.is (.int .i64 (k : Int)), Fact.is (.int .u8 (k : Int)), Fact.row w.heap.size 5 1 1 (cells [UInt8.ofNat k]), Fact.is (.pointer (some ⟨g, 1, none⟩)), Fact.is (.func (.func 40) #[] #[]), Fact.is (.agg #[.int .i64 (k : Int), .int .i64 id, .int .i64 cls, .int .i64 tick, .bool pin, .slice A n cap]), Fact.own RS, default, default]
          [1, 1, 1, 1, 1, 1, 1, 1, 2, 2] [8, 9] [36, 5] [28, 29, 30, 31, 32, 33, 34, 35, 36, 5] ((fun p vs w' => Below w.heap.size w w' ∧ w'.ownsRow w.heap.size 5 1 (vs.getD 0 undef) (1 + RL) (cells [UInt8.ofNat k] ++ cells RS) ∧ (p = 2 → vs.getD 1 undef = vs.getD 0 undef)))
          (by kernel_rfl) (by kernel_rfl) rfl rfl ⟨?s0, ?s1, ?s2, ?s3, ?s4, ?s5, ?s6, ?s7, trivial⟩ ?late ?fin
        case s0 =>
          intro ρ W hb hc hf hr
          obtain ⟨r1, -⟩ := hr
          have e1 : ρ (.tmp 1) = .pointer (some ⟨w.heap.size, 0, none⟩) := r1
          clear r1
          refine under_none rfl ?_
          exact soft_field e1 rfl (fun W => by go_simp)
        case s1 =>
          intro ρ W hb hc hf hr
          obtain ⟨r28, -⟩ := hr
          have e28 : ρ (.tmp 28) = .pointer (some ⟨w.heap.size, 0, none⟩) := r28
          clear r28
          refine under_none rfl ?_
          exact soft_load e28 (LK5.out W (undrew13 hb)) rfl
        case s2 =>
          intro ρ W hb hc hf hr
          obtain ⟨r29, -⟩ := hr
          have e29 : ρ (.tmp 29) = .int .i64 (k : Int) := r29
          clear r29
          refine under_none rfl ?_
          exact soft_conv e29 (HCV.out W) rfl
        case s3 =>
          intro ρ W hb hc hf hr
          obtain ⟨r30, -⟩ := hr
          have e30 : ρ (.tmp 30) = .int .u8 (k : Int) := r30
          clear r30
          refine under_none rfl ?_
          exact soft13_build (B05.out.trans ((undrew13 hb).mono B05.out.size)).size HKC.out e30 rfl
        case s4 =>
          intro ρ W hb hc hf hr
          obtain ⟨r3, -⟩ := hr
          have e3 : ρ (.tmp 3) = .pointer (some ⟨g, 0, none⟩) := r3
          clear r3
          refine under_none rfl ?_
          exact soft_field e3 rfl (fun W => by go_simp)
        case s5 =>
          intro ρ W hb hc hf hr
          obtain ⟨r32, -⟩ := hr
          have e32 : ρ (.tmp 32) = .pointer (some ⟨g, 1, none⟩) := r32
          clear r32
          refine under_none rfl ?_
          exact soft_load e32 (LF5.out W (undrew13 hb)) rfl
        case s6 =>
          intro ρ W hb hc hf hr
          obtain ⟨r1, -⟩ := hr
          have e1 : ρ (.tmp 1) = .pointer (some ⟨w.heap.size, 0, none⟩) := r1
          clear r1
          refine under_none rfl ?_
          exact soft_load e1 (LR5.out W (undrew13 hb)) rfl
        case s7 =>
          intro ρ W hb hc hf hr
          obtain ⟨r33, r34, -⟩ := hr
          have e33 : ρ (.tmp 33) = .func (.func 40) #[] #[] := r33
          clear r33
          have e34 : ρ (.tmp 34) = .agg #[.int .i64 (k : Int), .int .i64 id, .int .i64 cls, .int .i64 tick, .bool pin, .slice A n cap] := r34
          clear r34
          refine under_none rfl ?_
          exact soft13_callV0 e34 e33 (HPS.out W (undrew13 hb)) rfl (by kernel_rfl) made_own
        case late =>
          intro p j o hj ho a W hsz h0 h1 hfr hou
          match p, hj with
          | 0, hj =>
            obtain rfl : 8 = j := Option.some.inj hj
            obtain rfl := Option.some.inj ho
            clear hj ho
            obtain ⟨hb, hhard⟩ := h0 rfl
            have r31 : (Fact.row w.heap.size 5 1 1 (cells [UInt8.ofNat k])).φ (a.tmps.getD 31 undef) W := hhard 31 3 rfl rfl
            have r35 : (Fact.own RS).φ (a.tmps.getD 35 undef) W := hhard 35 7 rfl rfl
            clear h0 h1 hhard hfr hou
            have hW := B05.out.trans ((undrew13 hb).mono B05.out.size)
            obtain ⟨B9, n9, h9⟩ := r35
            obtain ⟨A9, c9, e9, -, -, hl9, hL9⟩ := own_form h9
            rw [cells_length, HRLE.out] at hl9
            subst hl9
            obtain ⟨i0, hi, hz0, hz1, hz2⟩ := info_parts infoU8
            have e9' : a.eval (.tmp 35) = .slice A9 RL c9 := e9
            have r31' : W.ownsRow w.heap.size 5 1 (a.eval (.tmp 31)) 1 (cells [UInt8.ofNat k]) := r31
            refine late_app Tryd.underlying25 hi hz0 hz1 hz2 rfl (by decide) r31' ⟨A9, c9, e9', hL9⟩ (by rw [cells_length, HRLE.out, Nat.mul_one]) (cells_one RS) (by unfold maxLen; omega) (by omega) hW.size rfl fun v w' ho hb' => ⟨v, rfl, ?_⟩
            exact ⟨hb' w hW, by simpa [Act.put, Array.getD_eq_getD_getElem?, hsz] using ho, fun h => absurd h (by omega)⟩
          | 1, hj =>
            obtain rfl : 9 = j := Option.some.inj hj
            obtain rfl := Option.some.inj ho
            clear hj ho
            have hP := h1 (by omega)
            clear h0 h1 hfr hou
            obtain ⟨h1, h2, -⟩ := hP
            obtain ⟨v5, hv5⟩ : ∃ v, a.tmps.getD 36 undef = v := ⟨_, rfl⟩
            have h2 : W.ownsRow w.heap.size 5 1 (a.tmps.getD 36 undef) (1 + RL) (cells [UInt8.ofNat k] ++ cells RS) := h2
            rw [hv5] at h2
            have q5 : a.eval (.tmp 36) = v5 := hv5
            refine late_assign rfl q5 ⟨_, rfl, ?_⟩
            have e36 : (a.put (some 5) v5).tmps.getD 36 undef = v5 := by simpa [Act.put, Array.getD_eq_getD_getElem?, hsz] using hv5
            have e05 : (a.put (some 5) v5).tmps.getD 5 undef = v5 := by simp [Act.put, Array.getD_eq_getD_getElem?, hsz]
            have h3 : W.ownsRow w.heap.size 5 1 ((a.put (some 5) v5).tmps.getD 36 undef) (1 + RL) (cells [UInt8.ofNat k] ++ cells RS) := by rw [e36]; exact h2
            exact ⟨h1, h3, fun _ => e05.trans e36.symm⟩
          | q + 2, hj => cases hj
        case fin =>
          intro a w6 ha hP
          obtain ⟨hb6, hoX, hX⟩ := hP
          have h56 : a.tmps.getD 5 undef = a.tmps.getD 36 undef := hX rfl
          have ho6 : w6.ownsRow w.heap.size 5 1 (a.tmps.getD 36 undef) (1 + RL) (cells [UInt8.ofNat k] ++ cells RS) := hoX
          rw [← h56] at ho6
          obtain ⟨A6, c6, e5, -, -, -, -⟩ := own_form ho6
          rw [e5] at ho6
          clear h56 hoX hX
          simp only [List.foldl_cons, List.foldl_nil, e5] at ha
          clear e5
          generalize a.tmps.getD 28 undef = v28 at ha
          generalize a.tmps.getD 29 undef = v29 at ha
          generalize a.tmps.getD 30 undef = v30 at ha
          generalize a.tmps.getD 31 undef = v31 at ha
          generalize a.tmps.getD 32 undef = v32 at ha
          generalize a.tmps.getD 33 undef = v33 at ha
          generalize a.tmps.getD 34 undef = v34 at ha
          generalize a.tmps.getD 35 undef = v35 at ha
          generalize a.tmps.getD 36 undef = v36 at ha
          simp only [Act.put, List.setIfInBounds_toArray, List.set_cons_succ, List.set_cons_zero] at ha
          subst ha
          have HB6 := Lib.hid hb6
          have HO6 := Lib.hid ho6
          have HFZ := Lib.hid (fun (W : World) => fsize_any ((1 + RL : Nat) : Int) W)
          clear hb6 ho6
          obtain ⟨Z, hZ⟩ : ∃ Z, Fra.size ((1 + RL : Nat) : Int) = Z := ⟨_, rfl⟩
          rw [hZ] at HKEY HFZ
          clear hZ
          by_cases hz : Z = 0
          · subst hz
            have HV := Lib.hid (show RP = [] by have := HKEY.out; rwa [if_pos rfl] at this)
            go_wp2_with fail
            refine (HFZ.out w6).mono ?_
            rintro e w7 ⟨rfl, rfl⟩
            go_wp2
            go_ret
            rw [HV.out]
            exact made_nil HB6.out
          · have HV := Lib.hid (show RP = UInt8.ofNat k :: RS by have := HKEY.out; rwa [if_neg hz] at this)
            have dz : ((Z : Int) == 0) = false := by rw [beq_eq_false_iff_ne]; omega
            clear hz
            go_wp2_with fail
            refine (HFZ.out w6).mono ?_
            rintro e w7 ⟨rfl, rfl⟩
            go_wp2
            go_ret
            rw [HV.out]
            refine ⟨_, rfl, ?_, HB6.out⟩
            have h1 : (UInt8.ofNat k :: RS).length = 1 + RL := by rw [List.length_cons, HRLE.out]; omega
            have h2 : cells (UInt8.ofNat k :: RS) = cells [UInt8.ofNat k] ++ cells RS := by rw [← cells_append]; rfl
            rw [h1, h2]
            exact HO6.out
    · obtain ⟨gm, gn, gc, hu, hcap⟩ := HSV.out.2.1 (by omega)
      subst hu
      have HFT := Lib.hid (HFC.out hks)
      have HRT := Lib.hid (HTC.out hks)
      have HCAP := Lib.hid hcap
      have HRX := Lib.hid (HRC.out (decide ((k : Int) = 4)) gm gn gc w1 hcap)
      have HCX := Lib.hid (HCC.out (decide ((k : Int) = 4)))
      have HQX := Lib.hid (fun hc (W : World) hW => HQC.out hc (decide ((k : Int) = 4)) gm gn gc W hW)
      obtain ⟨RR, hRR⟩ : ∃ RR, FC (decide ((k : Int) = 4)) = RR := ⟨_, rfl⟩
      rw [hRR] at HFT HRX HCX
      generalize TC (decide ((k : Int) = 4)) = TX at *
      clear hcap
      clear hRR
      have c0 : w1.cell? ⟨g, 0, none⟩ = some (.func (.func 55) #[] #[.pointer (some ⟨gm, 0, none⟩)]) := Blk.cell HBK.out 0
      cases RR with
      | false =>
        have HV := Lib.hid (HNF.out HFT.out)
        clear hk hks hk1 hk5
        go_wp2_with fail
        refine (HWI.out w1).mono ?_
        rintro e w2 ⟨rfl, rfl⟩
        go_wp2_with fail
        refine HRX.out.mono ?_
        rintro e w2 ⟨rfl, hb2⟩
        have HB2 := Lib.hid (HB1.out.trans (hb2.mono HB1.out.size))
        clear hb2
        go_wp2
        go_ret
        rw [HV.out]
        exact made_nil HB2.out
      | true =>
        have hkey := HFI.out hk (of_decide_eq_true HQI.out) HFT.out
        rw [Int.toNat_natCast] at hkey
        have hcls := HCX.out rfl
        have HCLS := Lib.hid hcls
        have HKEY := Lib.hid hkey
        clear hk hks hk1 hk5 hkey hcls
        go_wp2_with fail
        refine (HWI.out w1).mono ?_
        rintro e w2 ⟨rfl, rfl⟩
        go_wp2_with fail
        refine HRX.out.mono ?_
        rintro e w5 ⟨rfl, hb5⟩
        have B15 := Lib.hid hb5
        have B05 := Lib.hid (HB1.out.trans (hb5.mono HB1.out.size))
        have B005 := Lib.hid (HB01.out.trans (hb5.mono HB01.out.size))
        have LK5 := Lib.hid (fun (u : World) (h : Below w5.heap.size w5 u) => LK.out u (B005.out.trans (h.mono B005.out.size)))
        have LR5 := Lib.hid (fun (u : World) (h : Below w5.heap.size w5 u) => LR.out u (B005.out.trans (h.mono B005.out.size)))
        have LF5 := Lib.hid (fun (u : World) (h : Below w5.heap.size w5 u) => show (Instr.loadAt 32 (.pointer (some ⟨g, 1, none⟩))).run Tryd.prog u = .ok (.func (.func 56) #[] #[.pointer (some ⟨gc, 0, none⟩)]) u by
          have c1 : u.cell? ⟨g, 1, none⟩ = some (.func (.func 56) #[] #[.pointer (some ⟨gc, 0, none⟩)]) := Blk.cell (((B15.out.trans (h.mono B15.out.size)).block g HBK.out.lt).trans HBK.out) 1
          clear LK LR LK5 LR5
          go_simp)
        have HPC := Lib.hid (fun (u : World) (h : Below w5.heap.size w5 u) => HQX.out HCLS.out u (HCAP.out.below (B15.out.trans (h.mono B15.out.size))))
        have HRL1 := HRL.out
        rw [HRT.out] at HKEY HRL1
        generalize TX = RS at *
        obtain ⟨RL, hRL⟩ : ∃ RL, RS.length = RL := ⟨_, rfl⟩
        rw [hRL] at HKEY HRL1
        have HRLE := Lib.hid hRL
        clear hRL hb5 c0 x0 x1 x2 x3 x4 x5
        go_wp2
        refine wp_late (by kernel_rfl) 42 [(28, [1]), (29, [28]), (30, [29]), (31, [30]), (32, [3]), (33, [32]), (34, [1]), (35, [33, 34]), (1008, [31, 35]), (1009, [36])]
          [Fact.is (.pointer (some ⟨w.heap.size, 0, none⟩)), Fact.is (.int .i64 (k : Int)), Fact.is (.int .u8 (k : Int)), Fact.row w.heap.size 5 1 1 (cells [UInt8.ofNat k]), Fact.is (.pointer (some ⟨g, 1, none⟩)), Fact.is (.func (.func 56) #[] #[.pointer (some ⟨gc, 0, none⟩)]), Fact.is (.agg #[.int .i64 (k : Int), .int .i64 id, .int .i64 cls, .int .i64 tick, .bool pin, .slice A n cap]), Fact.own RS, default, default]
          [1, 1, 1, 1, 1, 1, 1, 1, 2, 2] [8, 9] [36, 5] [28, 29, 30, 31, 32, 33, 34, 35, 36, 5] ((fun p vs w' => Below w.heap.size w w' ∧ w'.ownsRow w.heap.size 5 1 (vs.getD 0 undef) (1 + RL) (cells [UInt8.ofNat k] ++ cells RS) ∧ (p = 2 → vs.getD 1 undef = vs.getD 0 undef)))
          (by kernel_rfl) (by kernel_rfl) rfl rfl ⟨?s0, ?s1, ?s2, ?s3, ?s4, ?s5, ?s6, ?s7, trivial⟩ ?late ?fin
        case s0 =>
          intro ρ W hb hc hf hr
          obtain ⟨r1, -⟩ := hr
          have e1 : ρ (.tmp 1) = .pointer (some ⟨w.heap.size, 0, none⟩) := r1
          clear r1
          refine under_none rfl ?_
          exact soft_field e1 rfl (fun W => by go_simp)
        case s1 =>
          intro ρ W hb hc hf hr
          obtain ⟨r28, -⟩ := hr
          have e28 : ρ (.tmp 28) = .pointer (some ⟨w.heap.size, 0, none⟩) := r28
          clear r28
          refine under_none rfl ?_
          exact soft_load e28 (LK5.out W (undrew13 hb)) rfl
        case s2 =>
          intro ρ W hb hc hf hr
          obtain ⟨r29, -⟩ := hr
          have e29 : ρ (.tmp 29) = .int .i64 (k : Int) := r29
          clear r29
          refine under_none rfl ?_
          exact soft_conv e29 (HCV.out W) rfl
        case s3 =>
          intro ρ W hb hc hf hr
          obtain ⟨r30, -⟩ := hr
          have e30 : ρ (.tmp 30) = .int .u8 (k : Int) := r30
          clear r30
          refine under_none rfl ?_
          exact soft13_build (B05.out.trans ((undrew13 hb).mono B05.out.size)).size HKC.out e30 rfl
        case s4 =>
          intro ρ W hb hc hf hr
          obtain ⟨r3, -⟩ := hr
          have e3 : ρ (.tmp 3) = .pointer (some ⟨g, 0, none⟩) := r3
          clear r3
          refine under_none rfl ?_
          exact soft_field e3 rfl (fun W => by go_simp)
        case s5 =>
          intro ρ W hb hc hf hr
          obtain ⟨r32, -⟩ := hr
          have e32 : ρ (.tmp 32) = .pointer (some ⟨g, 1, none⟩) := r32
          clear r32
          refine under_none rfl ?_
          exact soft_load e32 (LF5.out W (undrew13 hb)) rfl
        case s6 =>
          intro ρ W hb hc hf hr
          obtain ⟨r1, -⟩ := hr
          have e1 : ρ (.tmp 1) = .pointer (some ⟨w.heap.size, 0, none⟩) := r1
          clear r1
          refine under_none rfl ?_
          exact soft_load e1 (LR5.out W (undrew13 hb)) rfl
        case s7 =>
          intro ρ W hb hc hf hr
          obtain ⟨r33, r34, -⟩ := hr
          have e33 : ρ (.tmp 33) = .func (.func 56) #[] #[.pointer (some ⟨gc, 0, none⟩)] := r33
          clear r33
          have e34 : ρ (.tmp 34) = .agg #[.int .i64 (k : Int), .int .i64 id, .int .i64 cls, .int .i64 tick, .bool pin, .slice A n cap] := r34
          clear r34
          refine under_none rfl ?_
          exact soft13_callV1 e34 e33 (HPC.out W (undrew13 hb)) rfl (by kernel_rfl) made_own
        case late =>
          intro p j o hj ho a W hsz h0 h1 hfr hou
          match p, hj with
          | 0, hj =>
            obtain rfl : 8 = j := Option.some.inj hj
            obtain rfl := Option.some.inj ho
            clear hj ho
            obtain ⟨hb, hhard⟩ := h0 rfl
            have r31 : (Fact.row w.heap.size 5 1 1 (cells [UInt8.ofNat k])).φ (a.tmps.getD 31 undef) W := hhard 31 3 rfl rfl
            have r35 : (Fact.own RS).φ (a.tmps.getD 35 undef) W := hhard 35 7 rfl rfl
            clear h0 h1 hhard hfr hou
            have hW := B05.out.trans ((undrew13 hb).mono B05.out.size)
            obtain ⟨B9, n9, h9⟩ := r35
            obtain ⟨A9, c9, e9, -, -, hl9, hL9⟩ := own_form h9
            rw [cells_length, HRLE.out] at hl9
            subst hl9
            obtain ⟨i0, hi, hz0, hz1, hz2⟩ := info_parts infoU8
            have e9' : a.eval (.tmp 35) = .slice A9 RL c9 := e9
            have r31' : W.ownsRow w.heap.size 5 1 (a.eval (.tmp 31)) 1 (cells [UInt8.ofNat k]) := r31
            refine late_app Tryd.underlying25 hi hz0 hz1 hz2 rfl (by decide) r31' ⟨A9, c9, e9', hL9⟩ (by rw [cells_length, HRLE.out, Nat.mul_one]) (cells_one RS) (by unfold maxLen; omega) (by omega) hW.size rfl fun v w' ho hb' => ⟨v, rfl, ?_⟩
            exact ⟨hb' w hW, by simpa [Act.put, Array.getD_eq_getD_getElem?, hsz] using ho, fun h => absurd h (by omega)⟩
          | 1, hj =>
            obtain rfl : 9 = j := Option.some.inj hj
            obtain rfl := Option.some.inj ho
            clear hj ho
            have hP := h1 (by omega)
            clear h0 h1 hfr hou
            obtain ⟨h1, h2, -⟩ := hP
            obtain ⟨v5, hv5⟩ : ∃ v, a.tmps.getD 36 undef = v := ⟨_, rfl⟩
            have h2 : W.ownsRow w.heap.size 5 1 (a.tmps.getD 36 undef) (1 + RL) (cells [UInt8.ofNat k] ++ cells RS) := h2
            rw [hv5] at h2
            have q5 : a.eval (.tmp 36) = v5 := hv5
            refine late_assign rfl q5 ⟨_, rfl, ?_⟩
            have e36 : (a.put (some 5) v5).tmps.getD 36 undef = v5 := by simpa [Act.put, Array.getD_eq_getD_getElem?, hsz] using hv5
            have e05 : (a.put (some 5) v5).tmps.getD 5 undef = v5 := by simp [Act.put, Array.getD_eq_getD_getElem?, hsz]
            have h3 : W.ownsRow w.heap.size 5 1 ((a.put (some 5) v5).tmps.getD 36 undef) (1 + RL) (cells [UInt8.ofNat k] ++ cells RS) := by rw [e36]; exact h2
            exact ⟨h1, h3, fun _ => e05.trans e36.symm⟩
          | q + 2, hj => cases hj
        case fin =>
          intro a w6 ha hP
          obtain ⟨hb6, hoX, hX⟩ := hP
          have h56 : a.tmps.getD 5 undef = a.tmps.getD 36 undef := hX rfl
          have ho6 : w6.ownsRow w.heap.size 5 1 (a.tmps.getD 36 undef) (1 + RL) (cells [UInt8.ofNat k] ++ cells RS) := hoX
          rw [← h56] at ho6
          obtain ⟨A6, c6, e5, -, -, -, -⟩ := own_form ho6
          rw [e5] at ho6
          clear h56 hoX hX
          simp only [List.foldl_cons, List.foldl_nil, e5] at ha
          clear e5
          generalize a.tmps.getD 28 undef = v28 at ha
          generalize a.tmps.getD 29 undef = v29 at ha
          generalize a.tmps.getD 30 undef = v30 at ha
          generalize a.tmps.getD 31 undef = v31 at ha
          generalize a.tmps.getD 32 undef = v32 at ha
          generalize a.tmps.getD 33 undef = v33 at ha
          generalize a.tmps.getD 34 undef = v34 at ha
          generalize a.tmps.getD 35 undef = v35 at ha
          generalize a.tmps.getD 36 undef = v36 at ha
          simp only [Act.put, List.setIfInBounds_toArray, List.set_cons_succ, List.set_cons_zero] at ha
          subst ha
          have HB6 := Lib.hid hb6
          have HO6 := Lib.hid ho6
          have HFZ := Lib.hid (fun (W : World) => fsize_any ((1 + RL : Nat) : Int) W)
          clear hb6 ho6
          obtain ⟨Z, hZ⟩ : ∃ Z, Fra.size ((1 + RL : Nat) : Int) = Z := ⟨_, rfl⟩
          rw [hZ] at HKEY HFZ
          clear hZ
          by_cases hz : Z = 0
          · subst hz
            have HV := Lib.hid (show RP = [] by have := HKEY.out; rwa [if_pos rfl] at this)
            go_wp2_with fail
            refine (HFZ.out w6).mono ?_
            rintro e w7 ⟨rfl, rfl⟩
            go_wp2
            go_ret
            rw [HV.out]
            exact made_nil HB6.out
          · have HV := Lib.hid (show RP = UInt8.ofNat k :: RS by have := HKEY.out; rwa [if_neg hz] at this)
            have dz : ((Z : Int) == 0) = false := by rw [beq_eq_false_iff_ne]; omega
            clear hz
            go_wp2_with fail
            refine (HFZ.out w6).mono ?_
            rintro e w7 ⟨rfl, rfl⟩
            go_wp2
            go_ret
            rw [HV.out]
            refine ⟨_, rfl, ?_, HB6.out⟩
            have h1 : (UInt8.ofNat k :: RS).length = 1 + RL := by rw [List.length_cons, HRLE.out]; omega
            have h2 : cells (UInt8.ofNat k :: RS) = cells [UInt8.ofNat k] ++ cells RS := by rw [← cells_append]; rfl
            rw [h1, h2]
            exact HO6.out
end Go.Proofs.YtdfeccmcefcpbaaDoor

