/-
  The steps of a statement whose order is open, by kind: calls of one or two arguments, conversions of bytes to text. Nothing is assumed.
-/
import Derived.Test.YtiipcnldedjkdaaDoorSoft
import Derived.Test.YtiipcnldedjkdaaDoorMem
namespace Go.Proofs.YtiipcnldedjkdaaDoor
open Go.RowKit

theorem own_keep {w w' : World} {B n : Nat} {v : Value} {e : TypeId} {xs : List Value} (h : w.ownsRow B e 1 v n xs) (hb : Below w.heap.size w w') : w'.ownsRow B e 1 v n xs :=
  h.kept (row := none) ⟨hb.os, hb.tape, hb.output, hb.size, fun k hk _ => hb.block k hk⟩ (by cases hv : v.ownBlock <;> simp)
/-- memory of one's own that holds just these bytes -/
def Fact.own (T : List UInt8) : Fact := ⟨fun v w => ∃ B n, w.ownsRow B 5 1 v n (cells T), fun _ _ _ ⟨B, n, h⟩ hb => ⟨B, n, own_keep h hb⟩⟩
/-- a slice that reads as these bytes -/
def Fact.lies (T : List UInt8) (n : Nat) : Fact := ⟨fun v w => ∃ A c, v = .slice A n c ∧ Lies w A (cells T), fun _ _ _ ⟨A, c, e, h⟩ hb => ⟨A, c, e, h.below hb⟩⟩

/-- a function with a body is entered -/
theorem enters {P : Program} {f : FuncId} (h : (P.funcs[f]?).map (fun fn => (fn.name == "runtime.NumGoroutine", fn.body.isNone)) = some (false, false)) (args : Array Value) (w : World) : (callFunc f args).run P w = .ok (.enter f args) w := by
  obtain ⟨fn, hf, he⟩ := Option.map_eq_some_iff.1 h
  simp only [Prod.mk.injEq] at he
  have h1 : fn.name ≠ "runtime.NumGoroutine" := by simpa using he.1
  simp [callFunc, hf, h1]
  intro hb
  rw [hb] at he
  simp at he

theorem soft_call1 {P : Program} {w : World} {F : Fact} {ρ : Operand → Value} {o : Oper} {x : Operand} {f : FuncId} {ats : Array TypeId} {vx : Value} {R : Ending → World → Prop}
    (hf : ∀ f, ρ (.func f) = .func (.func f) #[] #[]) (hx : ρ x = vx) (hc : Calls P f #[vx] w R) (ho : o.op = .call { callee := .value (.func f), args := #[x], argTypes := ats })
    (hfn : (P.funcs[f]?).map (fun fn => (fn.name == "runtime.NumGoroutine", fn.body.isNone)) = some (false, false)) (hR : ∀ e w', R e w' → ∃ v, e = .returned v ∧ F.φ v w' ∧ Below w.heap.size w w') : softUpon P w F ((execOp ρ o).run P w) := by
  have e : (execOp ρ o).run P w = .ok (.enter f #[vx]) w := by
    simp [execOp, ho, resolve, invoke, hf, hx, Deferred.ofValue, go_sem, enters hfn]
  rw [e]
  exact ⟨rfl, hc.mono hR⟩
theorem soft_call2 {P : Program} {w : World} {F : Fact} {ρ : Operand → Value} {o : Oper} {x y : Operand} {f : FuncId} {ats : Array TypeId} {vx vy : Value} {R : Ending → World → Prop}
    (hf : ∀ f, ρ (.func f) = .func (.func f) #[] #[]) (hx : ρ x = vx) (hy : ρ y = vy) (hc : Calls P f #[vx, vy] w R) (ho : o.op = .call { callee := .value (.func f), args := #[x, y], argTypes := ats })
    (hfn : (P.funcs[f]?).map (fun fn => (fn.name == "runtime.NumGoroutine", fn.body.isNone)) = some (false, false)) (hR : ∀ e w', R e w' → ∃ v, e = .returned v ∧ F.φ v w' ∧ Below w.heap.size w w') : softUpon P w F ((execOp ρ o).run P w) := by
  have e : (execOp ρ o).run P w = .ok (.enter f #[vx, vy]) w := by
    simp [execOp, ho, resolve, invoke, hf, hx, hy, Deferred.ofValue, go_sem, enters hfn]
  rw [e]
  exact ⟨rfl, hc.mono hR⟩
theorem under_none {ops : Array Oper} {ρ : Operand → Value} {o : Oper} {yes no : Prop} (h : o.guard = none) (hy : yes) : Under ops ρ o yes no := by unfold Under; rw [h]; exact hy
theorem soft_conv {P : Program} {w : World} {ρ : Operand → Value} {o : Oper} {x : Operand} {s d : TypeId} {vx u : Value} (hx : ρ x = vx) (hr : (convert s d vx).run P w = .ok u w) (ho : o.op = .convert s d x) : softUpon P w (Fact.is u) ((execOp ρ o).run P w) := by
  have e : (execOp ρ o).run P w = .ok (.value u) w := by
    simp [execOp, ho, hx, hr]
  rw [e]
  exact ⟨rfl, Below.refl _ _⟩
theorem soft_own {w : World} {ρ : Operand → Value} {o : Oper} {x : Operand} {T : List UInt8} (h : (Fact.own T).φ (ρ x) w) (ho : o.op = .convert 24 9 x) : softUpon Tryd.prog w (Fact.is (.string (str T))) ((execOp ρ o).run Tryd.prog w) := by
  obtain ⟨B, n, h⟩ := h
  exact soft_conv rfl (own_str h 24 Tryd.underlying24 Tryd.underlying5 9 Tryd.underlying9) ho
theorem soft_slice {P : Program} {w : World} {ρ : Operand → Value} {o : Oper} {x y : Operand} {t : TypeId} {vx vy u : Value} (hx : ρ x = vx) (hy : ρ y = vy) (hr : (Instr.sliceAt t vx none (some vy) none).run P w = .ok u w) (ho : o.op = .slice t x none (some y) none) : softUpon P w (Fact.is u) ((execOp ρ o).run P w) := by
  have e : (execOp ρ o).run P w = .ok (.value u) w := by
    simp [execOp, ho, hx, hy, hr]
  rw [e]
  exact ⟨rfl, Below.refl _ _⟩
/-- an operation on two values -/
theorem soft_bin {P : Program} {w : World} {ρ : Operand → Value} {o : Oper} {x y : Operand} {b : BinOp} {t yt : TypeId} {vx vy u : Value} (hx : ρ x = vx) (hy : ρ y = vy) (ho : o.op = .binOp b t x y yt) (hg : eqGuard b t x y vx vy = pure ()) (hr : (binOp b t vx vy).run P w = .ok u w) : softUpon P w (Fact.is u) ((execOp ρ o).run P w) := by
  have e : (execOp ρ o).run P w = .ok (.value u) w := by
    simp [execOp, ho, hx, hy, hg, hr]
  rw [e]
  exact ⟨rfl, Below.refl _ _⟩
/-- a contract that makes bytes -/
theorem made_own {w : World} {T : List UInt8} : ∀ e w', Made w T e w' → ∃ v, e = .returned v ∧ (Fact.own T).φ v w' ∧ Below w.heap.size w w' := fun _ _ ⟨v, he, ho, hb⟩ => ⟨v, he, ⟨_, _, ho⟩, hb⟩
/-- a contract that leaves the world alone -/
theorem same_is {w : World} {c : Value} : ∀ (e : Ending) (w' : World), (e = .returned c ∧ w = w') → ∃ v, e = .returned v ∧ (Fact.is c).φ v w' ∧ Below w.heap.size w w' := fun _ _ ⟨he, hw⟩ => ⟨c, he, rfl, hw ▸ Below.refl _ _⟩
theorem below_is {w : World} {c : Value} : ∀ (e : Ending) (w' : World), (e = .returned c ∧ Below w.heap.size w w') → ∃ v, e = .returned v ∧ (Fact.is c).φ v w' ∧ Below w.heap.size w w' := fun _ _ ⟨he, hb⟩ => ⟨c, he, rfl, hb⟩
end Go.Proofs.YtiipcnldedjkdaaDoor
