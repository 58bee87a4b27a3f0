/-
  Layer 14: turntableref05.SameBrief of any numbers, turntableref14.SameEntry, and its own: what these answer, of any entries. Assumed: that their services lie in memory, and that there are at most 9000.
-/
import Derived.Test.YtcoedohfggeaiaaEnA

namespace Go.Proofs.Ytcoedohfggeaiaa
open Go.RowKit Go.Maps En
set_option maxRecDepth 100000

/-- what is weighed of it -/
def itemE (x : E) : Plain.It := ⟨x.id, x.cl, x.tick, x.cost, x.pin⟩
theorem two_boxes (w : World) (x y : E) (s t : Value) : ∃ W, (w.alloc (.cells (enA x s) 29)).alloc (.cells (enA y t) 29) = W ∧ BoxE W w.heap.size x s ∧ BoxE W (w.heap.size + 1) y t ∧ Below w.heap.size w W ∧ W.heap.size = w.heap.size + 2 := by
  refine ⟨_, rfl, (BoxE.new w x s).below ((Below.refl _ _).alloc (Nat.le_refl _) _), ?_, ((Below.refl _ _).alloc (Nat.le_refl _) _).alloc (by simp) _, by simp⟩
  have := BoxE.new (w.alloc (.cells (enA x s) 29)) y t
  rwa [World.size_alloc] at this

end Go.Proofs.Ytcoedohfggeaiaa
