/-
  Layer 15, the developers' query answers as the document says: QueryOk. Nothing is assumed.
-/
import Derived.Test.YtcoedohfggeaiaaQyN
import Derived.Test.YtcoedohfggeaiaaQyO

namespace Go.Proofs.Ytcoedohfggeaiaa
open Go.RowKit Go.Maps En Qy
set_option maxRecDepth 100000

set_option maxHeartbeats 8000000 in
theorem next15_no (A : Option Addr) (n cap : Nat) (l : List E) (qa : Qy.A) (w : World) (hl : qa.lim < 1) :
    Calls Try.prog 11 #[.slice A n cap, .agg (askA qa)] w fun e w' => e = .returned (.tuple #[.agg (askA (next l qa)), .bool (more l qa)]) ∧ Below w.heap.size w w' := by
  have hm : more l qa = false := by unfold more; rw [decide_eq_false_iff_not]; omega
  rw [next_zero _ _ hm, hm]
  have t1 : decide (qa.lim < 1) = true := by simpa using hl
  have HB3 := Lib.hid (show Below w.heap.size w (((w.alloc (.cells (askA qa) 31)).alloc (.cells (askA Qy.A.zero) 31)).alloc (.cells #[.bool false] 4)) from (((Below.refl _ _).alloc (Nat.le_refl _) _).alloc (by simp) _).alloc (by simp; omega) _)
  unfold askA at *
  simp only [Qy.A.zero, show str [] = ({ data := #[] } : ByteArray) from rfl] at HB3
  clear hm hl
  go_enter Try.func11, Try.ntmps11
  go_wp2
  go_returns
  exact ⟨rfl, HB3.out⟩

theorem queryOk : QueryOk := ⟨fun e A n c a w hn hS => fits15_any e A n c a w hn hS, fun A n cap ts a w h => run15_any A n cap ts a w h, fun A n cap ts a w h => by
  by_cases hl : a.lim < 1
  · exact next15_no A n cap _ a w hl
  · exact next15_yes A n cap ts a w h hl⟩
end Go.Proofs.Ytcoedohfggeaiaa
