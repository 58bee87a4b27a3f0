/-
  Layer 9: a table that the laws begin with, and what table's functions answer, in the form that the laws use. Nothing is assumed but what each theorem says.
-/
import Derived.Test.YtgicjdlpkphfnaaTabW

namespace Go.Proofs.Ytgicjdlpkphfnaa
open Go.RowKit
set_option maxRecDepth 100000

def xs0 : List Tb.Ext := [⟨5, 300⟩, ⟨0, 0⟩, ⟨6, 0⟩, ⟨0, 0⟩]
def t0 : Tb.T := ⟨3, 2, xs0⟩
theorem t0_right : Tb.right ⟨3, 2, xs0⟩ = true := by decide
theorem t0_ord : Tb.ord xs0 = [0, 2] := by
  refine (Tb.ord_uniq (Tb.right_iff.1 t0_right).ap ?_ ?_).symm
  · rw [show Tb.used xs0 = [0, 2] by decide]
  · decide
theorem t0_free : Tb.free xs0 = [1, 3] := by decide
theorem t0_last : Tb.last xs0 = 6 := by decide
theorem zeros_no : Tb.ok (List.replicate 64 0) = false := by
  cases ho : Tb.ok (List.replicate 64 0) with
  | false => rfl
  | true =>
    have h := (Tb.ok_back ho).1
    rw [show Tb.right (Tb.told (List.replicate 64 0)) = false by decide] at h
    cases h

theorem rsame_is (g o : Int) (A : Option Addr) (cap n : Nat) (xs : List Tb.Ext) (g2 o2 : Int) (D : Option Addr) (dap m : Nat) (ys : List Tb.Ext) (w : World) (R : Bool) (hn : xs.length = n) (hm : ys.length = m) (hn9 : n ≤ 1000) (hA : Lies w A (flatX xs)) (hD : Lies w D (flatX ys)) (hR : decide ((⟨g, o, xs⟩ : Tb.T) = ⟨g2, o2, ys⟩) = R) :
    Calls Try.prog 19 #[tabV g o A n cap, tabV g2 o2 D m dap] w fun e w' => e = .returned (.bool R) ∧ Below w.heap.size w w' := by
  subst hR; exact rsame_any g o A cap n xs g2 o2 D dap m ys w hn hm hn9 hA hD

end Go.Proofs.Ytgicjdlpkphfnaa
