/-
  Layer 4: batch.decode and batch.Get: what they answer, of any bytes. Assumed: that the bytes lie in memory, that the program's table of sums holds what its text lays there, and that errors.errorType is what its own text lays.
-/
import Derived.Test.YthcchfhkeghkhaaBatB
import Derived.Test.YthcchfhkeghkhaaBatA
import Derived.Test.YthcchfhkeghkhaaSpanO
namespace Go.Proofs.Ythcchfhkeghkhaa
open Go.RowKit
set_option maxRecDepth 100000

theorem GivesS.from {w w1 w2 : World} {l : List Plain.Sp} {v : Value} (h : GivesS w1 w2 l v) (hb : Below w.heap.size w w1) : GivesS w w2 l v := by
  obtain ⟨A, cap, e, h1, h2, h3, h4⟩ := h
  exact ⟨A, cap, e, h1, h2, h3, hb.trans (h4.mono hb.size)⟩
theorem hd_small (x : List UInt8) : (Plain.hd x).1 ≤ 256 ∧ (Plain.hd x).2.1 ≤ x.length := by
  have hsm := Plain.get_small (x.drop 2)
  rw [List.length_drop] at hsm
  unfold Plain.hd
  split
  · simp
  rename_i h1
  have h2 : 2 ≤ x.length := by
    have h1' : x.take 2 = [84, 66] := by simpa using h1
    have := congrArg List.length h1'
    rw [List.length_take] at this
    simp at this; omega
  split
  · simp
  split
  · simp
  · simp only; omega

/-- what Get hands back -/
def GetPost (w : World) (r : List Plain.Sp × Nat × Nat) (e : Ending) (w' : World) : Prop := ∃ v, e = .returned (.tuple #[v, .int .i64 r.2.1, .int .i64 r.2.2]) ∧ GivesS w w' r.1 v

end Go.Proofs.Ythcchfhkeghkhaa

