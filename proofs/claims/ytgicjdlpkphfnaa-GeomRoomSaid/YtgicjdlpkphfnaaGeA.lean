/-
  Layer 17: what the package that is proved (geom) must answer (GeomOk: shown of the developers' own in another text); Room of tape, the document's and the developers'. Nothing is assumed.
-/
import Derived.Test.YtgicjdlpkphfnaaMath17
import Derived.Test.YtgicjdlpkphfnaaTabW
import Derived.Test.YtgicjdlpkphfnaaGen
import Derived.BigQuiet

namespace Go.Proofs.Ytgicjdlpkphfnaa
open Go.RowKit Go.Maps
set_option maxRecDepth 100000

/-- the first table -/
def blank17 (g : Ge.G) : Tb.T := if Ge.right g then ⟨1, -1, List.replicate g.E.toNat ⟨0, 0⟩⟩ else ⟨0, 0, []⟩
/-- a table that was handed back -/
def Gives17 (w w' : World) (t : Tb.T) (e : Ending) : Prop := ∃ A cap, e = .returned (tabV t.gen t.opn A t.xs.length cap) ∧ t.xs.length ≤ cap ∧ cap ≤ maxLen ∧ Lies w' A (flatX t.xs) ∧ Below w.heap.size w w'
structure GeomOk : Prop where
  right : ∀ (g : Ge.G) (w : World), Calls Try.prog 9 #[.agg #[.int .i64 g.E, .int .i64 g.S, .int .i64 g.M]] w fun e w' => e = .returned (.bool (Ge.right g)) ∧ Below w.heap.size w w'
  size : ∀ (g : Ge.G) (w : World), Calls Try.prog 11 #[.agg #[.int .i64 g.E, .int .i64 g.S, .int .i64 g.M]] w fun e w' => e = .returned (.int .i64 (Ge.size g)) ∧ Below w.heap.size w w'
  first : ∀ (g : Ge.G) (i : Int) (w : World), Calls Try.prog 13 #[.agg #[.int .i64 g.E, .int .i64 g.S, .int .i64 g.M], .int .i64 i] w fun e w' => e = .returned (.int .i64 (Ge.first g i)) ∧ Below w.heap.size w w'
  room : ∀ (g : Ge.G) (w : World), Calls Try.prog 15 #[.agg #[.int .i64 g.E, .int .i64 g.S, .int .i64 g.M]] w fun e w' => e = .returned (.int .i64 (Ge.room g)) ∧ Below w.heap.size w w'
  budget : ∀ (g : Ge.G) (w : World), Calls Try.prog 17 #[.agg #[.int .i64 g.E, .int .i64 g.S, .int .i64 g.M]] w fun e w' => e = .returned (.int .i64 (Ge.budget g)) ∧ Below w.heap.size w w'
  blank : ∀ (g : Ge.G) (w : World), Calls Try.prog 20 #[.agg #[.int .i64 g.E, .int .i64 g.S, .int .i64 g.M]] w fun e w' => Gives17 w w' (blank17 g) e

theorem room11_any (S : Int) (w : World) : Calls Try.prog 23 #[.int .i64 S] w fun e w' => e = .returned (.int .i64 (Ge.tapeRoom S)) ∧ w' = w := by
  by_cases h1 : S < 1
  · have hr := Lib.hid (show Ge.tapeRoom S = 0 by unfold Ge.tapeRoom; rw [if_pos (.inl h1)])
    go_enter Try.func23, Try.ntmps23
    go_wp2
    go_ret
    rw [hr.out]; exact ⟨rfl, rfl⟩
  · by_cases h2 : 64 < S
    · have hr := Lib.hid (show Ge.tapeRoom S = 0 by unfold Ge.tapeRoom; rw [if_pos (.inr h2)])
      go_enter Try.func23, Try.ntmps23
      go_wp2
      go_ret
      rw [hr.out]; exact ⟨rfl, rfl⟩
    · have hr := Lib.hid (show Ge.tapeRoom S = 57 * S by unfold Ge.tapeRoom; rw [if_neg (by omega)])
      have hw : IntKind.i64.wrap (57 * S) = 57 * S := by simp [IntKind.wrap, IntKind.bits, IntKind.signed]; omega
      go_enter Try.func23, Try.ntmps23
      go_wp2
      go_ret
      rw [hr.out]; exact ⟨rfl, rfl⟩
theorem rroom11_any (S : Int) (w : World) : Calls Try.prog 24 #[.int .i64 S] w fun e w' => e = .returned (.int .i64 (Ge.tapeRoom S)) ∧ w' = w := by
  by_cases h1 : S < 1
  · have hr := Lib.hid (show Ge.tapeRoom S = 0 by unfold Ge.tapeRoom; rw [if_pos (.inl h1)])
    go_enter Try.func24, Try.ntmps24
    go_wp2
    go_ret
    rw [hr.out]; exact ⟨rfl, rfl⟩
  · by_cases h2 : 64 < S
    · have hr := Lib.hid (show Ge.tapeRoom S = 0 by unfold Ge.tapeRoom; rw [if_pos (.inr h2)])
      go_enter Try.func24, Try.ntmps24
      go_wp2
      go_ret
      rw [hr.out]; exact ⟨rfl, rfl⟩
    · have hr := Lib.hid (show Ge.tapeRoom S = 57 * S by unfold Ge.tapeRoom; rw [if_neg (by omega)])
      have hw : IntKind.i64.wrap (57 * S) = 57 * S := by simp [IntKind.wrap, IntKind.bits, IntKind.signed]; omega
      go_enter Try.func24, Try.ntmps24
      go_wp2
      go_ret
      rw [hr.out]; exact ⟨rfl, rfl⟩
end Go.Proofs.Ytgicjdlpkphfnaa
