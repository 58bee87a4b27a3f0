/-
  Layer 9: Order's comparing: what it answers, of any two places of a table that lies in memory. Nothing else is assumed.
-/
import Derived.Test.YtbjaieopjkbijaaDoorTbO
import Derived.BigQuiet

namespace Go.Proofs.YtbjaieopjkbijaaDoor
open Go.RowKit
set_option maxRecDepth 100000

def cmpQ (a b : Int) : Int := if a < b then -1 else if b < a then 1 else 0
theorem nan_any (a : Int) (w : World) : Calls Tryd.prog 57 #[.int .i64 a] w fun e w' => e = .returned (.bool false) ∧ w = w' := by
  go_enter Tryd.func57, Tryd.ntmps57
  go_wp2
  go_ret
  exact ⟨rfl, rfl⟩
theorem compareL_any (a b : Int) (w : World) : Calls Tryd.prog 44 #[.int .i64 a, .int .i64 b] w fun e w' => e = .returned (.int .i64 (cmpQ a b)) ∧ w = w' := by
  unfold cmpQ
  by_cases h1 : a < b
  · rw [if_pos h1]
    go_enter Tryd.func44, Tryd.ntmps44
    go_wp2_with fail
    refine (nan_any a _).mono ?_
    rintro e w1 ⟨rfl, rfl⟩
    go_wp2_with fail
    refine (nan_any b _).mono ?_
    rintro e w1 ⟨rfl, rfl⟩
    go_wp2
    go_ret
    exact ⟨rfl, rfl⟩
  · rw [if_neg h1]
    by_cases h2 : b < a
    · rw [if_pos h2]
      go_enter Tryd.func44, Tryd.ntmps44
      go_wp2_with fail
      refine (nan_any a _).mono ?_
      rintro e w1 ⟨rfl, rfl⟩
      go_wp2_with fail
      refine (nan_any b _).mono ?_
      rintro e w1 ⟨rfl, rfl⟩
      go_wp2
      go_ret
      exact ⟨rfl, rfl⟩
    · rw [if_neg h2]
      go_enter Tryd.func44, Tryd.ntmps44
      go_wp2_with fail
      refine (nan_any a _).mono ?_
      rintro e w1 ⟨rfl, rfl⟩
      go_wp2_with fail
      refine (nan_any b _).mono ?_
      rintro e w1 ⟨rfl, rfl⟩
      go_wp2
      go_ret
      exact ⟨rfl, rfl⟩

set_option maxHeartbeats 2000000 in
theorem order2_any (g n cap i j : Nat) (hi : i < n) (hj : j < n) (ad : Addr) (qi qj : Int) (W : World) (h2 : W.cell? ⟨g, 2, none⟩ = some (.slice (some ad) n cap)) (xi : W.cell? (ad.add (i * 2)) = some (.int .i64 qi)) (xj : W.cell? (ad.add (j * 2)) = some (.int .i64 qj)) :
    Calls Tryd.prog 43 #[.int .i64 (i : Int), .int .i64 (j : Int), .pointer (some ⟨g, 0, none⟩)] W fun e w' => e = .returned (.int .i64 (cmpQ qi qj)) ∧ ∃ k, w' = W.drewN k := by
  have HC := Lib.hid (fun (V : World) => (compareL_any qi qj V).mono (R' := fun e w' => e = .returned (.int .i64 (cmpQ qi qj)) ∧ ∃ q, w' = V.drewN q) fun _ _ h => ⟨h.1, 0, h.2.symm⟩)
  generalize cmpQ qi qj = C at *
  go_enter Tryd.func43, Tryd.ntmps43
  go_wp2_with fail
  go_quiet (refine Calls.quiet_of (HC.out _))
  go_wp2_with fail
  go_ret
  exact ⟨rfl, nq, rfl⟩
end Go.Proofs.YtbjaieopjkbijaaDoor
