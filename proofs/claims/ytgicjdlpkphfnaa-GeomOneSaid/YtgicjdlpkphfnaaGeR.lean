/-
  Layer 17, the document's answer: Right, Size, First, Room, Budget, Blank: what they answer, of any use. Nothing is assumed.
-/
import Derived.Test.YtgicjdlpkphfnaaGeA
import Derived.BigQuiet
import Derived.BigRegion
import Derived.Deep.CutRange

namespace Go.Proofs.Ytgicjdlpkphfnaa
open Go.RowKit Go.Maps
set_option maxRecDepth 100000

set_option maxHeartbeats 4000000 in
theorem rright17_any (g : Ge.G) (w : World) : Calls Try.prog 10 #[.agg #[.int .i64 g.E, .int .i64 g.S, .int .i64 g.M]] w fun e w' => e = .returned (.bool (Ge.right g)) ∧ Below w.heap.size w w' := by
  have hb := Blk.new w #[.int .i64 g.E, .int .i64 g.S, .int .i64 g.M] 23
  have HB := Lib.hid (show Below w.heap.size w (w.alloc (.cells #[.int .i64 g.E, .int .i64 g.S, .int .i64 g.M] 23)) from (Below.refl _ _).alloc (Nat.le_refl _) _)
  have x0 : (w.alloc (.cells #[.int .i64 g.E, .int .i64 g.S, .int .i64 g.M] 23)).cell? ⟨w.heap.size, 0, none⟩ = some (.int .i64 g.E) := hb.cell 0
  have x1 : (w.alloc (.cells #[.int .i64 g.E, .int .i64 g.S, .int .i64 g.M] 23)).cell? ⟨w.heap.size, 1, none⟩ = some (.int .i64 g.S) := hb.cell 1
  have x2 : (w.alloc (.cells #[.int .i64 g.E, .int .i64 g.S, .int .i64 g.M] 23)).cell? ⟨w.heap.size, 2, none⟩ = some (.int .i64 g.M) := hb.cell 2
  obtain ⟨wa, hwa⟩ : ∃ wa, w.alloc (.cells #[.int .i64 g.E, .int .i64 g.S, .int .i64 g.M] 23) = wa := ⟨_, rfl⟩
  rw [hwa] at x0 x1 x2 HB
  have HW := Lib.hid hwa
  have HRM := Lib.hid (fun (W : World) => rroom11_any g.S W)
  have HT := Lib.hid (Ge.right_tape g)
  clear hb hwa
  go_enter Try.func10, Try.ntmps10
  go_upto_region 1 with (fail)
  rw [HW.out]
  clear HW
  by_cases q0 : 4 ≤ g.E
  rotate_left
  · have t0 : decide (4 ≤ g.E) = false := decide_eq_false q0
    have hr := Lib.hid (show Ge.right g = false by rw [HT.out]; exact decide_eq_false fun h => q0 h.1)
    clear HT q0
    go_quiet (fail)
    go_wp2_with fail
    go_ret
    rw [hr.out]; exact ⟨rfl, below_many HB.out _⟩
  have t0 : decide (4 ≤ g.E) = true := decide_eq_true q0
  by_cases q1 : g.E ≤ 8
  rotate_left
  · have t1 : decide (g.E ≤ 8) = false := decide_eq_false q1
    have hr := Lib.hid (show Ge.right g = false by rw [HT.out]; exact decide_eq_false fun h => q1 h.2.1)
    clear HT q1
    go_quiet (fail)
    go_wp2_with fail
    go_ret
    rw [hr.out]; exact ⟨rfl, below_many HB.out _⟩
  have t1 : decide (g.E ≤ 8) = true := decide_eq_true q1
  by_cases q2 : 1 ≤ g.S
  rotate_left
  · have t2 : decide (1 ≤ g.S) = false := decide_eq_false q2
    have hr := Lib.hid (show Ge.right g = false by rw [HT.out]; exact decide_eq_false fun h => q2 h.2.2.1)
    clear HT q2
    go_quiet (fail)
    go_wp2_with fail
    go_ret
    rw [hr.out]; exact ⟨rfl, below_many HB.out _⟩
  have t2 : decide (1 ≤ g.S) = true := decide_eq_true q2
  by_cases q3 : g.S ≤ 64
  rotate_left
  · have t3 : decide (g.S ≤ 64) = false := decide_eq_false q3
    have hr := Lib.hid (show Ge.right g = false by rw [HT.out]; exact decide_eq_false fun h => q3 h.2.2.2.1)
    clear HT q3
    go_quiet (fail)
    go_wp2_with fail
    go_ret
    rw [hr.out]; exact ⟨rfl, below_many HB.out _⟩
  have t3 : decide (g.S ≤ 64) = true := decide_eq_true q3
  by_cases q4 : 64 ≤ g.M
  rotate_left
  · have t4 : decide (64 ≤ g.M) = false := decide_eq_false q4
    have hr := Lib.hid (show Ge.right g = false by rw [HT.out]; exact decide_eq_false fun h => q4 h.2.2.2.2.1)
    clear HT q4
    go_quiet (fail)
    go_wp2_with fail
    go_ret
    rw [hr.out]; exact ⟨rfl, below_many HB.out _⟩
  have t4 : decide (64 ≤ g.M) = true := decide_eq_true q4
  by_cases q5 : g.M ≤ Ge.tapeRoom g.S
  rotate_left
  · have t5 : decide (g.M ≤ Ge.tapeRoom g.S) = false := decide_eq_false q5
    have hr := Lib.hid (show Ge.right g = false by rw [HT.out]; exact decide_eq_false fun h => q5 h.2.2.2.2.2.1)
    clear HT q5
    go_quiet ((go_at_call 24; exact Calls.quiet_of_same (HRM.out _)))
    go_wp2_with fail
    go_ret
    rw [hr.out]; exact ⟨rfl, below_many HB.out _⟩
  have t5 : decide (g.M ≤ Ge.tapeRoom g.S) = true := decide_eq_true q5
  by_cases q6 : g.M ≤ 3600
  rotate_left
  · have t6 : decide (g.M ≤ 3600) = false := decide_eq_false q6
    have hr := Lib.hid (show Ge.right g = false by rw [HT.out]; exact decide_eq_false fun h => q6 h.2.2.2.2.2.2)
    clear HT q6
    go_quiet ((go_at_call 24; exact Calls.quiet_of_same (HRM.out _)))
    go_wp2_with fail
    go_ret
    rw [hr.out]; exact ⟨rfl, below_many HB.out _⟩
  have t6 : decide (g.M ≤ 3600) = true := decide_eq_true q6
  have hr := Lib.hid (show Ge.right g = true by rw [HT.out]; exact decide_eq_true ⟨q0, q1, q2, q3, q4, q5, q6⟩)
  clear HT q0 q1 q2 q3 q4 q5 q6
  go_quiet ((go_at_call 24; exact Calls.quiet_of_same (HRM.out _)))
  go_wp2_with fail
  go_ret
  rw [hr.out]; exact ⟨rfl, below_many HB.out _⟩
end Go.Proofs.Ytgicjdlpkphfnaa
