/-
  Layer 17, the document's answer: Size, First, Room: what they answer, of any use (made by gen17/ges.py). Nothing is assumed.
-/
import Derived.Test.YtgicjdlpkphfnaaGeR

namespace Go.Proofs.Ytgicjdlpkphfnaa
open Go.RowKit Go.Maps
set_option maxRecDepth 100000

theorem wrap17 (z : Int) (h1 : -9223372036854775808 ≤ z) (h2 : z ≤ 9223372036854775807) : IntKind.i64.wrap z = z := by simp [IntKind.wrap, IntKind.bits, IntKind.signed]; omega
theorem mul17 {g : Ge.G} (h : g.ok) {i : Int} (h0 : 0 ≤ i) (h1 : i ≤ g.E) : 0 ≤ i * g.S ∧ i * g.S ≤ 512 := by
  obtain ⟨_, h3, h4, h5, -⟩ := h
  refine ⟨Int.mul_nonneg h0 (by omega), ?_⟩
  have h6 : i * g.S ≤ 8 * g.S := Int.mul_le_mul_of_nonneg_right (by omega) (by omega)
  omega

theorem rsize17_any (g : Ge.G) (w : World) : Calls Try.prog 12 #[.agg #[.int .i64 g.E, .int .i64 g.S, .int .i64 g.M]] w fun e w' => e = .returned (.int .i64 (Ge.size g)) ∧ Below w.heap.size w w' := by
  have hb := Blk.new w #[.int .i64 g.E, .int .i64 g.S, .int .i64 g.M] 23
  have HB := Lib.hid (show Below w.heap.size w (w.alloc (.cells #[.int .i64 g.E, .int .i64 g.S, .int .i64 g.M] 23)) from (Below.refl _ _).alloc (Nat.le_refl _) _)
  have x0 : (w.alloc (.cells #[.int .i64 g.E, .int .i64 g.S, .int .i64 g.M] 23)).cell? ⟨w.heap.size, 0, none⟩ = some (.int .i64 g.E) := hb.cell 0
  have x1 : (w.alloc (.cells #[.int .i64 g.E, .int .i64 g.S, .int .i64 g.M] 23)).cell? ⟨w.heap.size, 1, none⟩ = some (.int .i64 g.S) := hb.cell 1
  have x2 : (w.alloc (.cells #[.int .i64 g.E, .int .i64 g.S, .int .i64 g.M] 23)).cell? ⟨w.heap.size, 2, none⟩ = some (.int .i64 g.M) := hb.cell 2
  obtain ⟨wa, hwa⟩ : ∃ wa, (w.alloc (.cells #[.int .i64 g.E, .int .i64 g.S, .int .i64 g.M] 23)) = wa := ⟨_, rfl⟩
  rw [hwa] at x0 x1 x2 HB hb
  have HW := Lib.hid hwa
  have HBX := Lib.hid hb
  clear hb hwa
  by_cases hok : g.ok
  rotate_left
  · have hr := Lib.hid (show Ge.size g = 0 by unfold Ge.size; rw [if_neg (by rw [Ge.right_iff]; exact hok)])
    have hrt : Ge.right g = false := decide_eq_false hok
    have HRR := Lib.hid (fun (W : World) => show Calls Try.prog 10 #[.agg #[.int .i64 g.E, .int .i64 g.S, .int .i64 g.M]] W (fun e w' => e = .returned (.bool false) ∧ Below W.heap.size W w') by have := rright17_any g W; rwa [hrt] at this)
    clear hok hrt
    go_enter Try.func12, Try.ntmps12
    go_wp2_with fail
    rw [HW.out]
    refine (HRR.out wa).mono ?_
    rintro e w1 ⟨rfl, d1⟩
    have HB1 := Lib.hid (HB.out.trans (d1.mono HB.out.size))
    clear d1
    go_wp2
    go_ret
    rw [hr.out]; exact ⟨rfl, HB1.out⟩
  · have hrt : Ge.right g = true := decide_eq_true hok
    have HRR := Lib.hid (fun (W : World) => show Calls Try.prog 10 #[.agg #[.int .i64 g.E, .int .i64 g.S, .int .i64 g.M]] W (fun e w' => e = .returned (.bool true) ∧ Below W.heap.size W w') by have := rright17_any g W; rwa [hrt] at this)
    clear hrt
    have hr := Lib.hid (Ge.size_ok hok)
    have hm := mul17 hok (i := g.E) (by obtain ⟨h, -⟩ := hok; omega) (Int.le_refl _)
    have hw1 := wrap17 (g.E * g.S) (by omega) (by omega)
    have hw2 := wrap17 (2 + g.E * g.S) (by omega) (by omega)
    clear hm hok
    go_enter Try.func12, Try.ntmps12
    go_wp2_with fail
    rw [HW.out]
    refine (HRR.out wa).mono ?_
    rintro e w1 ⟨rfl, d1⟩
    have HB1 := Lib.hid (HB.out.trans (d1.mono HB.out.size))
    have z0 : w1.cell? ⟨w.heap.size, 0, none⟩ = some (.int .i64 g.E) := ((Kept.of d1 []).blk HBX.out (by simp)).cell 0
    have z1 : w1.cell? ⟨w.heap.size, 1, none⟩ = some (.int .i64 g.S) := ((Kept.of d1 []).blk HBX.out (by simp)).cell 1
    clear d1 x0 x1 x2
    go_wp2
    go_ret
    rw [hr.out]; exact ⟨rfl, HB1.out⟩

theorem rroom17_any (g : Ge.G) (w : World) : Calls Try.prog 16 #[.agg #[.int .i64 g.E, .int .i64 g.S, .int .i64 g.M]] w fun e w' => e = .returned (.int .i64 (Ge.room g)) ∧ Below w.heap.size w w' := by
  have hb := Blk.new w #[.int .i64 g.E, .int .i64 g.S, .int .i64 g.M] 23
  have HB := Lib.hid (show Below w.heap.size w (w.alloc (.cells #[.int .i64 g.E, .int .i64 g.S, .int .i64 g.M] 23)) from (Below.refl _ _).alloc (Nat.le_refl _) _)
  have x0 : (w.alloc (.cells #[.int .i64 g.E, .int .i64 g.S, .int .i64 g.M] 23)).cell? ⟨w.heap.size, 0, none⟩ = some (.int .i64 g.E) := hb.cell 0
  have x1 : (w.alloc (.cells #[.int .i64 g.E, .int .i64 g.S, .int .i64 g.M] 23)).cell? ⟨w.heap.size, 1, none⟩ = some (.int .i64 g.S) := hb.cell 1
  have x2 : (w.alloc (.cells #[.int .i64 g.E, .int .i64 g.S, .int .i64 g.M] 23)).cell? ⟨w.heap.size, 2, none⟩ = some (.int .i64 g.M) := hb.cell 2
  obtain ⟨wa, hwa⟩ : ∃ wa, (w.alloc (.cells #[.int .i64 g.E, .int .i64 g.S, .int .i64 g.M] 23)) = wa := ⟨_, rfl⟩
  rw [hwa] at x0 x1 x2 HB hb
  have HW := Lib.hid hwa
  have HBX := Lib.hid hb
  clear hb hwa
  by_cases hok : g.ok
  rotate_left
  · have hr := Lib.hid (show Ge.room g = 0 by unfold Ge.room; rw [if_neg (by rw [Ge.right_iff]; exact hok)])
    have hrt : Ge.right g = false := decide_eq_false hok
    have HRR := Lib.hid (fun (W : World) => show Calls Try.prog 10 #[.agg #[.int .i64 g.E, .int .i64 g.S, .int .i64 g.M]] W (fun e w' => e = .returned (.bool false) ∧ Below W.heap.size W w') by have := rright17_any g W; rwa [hrt] at this)
    clear hok hrt
    go_enter Try.func16, Try.ntmps16
    go_wp2_with fail
    rw [HW.out]
    refine (HRR.out wa).mono ?_
    rintro e w1 ⟨rfl, d1⟩
    have HB1 := Lib.hid (HB.out.trans (d1.mono HB.out.size))
    clear d1
    go_wp2
    go_ret
    rw [hr.out]; exact ⟨rfl, HB1.out⟩
  · have hrt : Ge.right g = true := decide_eq_true hok
    have HRR := Lib.hid (fun (W : World) => show Calls Try.prog 10 #[.agg #[.int .i64 g.E, .int .i64 g.S, .int .i64 g.M]] W (fun e w' => e = .returned (.bool true) ∧ Below W.heap.size W w') by have := rright17_any g W; rwa [hrt] at this)
    clear hrt
    have hr := Lib.hid (show Ge.room g = Ge.tapeRoom g.S by rw [Ge.room_ok hok, Ge.room_tape hok])
    clear hok
    go_enter Try.func16, Try.ntmps16
    go_wp2_with fail
    rw [HW.out]
    refine (HRR.out wa).mono ?_
    rintro e w1 ⟨rfl, d1⟩
    have HB1 := Lib.hid (HB.out.trans (d1.mono HB.out.size))
    have z0 : w1.cell? ⟨w.heap.size, 0, none⟩ = some (.int .i64 g.E) := ((Kept.of d1 []).blk HBX.out (by simp)).cell 0
    have z1 : w1.cell? ⟨w.heap.size, 1, none⟩ = some (.int .i64 g.S) := ((Kept.of d1 []).blk HBX.out (by simp)).cell 1
    clear d1 x0 x1 x2
    go_wp2_with fail
    refine (rroom11_any g.S w1).mono ?_
    rintro e w2 ⟨rfl, rfl⟩
    go_wp2
    go_ret
    rw [hr.out]; exact ⟨rfl, HB1.out⟩

theorem rfirst17_any (g : Ge.G) (i : Int) (w : World) : Calls Try.prog 14 #[.agg #[.int .i64 g.E, .int .i64 g.S, .int .i64 g.M], .int .i64 i] w fun e w' => e = .returned (.int .i64 (Ge.first g i)) ∧ Below w.heap.size w w' := by
  have hb := Blk.new w #[.int .i64 g.E, .int .i64 g.S, .int .i64 g.M] 23
  have HB := Lib.hid (show Below w.heap.size w (w.alloc (.cells #[.int .i64 g.E, .int .i64 g.S, .int .i64 g.M] 23)) from (Below.refl _ _).alloc (Nat.le_refl _) _)
  have x0 : (w.alloc (.cells #[.int .i64 g.E, .int .i64 g.S, .int .i64 g.M] 23)).cell? ⟨w.heap.size, 0, none⟩ = some (.int .i64 g.E) := hb.cell 0
  have x1 : (w.alloc (.cells #[.int .i64 g.E, .int .i64 g.S, .int .i64 g.M] 23)).cell? ⟨w.heap.size, 1, none⟩ = some (.int .i64 g.S) := hb.cell 1
  have x2 : (w.alloc (.cells #[.int .i64 g.E, .int .i64 g.S, .int .i64 g.M] 23)).cell? ⟨w.heap.size, 2, none⟩ = some (.int .i64 g.M) := hb.cell 2
  obtain ⟨wa, hwa⟩ : ∃ wa, (w.alloc (.cells #[.int .i64 g.E, .int .i64 g.S, .int .i64 g.M] 23)) = wa := ⟨_, rfl⟩
  rw [hwa] at x0 x1 x2 HB hb
  have HW := Lib.hid hwa
  have HBX := Lib.hid hb
  clear hb hwa
  by_cases hok : g.ok
  rotate_left
  · have hr := Lib.hid (show Ge.first g i = 0 by unfold Ge.first; rw [if_neg (by rw [Ge.right_iff]; exact fun h => hok h.1)])
    have hrt : Ge.right g = false := decide_eq_false hok
    have HRR := Lib.hid (fun (W : World) => show Calls Try.prog 10 #[.agg #[.int .i64 g.E, .int .i64 g.S, .int .i64 g.M]] W (fun e w' => e = .returned (.bool false) ∧ Below W.heap.size W w') by have := rright17_any g W; rwa [hrt] at this)
    clear hok hrt
    go_enter Try.func14, Try.ntmps14
    go_wp2_with fail
    rw [HW.out]
    refine (HRR.out wa).mono ?_
    rintro e w1 ⟨rfl, d1⟩
    have HB1 := Lib.hid (HB.out.trans (d1.mono HB.out.size))
    clear d1
    go_wp2
    go_ret
    rw [hr.out]; exact ⟨rfl, HB1.out⟩
  · have hrt : Ge.right g = true := decide_eq_true hok
    have HRR := Lib.hid (fun (W : World) => show Calls Try.prog 10 #[.agg #[.int .i64 g.E, .int .i64 g.S, .int .i64 g.M]] W (fun e w' => e = .returned (.bool true) ∧ Below W.heap.size W w') by have := rright17_any g W; rwa [hrt] at this)
    clear hrt
    by_cases h0 : i < 0
    · have hr := Lib.hid (show Ge.first g i = 0 by unfold Ge.first; rw [if_neg (by omega)])
      clear hok
      go_enter Try.func14, Try.ntmps14
      go_wp2_with fail
      rw [HW.out]
      refine (HRR.out wa).mono ?_
      rintro e w1 ⟨rfl, d1⟩
      have HB1 := Lib.hid (HB.out.trans (d1.mono HB.out.size))
      have z0 : w1.cell? ⟨w.heap.size, 0, none⟩ = some (.int .i64 g.E) := ((Kept.of d1 []).blk HBX.out (by simp)).cell 0
      have z1 : w1.cell? ⟨w.heap.size, 1, none⟩ = some (.int .i64 g.S) := ((Kept.of d1 []).blk HBX.out (by simp)).cell 1
      clear d1 x0 x1 x2
      go_wp2
      go_ret
      rw [hr.out]; exact ⟨rfl, HB1.out⟩
    · by_cases h1 : g.E ≤ i
      · have hr := Lib.hid (show Ge.first g i = 0 by unfold Ge.first; rw [if_neg (by omega)])
        clear hok
        go_enter Try.func14, Try.ntmps14
        go_wp2_with fail
        rw [HW.out]
        refine (HRR.out wa).mono ?_
        rintro e w1 ⟨rfl, d1⟩
        have HB1 := Lib.hid (HB.out.trans (d1.mono HB.out.size))
        have z0 : w1.cell? ⟨w.heap.size, 0, none⟩ = some (.int .i64 g.E) := ((Kept.of d1 []).blk HBX.out (by simp)).cell 0
        have z1 : w1.cell? ⟨w.heap.size, 1, none⟩ = some (.int .i64 g.S) := ((Kept.of d1 []).blk HBX.out (by simp)).cell 1
        clear d1 x0 x1 x2
        go_wp2
        go_ret
        rw [hr.out]; exact ⟨rfl, HB1.out⟩
      · have hr := Lib.hid (Ge.first_ok hok (i := i) (by omega) (by omega))
        have hm := mul17 hok (i := i) (by omega) (by omega)
        have hw1 := wrap17 (i * g.S) (by omega) (by omega)
        have hw2 := wrap17 (2 + i * g.S) (by omega) (by omega)
        clear hm hok
        go_enter Try.func14, Try.ntmps14
        go_wp2_with fail
        rw [HW.out]
        refine (HRR.out wa).mono ?_
        rintro e w1 ⟨rfl, d1⟩
        have HB1 := Lib.hid (HB.out.trans (d1.mono HB.out.size))
        have z0 : w1.cell? ⟨w.heap.size, 0, none⟩ = some (.int .i64 g.E) := ((Kept.of d1 []).blk HBX.out (by simp)).cell 0
        have z1 : w1.cell? ⟨w.heap.size, 1, none⟩ = some (.int .i64 g.S) := ((Kept.of d1 []).blk HBX.out (by simp)).cell 1
        clear d1 x0 x1 x2
        go_wp2
        go_ret
        rw [hr.out]; exact ⟨rfl, HB1.out⟩
end Go.Proofs.Ytgicjdlpkphfnaa
