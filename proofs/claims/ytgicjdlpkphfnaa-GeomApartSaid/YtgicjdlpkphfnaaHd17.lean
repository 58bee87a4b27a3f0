/-
  Layer 17: the head of its laws holds, given GeomOk (made by gen17/hd17.py). Nothing else is assumed.
-/
import Derived.Test.YtgicjdlpkphfnaaGeA
import Derived.BigRegion
import Derived.Deep.CutRange

namespace Go.Proofs.Ytgicjdlpkphfnaa
open Go.RowKit Go.Maps
set_option maxRecDepth 100000

theorem field2_17 (W : World) (a b : Value) (A : Option Addr) (n c : Nat) : (Instr.field 31 (.agg #[a, b, .slice A n c]) 2).run Try.prog W = .ok (.slice A n c) W := by
  simp [Instr.field, run_underlying Try.underlying31, asAgg, part, isAgg, run_underlying Try.underlying29, go_sem]
theorem field0_17 (W : World) (b z : Value) (x : Int) : (Instr.field 31 (.agg #[.int .i64 x, b, z]) 0).run Try.prog W = .ok (.int .i64 x) W := by
  simp [Instr.field, run_underlying Try.underlying31, asAgg, part, isAgg, run_underlying Try.underlying2, go_sem]
set_option maxHeartbeats 4000000 in
theorem head17_any (hOk : GeomOk) (w : World) : Calls Try.prog 8 #[] w fun e w' => e = .returned (.bool true) ∧ Below w.heap.size w w' := by
  have F1 := Lib.hid (fun (W : World) => show Calls Try.prog 9 #[.agg #[.int .i64 4, .int .i64 2, .int .i64 64]] W (fun e w' => e = .returned (.bool true) ∧ Below W.heap.size W w') by
    have := hOk.right ⟨4, 2, 64⟩ W
    rwa [show Ge.right ⟨4, 2, 64⟩ = true by decide +kernel] at this)
  have F2 := Lib.hid (fun (W : World) => show Calls Try.prog 9 #[.agg #[.int .i64 4, .int .i64 1, .int .i64 64]] W (fun e w' => e = .returned (.bool false) ∧ Below W.heap.size W w') by
    have := hOk.right ⟨4, 1, 64⟩ W
    rwa [show Ge.right ⟨4, 1, 64⟩ = false by decide +kernel] at this)
  have F3 := Lib.hid (fun (W : World) => show Calls Try.prog 11 #[.agg #[.int .i64 4, .int .i64 2, .int .i64 64]] W (fun e w' => e = .returned (.int .i64 10) ∧ Below W.heap.size W w') by
    have := hOk.size ⟨4, 2, 64⟩ W
    rwa [show Ge.size ⟨4, 2, 64⟩ = 10 by decide +kernel] at this)
  have F4 := Lib.hid (fun (W : World) => show Calls Try.prog 13 #[.agg #[.int .i64 4, .int .i64 2, .int .i64 64], .int .i64 3] W (fun e w' => e = .returned (.int .i64 8) ∧ Below W.heap.size W w') by
    have := hOk.first ⟨4, 2, 64⟩ 3 W
    rwa [show Ge.first ⟨4, 2, 64⟩ 3 = 8 by decide +kernel] at this)
  have F5 := Lib.hid (fun (W : World) => show Calls Try.prog 13 #[.agg #[.int .i64 4, .int .i64 2, .int .i64 64], .int .i64 4] W (fun e w' => e = .returned (.int .i64 0) ∧ Below W.heap.size W w') by
    have := hOk.first ⟨4, 2, 64⟩ 4 W
    rwa [show Ge.first ⟨4, 2, 64⟩ 4 = 0 by decide +kernel] at this)
  have F6 := Lib.hid (fun (W : World) => show Calls Try.prog 15 #[.agg #[.int .i64 4, .int .i64 2, .int .i64 64]] W (fun e w' => e = .returned (.int .i64 114) ∧ Below W.heap.size W w') by
    have := hOk.room ⟨4, 2, 64⟩ W
    rwa [show Ge.room ⟨4, 2, 64⟩ = 114 by decide +kernel] at this)
  have F7 := Lib.hid (fun (W : World) => show Calls Try.prog 17 #[.agg #[.int .i64 4, .int .i64 2, .int .i64 64]] W (fun e w' => e = .returned (.int .i64 0) ∧ Below W.heap.size W w') by
    have := hOk.budget ⟨4, 2, 64⟩ W
    rwa [show Ge.budget ⟨4, 2, 64⟩ = 0 by decide +kernel] at this)
  have F8 := Lib.hid (fun (W : World) => show Calls Try.prog 17 #[.agg #[.int .i64 4, .int .i64 10, .int .i64 100]] W (fun e w' => e = .returned (.int .i64 242) ∧ Below W.heap.size W w') by
    have := hOk.budget ⟨4, 10, 100⟩ W
    rwa [show Ge.budget ⟨4, 10, 100⟩ = 242 by decide +kernel] at this)
  have F9 := Lib.hid (fun (W : World) => show Calls Try.prog 20 #[.agg #[.int .i64 4, .int .i64 2, .int .i64 64]] W (fun e w' => ∃ A cap, e = .returned (.agg #[.int .i64 1, .int .i64 (-1), .slice A 4 cap]) ∧ 4 ≤ cap ∧ cap ≤ maxLen ∧ Below W.heap.size W w') by
    refine (hOk.blank ⟨4, 2, 64⟩ W).mono ?_
    rintro e w' ⟨A, cap, rfl, h1, h2, -, h3⟩
    have e : blank17 ⟨4, 2, 64⟩ = ⟨1, -1, [⟨0, 0⟩, ⟨0, 0⟩, ⟨0, 0⟩, ⟨0, 0⟩]⟩ := by decide +kernel
    rw [e] at h1 ⊢
    exact ⟨A, cap, rfl, h1, h2, h3⟩)
  have F11 := Lib.hid (fun (W : World) => show Calls Try.prog 11 #[.agg #[.int .i64 0, .int .i64 0, .int .i64 0]] W (fun e w' => e = .returned (.int .i64 0) ∧ Below W.heap.size W w') by
    have := hOk.size ⟨0, 0, 0⟩ W
    rwa [show Ge.size ⟨0, 0, 0⟩ = 0 by decide +kernel] at this)
  have hb := Blk.new w #[.int .i64 4, .int .i64 2, .int .i64 64] 23
  have hw0 : Below w.heap.size w (w.alloc (.cells #[.int .i64 4, .int .i64 2, .int .i64 64] 23)) := (Below.refl _ _).alloc (Nat.le_refl _) _
  obtain ⟨w0, hwa⟩ : ∃ w0, (w.alloc (.cells #[.int .i64 4, .int .i64 2, .int .i64 64] 23)) = w0 := ⟨_, rfl⟩
  rw [hwa] at hb hw0
  have HW := Lib.hid hwa
  have HX := Lib.hid (fun (W : World) (hW : Below w0.heap.size w0 W) => show W.cell? ⟨w.heap.size, 0, none⟩ = some (.int .i64 4) ∧ W.cell? ⟨w.heap.size, 1, none⟩ = some (.int .i64 2) ∧ W.cell? ⟨w.heap.size, 2, none⟩ = some (.int .i64 64) from ⟨((Kept.of hW []).blk hb (by simp)).cell 0, ((Kept.of hW []).blk hb (by simp)).cell 1, ((Kept.of hW []).blk hb (by simp)).cell 2⟩)
  have HB := Lib.hid hw0
  have H0 := Lib.hid (Below.refl w0.heap.size w0)
  obtain ⟨x0, x1, x2⟩ := HX.out w0 H0.out
  have q2 := field2_17
  have q0 := field0_17
  clear hwa hb hw0 hOk
  go_enter Try.func8, Try.ntmps8
  go_upto_region 2 with (fail)
  rw [HW.out]
  clear HW
  go_wp2_with fail
  refine (F1.out w0).mono ?_
  rintro e w1 ⟨rfl, d⟩
  have H1 := Lib.hid (H0.out.trans (d.mono H0.out.size))
  clear x0 x1 x2 d
  obtain ⟨x0, x1, x2⟩ := HX.out w1 H1.out
  go_wp2_with fail
  refine (F2.out w1).mono ?_
  rintro e w2 ⟨rfl, d⟩
  have H2 := Lib.hid (H1.out.trans (d.mono H1.out.size))
  clear x0 x1 x2 d
  obtain ⟨x0, x1, x2⟩ := HX.out w2 H2.out
  go_wp2_with fail
  refine (F3.out w2).mono ?_
  rintro e w3 ⟨rfl, d⟩
  have H3 := Lib.hid (H2.out.trans (d.mono H2.out.size))
  clear x0 x1 x2 d
  obtain ⟨x0, x1, x2⟩ := HX.out w3 H3.out
  go_wp2_with fail
  refine (F4.out w3).mono ?_
  rintro e w4 ⟨rfl, d⟩
  have H4 := Lib.hid (H3.out.trans (d.mono H3.out.size))
  clear x0 x1 x2 d
  obtain ⟨x0, x1, x2⟩ := HX.out w4 H4.out
  go_wp2_with fail
  refine (F5.out w4).mono ?_
  rintro e w5 ⟨rfl, d⟩
  have H5 := Lib.hid (H4.out.trans (d.mono H4.out.size))
  clear x0 x1 x2 d
  obtain ⟨x0, x1, x2⟩ := HX.out w5 H5.out
  go_wp2_with fail
  refine (F6.out w5).mono ?_
  rintro e w6 ⟨rfl, d⟩
  have H6 := Lib.hid (H5.out.trans (d.mono H5.out.size))
  clear x0 x1 x2 d
  obtain ⟨x0, x1, x2⟩ := HX.out w6 H6.out
  go_wp2_with fail
  refine (F7.out w6).mono ?_
  rintro e w7 ⟨rfl, d⟩
  have H7 := Lib.hid (H6.out.trans (d.mono H6.out.size))
  clear x0 x1 x2 d
  obtain ⟨x0, x1, x2⟩ := HX.out w7 H7.out
  go_wp2_with fail
  refine (F8.out w7).mono ?_
  rintro e w8 ⟨rfl, d⟩
  have H8 := Lib.hid (H7.out.trans (d.mono H7.out.size))
  clear x0 x1 x2 d
  obtain ⟨x0, x1, x2⟩ := HX.out w8 H8.out
  go_wp2_with fail
  refine (F9.out w8).mono ?_
  rintro e w9 ⟨A8, c8, rfl, hq8, hm8, d⟩
  have H9 := Lib.hid (H8.out.trans (d.mono H8.out.size))
  clear x0 x1 x2 d
  obtain ⟨x0, x1, x2⟩ := HX.out w9 H9.out
  go_wp2_with fail
  refine (F9.out w9).mono ?_
  rintro e w10 ⟨A9, c9, rfl, hq9, hm9, d⟩
  have H10 := Lib.hid (H9.out.trans (d.mono H9.out.size))
  clear x0 x1 x2 d
  obtain ⟨x0, x1, x2⟩ := HX.out w10 H10.out
  go_wp2_with fail
  refine (F11.out w10).mono ?_
  rintro e w11 ⟨rfl, d⟩
  have H11 := Lib.hid (H10.out.trans (d.mono H10.out.size))
  clear x0 x1 x2 d
  obtain ⟨x0, x1, x2⟩ := HX.out w11 H11.out
  go_wp2
  go_ret
  exact ⟨rfl, HB.out.trans (H11.out.mono HB.out.size)⟩
end Go.Proofs.Ytgicjdlpkphfnaa
