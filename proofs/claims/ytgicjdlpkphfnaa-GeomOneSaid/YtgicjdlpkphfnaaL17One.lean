/-
  GeomOne (turntablelaw17): holds for every input. No condition but that the inputs are a Geo and numbers. (Made by gen17/l17one.py.)
-/
import Derived.Test.YtgicjdlpkphfnaaHd17
import Derived.Test.YtgicjdlpkphfnaaGeS
import Derived.BigRegion
import Derived.BigQuiet
import Derived.Deep.CutRange
import Derived.Test.YtgicjdlpkphfnaaGeZ
import Derived.Test.YtgicjdlpkphfnaaOpG

namespace Go.Proofs.Ytgicjdlpkphfnaa.geomOne
open Go.RowKit Go.Maps
set_option maxRecDepth 100000

theorem rem17 (W : World) (a b c : Int) (h0 : 0 < b) (ha : 0 ≤ a) (h : a % b = c) (hb : b ≤ 1000000) (_ha2 : a ≤ 1000000) : (binOp .rem 3 (.int .i64 a) (.int .i64 b)).run Try.prog W = .ok (.int .i64 c) W := by
  have e : Int.tmod a b = c := by rw [Int.tmod_eq_emod_of_nonneg ha]; exact h
  have hb0 : b ≠ 0 := by omega
  have h2 : 0 ≤ a % b ∧ a % b < b := ⟨Int.emod_nonneg _ hb0, Int.emod_lt_of_pos _ h0⟩
  have hw := wrap17 c (by omega) (by omega)
  go_simp

set_option maxHeartbeats 8000000 in
theorem walkN (hOk : GeomOk) (w : World) (g : Ge.G) : Calls Try.prog 6 #[.agg #[.int .i64 g.E, .int .i64 g.S, .int .i64 g.M]] w fun e w' => e = .returned (.bool true) ∧ Below w.heap.size w w' := by
  have HH := Lib.hid (fun (W : World) => head17_any hOk W)
  have hb := Blk.new w #[.int .i64 g.E, .int .i64 g.S, .int .i64 g.M] 23
  have HB := Lib.hid (show Below w.heap.size w (w.alloc (.cells #[.int .i64 g.E, .int .i64 g.S, .int .i64 g.M] 23)) from (Below.refl _ _).alloc (Nat.le_refl _) _)
  obtain ⟨wa, hwa⟩ : ∃ wa, (w.alloc (.cells #[.int .i64 g.E, .int .i64 g.S, .int .i64 g.M] 23)) = wa := ⟨_, rfl⟩
  rw [hwa] at HB hb
  have HW := Lib.hid hwa
  have HX := Lib.hid (fun (W : World) (hW : Below wa.heap.size wa W) => show W.cell? ⟨w.heap.size, 0, none⟩ = some (.int .i64 g.E) ∧ W.cell? ⟨w.heap.size, 1, none⟩ = some (.int .i64 g.S) ∧ W.cell? ⟨w.heap.size, 2, none⟩ = some (.int .i64 g.M) from ⟨((Kept.of hW []).blk hb (by simp)).cell 0, ((Kept.of hW []).blk hb (by simp)).cell 1, ((Kept.of hW []).blk hb (by simp)).cell 2⟩)
  have HSA := Lib.hid (show w.heap.size < wa.heap.size from hb.lt)
  clear hb hwa
  by_cases hok : g.ok
  rotate_left
  · have hrt : Ge.right g = false := decide_eq_false hok
    have HR := Lib.hid (fun (W : World) => show Calls Try.prog 9 #[.agg #[.int .i64 g.E, .int .i64 g.S, .int .i64 g.M]] W (fun e w' => e = .returned (.bool false) ∧ Below W.heap.size W w') by have := hOk.right g W; rwa [hrt] at this)
    clear hok hrt hOk
    go_enter Try.func6, Try.ntmps6
    go_wp2_with fail
    rw [HW.out]
    refine (HH.out wa).mono ?_
    rintro e w1 ⟨rfl, d1⟩
    obtain ⟨x0, x1, x2⟩ := HX.out w1 d1
    go_wp2_with fail
    refine (HR.out w1).mono ?_
    rintro e w2 ⟨rfl, d2⟩
    have HB2 := Lib.hid (HB.out.trans ((d1.trans (d2.mono d1.size)).mono HB.out.size))
    clear d1 d2
    go_wp2
    go_ret
    exact ⟨rfl, HB2.out⟩
  · have hrt : Ge.right g = true := decide_eq_true hok
    have HR := Lib.hid (fun (W : World) => show Calls Try.prog 9 #[.agg #[.int .i64 g.E, .int .i64 g.S, .int .i64 g.M]] W (fun e w' => e = .returned (.bool true) ∧ Below W.heap.size W w') by have := hOk.right g W; rwa [hrt] at this)
    obtain ⟨n, hn⟩ : ∃ n, Ge.budget g = n := ⟨_, rfl⟩
    have hn0 : 0 ≤ n := by rw [← hn]; exact Ge.budget_nonneg g
    have HBU := Lib.hid (fun (W : World) => show Calls Try.prog 17 #[.agg #[.int .i64 g.E, .int .i64 g.S, .int .i64 g.M]] W (fun e w' => e = .returned (.int .i64 n) ∧ Below W.heap.size W w') by have := hOk.budget g W; rwa [hn] at this)
    obtain ⟨r0, hr0⟩ : ∃ r, Ge.right ⟨(g.E + 1), g.S, g.M⟩ = r := ⟨_, rfl⟩
    obtain ⟨n0, hn0⟩ : ∃ n, Ge.budget ⟨(g.E + 1), g.S, g.M⟩ = n := ⟨_, rfl⟩
    have R0 := Lib.hid (fun (W : World) => show Calls Try.prog 9 #[.agg #[.int .i64 (g.E + 1), .int .i64 g.S, .int .i64 g.M]] W (fun e w' => e = .returned (.bool r0) ∧ Below W.heap.size W w') by have := hOk.right ⟨(g.E + 1), g.S, g.M⟩ W; rwa [hr0] at this)
    have B0 := Lib.hid (fun (W : World) => show Calls Try.prog 17 #[.agg #[.int .i64 (g.E + 1), .int .i64 g.S, .int .i64 g.M]] W (fun e w' => e = .returned (.int .i64 n0) ∧ Below W.heap.size W w') by have := hOk.budget ⟨(g.E + 1), g.S, g.M⟩ W; rwa [hn0] at this)
    have L0 := Lib.hid (show r0 = true → n ≤ n0 from fun h => by rw [← hn, ← hn0]; exact Ge.budget_ext hok (Ge.right_iff.1 (hr0.trans h)))
    clear hr0 hn0
    obtain ⟨r1, hr1⟩ : ∃ r, Ge.right ⟨g.E, (g.S + 1), g.M⟩ = r := ⟨_, rfl⟩
    obtain ⟨n1, hn1⟩ : ∃ n, Ge.budget ⟨g.E, (g.S + 1), g.M⟩ = n := ⟨_, rfl⟩
    have R1 := Lib.hid (fun (W : World) => show Calls Try.prog 9 #[.agg #[.int .i64 g.E, .int .i64 (g.S + 1), .int .i64 g.M]] W (fun e w' => e = .returned (.bool r1) ∧ Below W.heap.size W w') by have := hOk.right ⟨g.E, (g.S + 1), g.M⟩ W; rwa [hr1] at this)
    have B1 := Lib.hid (fun (W : World) => show Calls Try.prog 17 #[.agg #[.int .i64 g.E, .int .i64 (g.S + 1), .int .i64 g.M]] W (fun e w' => e = .returned (.int .i64 n1) ∧ Below W.heap.size W w') by have := hOk.budget ⟨g.E, (g.S + 1), g.M⟩ W; rwa [hn1] at this)
    have L1 := Lib.hid (show r1 = true → n ≤ n1 from fun h => by rw [← hn, ← hn1]; exact Ge.budget_sec hok (Ge.right_iff.1 (hr1.trans h)))
    clear hr1 hn1
    obtain ⟨r2, hr2⟩ : ∃ r, Ge.right ⟨g.E, g.S, (g.M + 1)⟩ = r := ⟨_, rfl⟩
    obtain ⟨n2, hn2⟩ : ∃ n, Ge.budget ⟨g.E, g.S, (g.M + 1)⟩ = n := ⟨_, rfl⟩
    have R2 := Lib.hid (fun (W : World) => show Calls Try.prog 9 #[.agg #[.int .i64 g.E, .int .i64 g.S, .int .i64 (g.M + 1)]] W (fun e w' => e = .returned (.bool r2) ∧ Below W.heap.size W w') by have := hOk.right ⟨g.E, g.S, (g.M + 1)⟩ W; rwa [hr2] at this)
    have B2 := Lib.hid (fun (W : World) => show Calls Try.prog 17 #[.agg #[.int .i64 g.E, .int .i64 g.S, .int .i64 (g.M + 1)]] W (fun e w' => e = .returned (.int .i64 n2) ∧ Below W.heap.size W w') by have := hOk.budget ⟨g.E, g.S, (g.M + 1)⟩ W; rwa [hn2] at this)
    have L2 := Lib.hid (show r2 = true → n2 ≤ n from fun h => by rw [← hn, ← hn2]; exact Ge.budget_max hok (Ge.right_iff.1 (hr2.trans h)))
    clear hr2 hn2
    have hwE := wrap17 (g.E + 1) (by obtain ⟨_, _, _, _, _, _, _⟩ := hok; omega) (by obtain ⟨_, _, _, _, _, _, _⟩ := hok; omega)
    have hwS := wrap17 (g.S + 1) (by obtain ⟨_, _, _, _, _, _, _⟩ := hok; omega) (by obtain ⟨_, _, _, _, _, _, _⟩ := hok; omega)
    have hwM := wrap17 (g.M + 1) (by obtain ⟨_, _, _, _, _, _, _⟩ := hok; omega) (by obtain ⟨_, _, _, _, _, _, _⟩ := hok; omega)
    clear hok hrt hOk hn
    go_enter Try.func6, Try.ntmps6
    go_wp2_with fail
    rw [HW.out]
    refine (HH.out wa).mono ?_
    rintro e w1 ⟨rfl, d1⟩
    have H1 := Lib.hid d1
    obtain ⟨x0, x1, x2⟩ := HX.out w1 d1
    clear d1
    go_wp2_with fail
    refine (HR.out w1).mono ?_
    rintro e w2 ⟨rfl, d2⟩
    have H2 := Lib.hid (H1.out.trans (d2.mono H1.out.size))
    clear d2 x0 x1 x2
    obtain ⟨x0, x1, x2⟩ := HX.out w2 H2.out
    have hs := Nat.lt_of_lt_of_le HSA.out H2.out.size
    have hs1 : w.heap.size < w2.heap.size + 1 := by omega
    have hs2 : w.heap.size < w2.heap.size + 1 + 1 := by omega
    have hs3 : w.heap.size < w2.heap.size + 2 := by omega
    go_upto_region 10 with (fail)
    have k3 : Below w2.heap.size w2 (w2.alloc (.cells #[.int .i64 (g.E + 1), .int .i64 g.S, .int .i64 g.M] 23)) := (Below.refl _ _).alloc (Nat.le_refl _) _
    have q0 := Blk.new w2 #[.int .i64 (g.E + 1), .int .i64 g.S, .int .i64 g.M] 23
    have k4 : Below (w2.alloc (.cells #[.int .i64 (g.E + 1), .int .i64 g.S, .int .i64 g.M] 23)).heap.size (w2.alloc (.cells #[.int .i64 (g.E + 1), .int .i64 g.S, .int .i64 g.M] 23)) ((w2.alloc (.cells #[.int .i64 (g.E + 1), .int .i64 g.S, .int .i64 g.M] 23)).alloc (.cells #[.int .i64 g.E, .int .i64 (g.S + 1), .int .i64 g.M] 23)) := (Below.refl _ _).alloc (Nat.le_refl _) _
    have q1 := Blk.new (w2.alloc (.cells #[.int .i64 (g.E + 1), .int .i64 g.S, .int .i64 g.M] 23)) #[.int .i64 g.E, .int .i64 (g.S + 1), .int .i64 g.M] 23
    have k5 : Below ((w2.alloc (.cells #[.int .i64 (g.E + 1), .int .i64 g.S, .int .i64 g.M] 23)).alloc (.cells #[.int .i64 g.E, .int .i64 (g.S + 1), .int .i64 g.M] 23)).heap.size ((w2.alloc (.cells #[.int .i64 (g.E + 1), .int .i64 g.S, .int .i64 g.M] 23)).alloc (.cells #[.int .i64 g.E, .int .i64 (g.S + 1), .int .i64 g.M] 23)) (((w2.alloc (.cells #[.int .i64 (g.E + 1), .int .i64 g.S, .int .i64 g.M] 23)).alloc (.cells #[.int .i64 g.E, .int .i64 (g.S + 1), .int .i64 g.M] 23)).alloc (.cells #[.int .i64 g.E, .int .i64 g.S, .int .i64 (g.M + 1)] 23)) := (Below.refl _ _).alloc (Nat.le_refl _) _
    have q2 := Blk.new ((w2.alloc (.cells #[.int .i64 (g.E + 1), .int .i64 g.S, .int .i64 g.M] 23)).alloc (.cells #[.int .i64 g.E, .int .i64 (g.S + 1), .int .i64 g.M] 23)) #[.int .i64 g.E, .int .i64 g.S, .int .i64 (g.M + 1)] 23
    have p0 := (Kept.of k5 []).blk ((Kept.of k4 []).blk q0 (by simp)) (by simp)
    have p1 := (Kept.of k5 []).blk q1 (by simp)
    have e3 : (w2.alloc (.cells #[.int .i64 (g.E + 1), .int .i64 g.S, .int .i64 g.M] 23)).heap.size = w2.heap.size + 1 := by simp
    have e4 : ((w2.alloc (.cells #[.int .i64 (g.E + 1), .int .i64 g.S, .int .i64 g.M] 23)).alloc (.cells #[.int .i64 g.E, .int .i64 (g.S + 1), .int .i64 g.M] 23)).heap.size = w2.heap.size + 1 + 1 := by simp
    rw [e3] at p1
    rw [e4] at q2
    obtain ⟨w5, hw5⟩ : ∃ w5, (((w2.alloc (.cells #[.int .i64 (g.E + 1), .int .i64 g.S, .int .i64 g.M] 23)).alloc (.cells #[.int .i64 g.E, .int .i64 (g.S + 1), .int .i64 g.M] 23)).alloc (.cells #[.int .i64 g.E, .int .i64 g.S, .int .i64 (g.M + 1)] 23)) = w5 := ⟨_, rfl⟩
    have k25 : Below w2.heap.size w2 w5 := by rw [← hw5]; exact (k3.trans (k4.mono k3.size)).trans (k5.mono (Nat.le_trans k3.size k4.size))
    rw [hw5] at p0 p1 q2 ⊢
    have H5 := Lib.hid (H2.out.trans (k25.mono H2.out.size))
    clear k3 k4 k5 q0 q1 k25 hw5 e3 e4 hs hs1 hs2 hs3
    have Y0 := Lib.hid (fun (W : World) (hW : Below w5.heap.size w5 W) => show W.cell? ⟨w2.heap.size, 0, none⟩ = some (.int .i64 (g.E + 1)) ∧ W.cell? ⟨w2.heap.size, 1, none⟩ = some (.int .i64 g.S) ∧ W.cell? ⟨w2.heap.size, 2, none⟩ = some (.int .i64 g.M) from ⟨((Kept.of hW []).blk p0 (by simp)).cell 0, ((Kept.of hW []).blk p0 (by simp)).cell 1, ((Kept.of hW []).blk p0 (by simp)).cell 2⟩)
    have Y1 := Lib.hid (fun (W : World) (hW : Below w5.heap.size w5 W) => show W.cell? ⟨w2.heap.size + 1, 0, none⟩ = some (.int .i64 g.E) ∧ W.cell? ⟨w2.heap.size + 1, 1, none⟩ = some (.int .i64 (g.S + 1)) ∧ W.cell? ⟨w2.heap.size + 1, 2, none⟩ = some (.int .i64 g.M) from ⟨((Kept.of hW []).blk p1 (by simp)).cell 0, ((Kept.of hW []).blk p1 (by simp)).cell 1, ((Kept.of hW []).blk p1 (by simp)).cell 2⟩)
    have Y2 := Lib.hid (fun (W : World) (hW : Below w5.heap.size w5 W) => show W.cell? ⟨w2.heap.size + 1 + 1, 0, none⟩ = some (.int .i64 g.E) ∧ W.cell? ⟨w2.heap.size + 1 + 1, 1, none⟩ = some (.int .i64 g.S) ∧ W.cell? ⟨w2.heap.size + 1 + 1, 2, none⟩ = some (.int .i64 (g.M + 1)) from ⟨((Kept.of hW []).blk q2 (by simp)).cell 0, ((Kept.of hW []).blk q2 (by simp)).cell 1, ((Kept.of hW []).blk q2 (by simp)).cell 2⟩)
    have K5 := Lib.hid (Below.refl w5.heap.size w5)
    clear p0 p1 q2 x0 x1 x2
    obtain ⟨x0, x1, x2⟩ := HX.out w5 H5.out
    generalize w2.heap.size = g0 at *
    have tn : decide (0 ≤ n) = true := decide_eq_true hn0
    go_wp2_with fail
    refine (HBU.out w5).mono ?_
    rintro e w6 ⟨rfl, d⟩
    have K6 := Lib.hid d
    clear d x0 x1 x2
    obtain ⟨x0, x1, x2⟩ := Y0.out w6 K6.out
    go_wp2_with fail
    refine (R0.out w6).mono ?_
    rintro e w7 ⟨rfl, d⟩
    have K7 := Lib.hid (K6.out.trans (d.mono K6.out.size))
    clear d x0 x1 x2
    rcases r0 with _ | _
    · obtain ⟨x0, x1, x2⟩ := Y1.out w7 K7.out
      go_wp2_with fail
      refine (R1.out w7).mono ?_
      rintro e w8 ⟨rfl, d⟩
      have K8 := Lib.hid (K7.out.trans (d.mono K7.out.size))
      clear d x0 x1 x2
      rcases r1 with _ | _
      · obtain ⟨x0, x1, x2⟩ := Y2.out w8 K8.out
        go_wp2_with fail
        refine (R2.out w8).mono ?_
        rintro e w9 ⟨rfl, d⟩
        have K9 := Lib.hid (K8.out.trans (d.mono K8.out.size))
        clear d x0 x1 x2
        rcases r2 with _ | _
        · go_wp2
          go_ret
          exact ⟨rfl, HB.out.trans ((H5.out.trans (K9.out.mono H5.out.size)).mono HB.out.size)⟩
        · obtain ⟨x0, x1, x2⟩ := Y2.out w9 K9.out
          have t2 : decide (n2 ≤ n) = true := decide_eq_true (L2.out rfl)
          go_wp2_with fail
          refine (B2.out w9).mono ?_
          rintro e w10 ⟨rfl, d⟩
          have K10 := Lib.hid (K9.out.trans (d.mono K9.out.size))
          clear d x0 x1 x2
          go_wp2
          go_ret
          exact ⟨rfl, HB.out.trans ((H5.out.trans (K10.out.mono H5.out.size)).mono HB.out.size)⟩
      · obtain ⟨x0, x1, x2⟩ := Y1.out w8 K8.out
        have t1 : decide (n ≤ n1) = true := decide_eq_true (L1.out rfl)
        go_wp2_with fail
        refine (B1.out w8).mono ?_
        rintro e w9 ⟨rfl, d⟩
        have K9 := Lib.hid (K8.out.trans (d.mono K8.out.size))
        clear d x0 x1 x2
        obtain ⟨x0, x1, x2⟩ := Y2.out w9 K9.out
        go_wp2_with fail
        refine (R2.out w9).mono ?_
        rintro e w10 ⟨rfl, d⟩
        have K10 := Lib.hid (K9.out.trans (d.mono K9.out.size))
        clear d x0 x1 x2
        rcases r2 with _ | _
        · go_wp2
          go_ret
          exact ⟨rfl, HB.out.trans ((H5.out.trans (K10.out.mono H5.out.size)).mono HB.out.size)⟩
        · obtain ⟨x0, x1, x2⟩ := Y2.out w10 K10.out
          have t2 : decide (n2 ≤ n) = true := decide_eq_true (L2.out rfl)
          go_wp2_with fail
          refine (B2.out w10).mono ?_
          rintro e w11 ⟨rfl, d⟩
          have K11 := Lib.hid (K10.out.trans (d.mono K10.out.size))
          clear d x0 x1 x2
          go_wp2
          go_ret
          exact ⟨rfl, HB.out.trans ((H5.out.trans (K11.out.mono H5.out.size)).mono HB.out.size)⟩
    · obtain ⟨x0, x1, x2⟩ := Y0.out w7 K7.out
      have t0 : decide (n ≤ n0) = true := decide_eq_true (L0.out rfl)
      go_wp2_with fail
      refine (B0.out w7).mono ?_
      rintro e w8 ⟨rfl, d⟩
      have K8 := Lib.hid (K7.out.trans (d.mono K7.out.size))
      clear d x0 x1 x2
      obtain ⟨x0, x1, x2⟩ := Y1.out w8 K8.out
      go_wp2_with fail
      refine (R1.out w8).mono ?_
      rintro e w9 ⟨rfl, d⟩
      have K9 := Lib.hid (K8.out.trans (d.mono K8.out.size))
      clear d x0 x1 x2
      rcases r1 with _ | _
      · obtain ⟨x0, x1, x2⟩ := Y2.out w9 K9.out
        go_wp2_with fail
        refine (R2.out w9).mono ?_
        rintro e w10 ⟨rfl, d⟩
        have K10 := Lib.hid (K9.out.trans (d.mono K9.out.size))
        clear d x0 x1 x2
        rcases r2 with _ | _
        · go_wp2
          go_ret
          exact ⟨rfl, HB.out.trans ((H5.out.trans (K10.out.mono H5.out.size)).mono HB.out.size)⟩
        · obtain ⟨x0, x1, x2⟩ := Y2.out w10 K10.out
          have t2 : decide (n2 ≤ n) = true := decide_eq_true (L2.out rfl)
          go_wp2_with fail
          refine (B2.out w10).mono ?_
          rintro e w11 ⟨rfl, d⟩
          have K11 := Lib.hid (K10.out.trans (d.mono K10.out.size))
          clear d x0 x1 x2
          go_wp2
          go_ret
          exact ⟨rfl, HB.out.trans ((H5.out.trans (K11.out.mono H5.out.size)).mono HB.out.size)⟩
      · obtain ⟨x0, x1, x2⟩ := Y1.out w9 K9.out
        have t1 : decide (n ≤ n1) = true := decide_eq_true (L1.out rfl)
        go_wp2_with fail
        refine (B1.out w9).mono ?_
        rintro e w10 ⟨rfl, d⟩
        have K10 := Lib.hid (K9.out.trans (d.mono K9.out.size))
        clear d x0 x1 x2
        obtain ⟨x0, x1, x2⟩ := Y2.out w10 K10.out
        go_wp2_with fail
        refine (R2.out w10).mono ?_
        rintro e w11 ⟨rfl, d⟩
        have K11 := Lib.hid (K10.out.trans (d.mono K10.out.size))
        clear d x0 x1 x2
        rcases r2 with _ | _
        · go_wp2
          go_ret
          exact ⟨rfl, HB.out.trans ((H5.out.trans (K11.out.mono H5.out.size)).mono HB.out.size)⟩
        · obtain ⟨x0, x1, x2⟩ := Y2.out w11 K11.out
          have t2 : decide (n2 ≤ n) = true := decide_eq_true (L2.out rfl)
          go_wp2_with fail
          refine (B2.out w11).mono ?_
          rintro e w12 ⟨rfl, d⟩
          have K12 := Lib.hid (K11.out.trans (d.mono K11.out.size))
          clear d x0 x1 x2
          go_wp2
          go_ret
          exact ⟨rfl, HB.out.trans ((H5.out.trans (K12.out.mono H5.out.size)).mono HB.out.size)⟩

open Go.ChangeShapes Go.WideShapes Go.ChangeAt

theorem walk (w : World) (g : Ge.G) :
    Calls Try.prog 6 #[.agg #[.int .i64 g.E, .int .i64 g.S, .int .i64 g.M]] w fun e w' => e = .returned (.bool true) ∧ Below w.heap.size w w' :=
  walkN geomOk w g

set_option maxRecDepth 100000 in
theorem lifted (os : Os) (started : os.Started) (H : Type) (enc : TypeId × Value → H) :
    ReturnsInHanded {} Try.checked os 6 .any (Rows.geomOneSpec.pre6 enc Try.prog Try.f6 Rows.geomOneRow.domain false) (Rows.geomOneSpec.post enc Try.prog Try.f6 false true false false) := by
  refine returnsInHanded_of_change (C := Try.checked) own started (by kernel_rfl) Try.func6
    (ChangeSpec.witness6 (enc := enc) (C := Try.checked) false ⟨#[], #[.agg #[.int .i64 0, .int .i64 0, .int .i64 0]], []⟩ 8 (by kernel_rfl) (by kernel_rfl) (by kernel_rfl) (by kernel_rfl)) ?_
  intro W base args ds gs before hval0 hW hcnd _
  have hval : ∀ (j : Nat) t v, Try.f6.params[j]? = some t → args[j]? = some v → Value.okWide Try.prog W .any base t v := hval0
  have hfin := fun W' => law_post (enc := enc) (P := Try.prog) (f := Try.f6) (s := Rows.geomOneSpec) (tb := 4) (W := W) (W' := W') (args := args) (ds := ds) (gs := gs) (before := before) laidOut rfl (by kernel_rfl) Try.underlying4 (by kernel_rfl) (fun xs h => by rw [Try.params6] at h; match xs, h with | [_], _ => rfl) hW
  obtain ⟨p, q, hA0, hV, rfl, hfz, hnd⟩ := hW
  have hA : DataW.TrodAll enc Try.prog W 0 (fun _ => true) true Try.f6.params.toList args.toList ds p := hA0
  rw [Try.params6] at hA hval
  obtain ⟨v0, vs0, d0, ds0, p0, q0, hargs, rfl, rfl, h0, r0⟩ := trodAll_cons hA
  obtain ⟨rfl, rfl, rfl⟩ := trodAll_nil r0
  obtain rfl : args = #[v0] := by cases args; simp_all
  obtain ⟨g0, rfl⟩ := open_geo (hval 0 23 v0 rfl rfl) h0
  refine (walk W g0).mono fun e W' ⟨he, hg⟩ => ?_
  subst he
  exact ⟨_, rfl, hfin W' hg⟩

theorem proved : Rows.GeomOneSaid :=
  OpenClaim.holds_of_wide 6 Try.f6 rfl rfl rfl rfl rfl rfl rfl ⟨rfl, rfl, rfl, rfl, rfl⟩ rfl rfl rfl rfl rfl (by kernel_rfl) Try.func6 (by kernel_rfl)
    (of_decide_eq_true (by kernel_rfl)) (by unfold Func.isWrapper; first | (rw [if_pos (by decide +kernel)]; kernel_rfl) | (rw [if_neg (by decide +kernel)]; exact ⟨rfl, rfl⟩))
    (fun os started H enc _ => lifted os started H enc)
#print axioms proved
end Go.Proofs.Ytgicjdlpkphfnaa.geomOne
