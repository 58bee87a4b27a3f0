/-
  P6.2, OrderStrict: for all items the law returns true: none is first of itself; what is first of what is first of one is first of it; two of unlike classes, ticks or numbers are one first of the other. No condition.
-/
import Derived.Test.YtkhlgjkbkpbhiaaOpI
namespace Go.Proofs.Ytkhlgjkbkpbhiaa.orderStrict
open Go.ChangeShapes Go.WideShapes Go.ChangeAt Go.RowKit
set_option maxRecDepth 100000

set_option maxHeartbeats 8000000 in
theorem walk (w : World) (x y z : Plain.It) :
    Calls Try.prog 4 #[itV x, itV y, itV z] w fun e w' => e = .returned (.bool true) ∧ Below w.heap.size w w' := by
  have HF := Lib.hid (fun (a b : Plain.It) (r : Bool) (h : Plain.ilt a b = r) (W : World) => show Calls Try.prog 15 #[itV a, itV b] W (fun e w' => e = .returned (.bool r) ∧ Below W.heap.size W w') from h ▸ first_any a b W)
  obtain ⟨xi, xc, xt, xs, xp⟩ := x
  obtain ⟨yi, yc, yt, ys, yp⟩ := y
  obtain ⟨zi, zc, zt, zs, zp⟩ := z
  obtain ⟨V, hV⟩ : ∃ V, (((w.alloc (.cells #[.int .i64 xi, .int .i64 xc, .int .i64 xt, .int .i64 xs, .bool xp] 24)).alloc (.cells #[.int .i64 yi, .int .i64 yc, .int .i64 yt, .int .i64 ys, .bool yp] 24)).alloc (.cells #[.int .i64 zi, .int .i64 zc, .int .i64 zt, .int .i64 zs, .bool zp] 24)) = V := ⟨_, rfl⟩
  have c0w : Below w.heap.size w V := by rw [← hV]; exact (((Below.refl _ w).alloc (Nat.le_refl _) _).alloc (by simp) _).alloc (by simp; omega) _
  have b0 : Blk V w.heap.size #[.int .i64 xi, .int .i64 xc, .int .i64 xt, .int .i64 xs, .bool xp] 24 := by
    rw [← hV]; exact (heap_alloc_old _ _ (by simp; omega)).trans ((heap_alloc_old _ _ (by simp)).trans (heap_alloc_new w _))
  have b1 : Blk V (w.heap.size + 1) #[.int .i64 yi, .int .i64 yc, .int .i64 yt, .int .i64 ys, .bool yp] 24 := by
    rw [← hV]
    refine (heap_alloc_old _ _ (by simp)).trans ?_
    have := heap_alloc_new (w.alloc (.cells #[.int .i64 xi, .int .i64 xc, .int .i64 xt, .int .i64 xs, .bool xp] 24)) (.cells #[.int .i64 yi, .int .i64 yc, .int .i64 yt, .int .i64 ys, .bool yp] 24)
    rw [World.size_alloc] at this
    exact this
  have b2 : Blk V (w.heap.size + 1 + 1) #[.int .i64 zi, .int .i64 zc, .int .i64 zt, .int .i64 zs, .bool zp] 24 := by
    rw [← hV]
    have := heap_alloc_new ((w.alloc (.cells #[.int .i64 xi, .int .i64 xc, .int .i64 xt, .int .i64 xs, .bool xp] 24)).alloc (.cells #[.int .i64 yi, .int .i64 yc, .int .i64 yt, .int .i64 ys, .bool yp] 24)) (.cells #[.int .i64 zi, .int .i64 zc, .int .i64 zt, .int .i64 zs, .bool zp] 24)
    rw [World.size_alloc, World.size_alloc] at this
    exact this
  have HC := Lib.hid (show ∀ u, Below V.heap.size V u → u.cell? ⟨w.heap.size, 0, none⟩ = some (.int .i64 xi) ∧ u.cell? ⟨w.heap.size, 1, none⟩ = some (.int .i64 xc) ∧ u.cell? ⟨w.heap.size, 2, none⟩ = some (.int .i64 xt) ∧ u.cell? ⟨w.heap.size, 3, none⟩ = some (.int .i64 xs) ∧ u.cell? ⟨w.heap.size, 4, none⟩ = some (.bool xp) ∧ u.cell? ⟨w.heap.size + 1, 0, none⟩ = some (.int .i64 yi) ∧ u.cell? ⟨w.heap.size + 1, 1, none⟩ = some (.int .i64 yc) ∧ u.cell? ⟨w.heap.size + 1, 2, none⟩ = some (.int .i64 yt) ∧ u.cell? ⟨w.heap.size + 1, 3, none⟩ = some (.int .i64 ys) ∧ u.cell? ⟨w.heap.size + 1, 4, none⟩ = some (.bool yp) ∧ u.cell? ⟨w.heap.size + 1 + 1, 0, none⟩ = some (.int .i64 zi) ∧ u.cell? ⟨w.heap.size + 1 + 1, 1, none⟩ = some (.int .i64 zc) ∧ u.cell? ⟨w.heap.size + 1 + 1, 2, none⟩ = some (.int .i64 zt) ∧ u.cell? ⟨w.heap.size + 1 + 1, 3, none⟩ = some (.int .i64 zs) ∧ u.cell? ⟨w.heap.size + 1 + 1, 4, none⟩ = some (.bool zp) from fun u h => by
    have k0 := (Kept.of h []).blk b0 (by simp)
    have k1 := (Kept.of h []).blk b1 (by simp)
    have k2 := (Kept.of h []).blk b2 (by simp)
    exact ⟨k0.cell 0, k0.cell 1, k0.cell 2, k0.cell 3, k0.cell 4, k1.cell 0, k1.cell 1, k1.cell 2, k1.cell 3, k1.cell 4, k2.cell 0, k2.cell 1, k2.cell 2, k2.cell 3, k2.cell 4⟩)
  have HVV := Lib.hid hV
  clear hV b0 b1 b2
  go_enter Try.func4, Try.ntmps4
  go_wp2_with fail
  rw [HVV.out]
  refine (head_any V).mono ?_
  rintro e w0 ⟨rfl, c0⟩
  clear HVV
  obtain ⟨q0, q1, q2, q3, q4, q5, q6, q7, q8, q9, q10, q11, q12, q13, q14⟩ := HC.out w0 c0
  by_cases h1 : xc = yc
  · subst h1
    by_cases h2 : xt = yt
    · subst h2
      by_cases h3 : xi = yi
      · subst h3
        have Faa : Plain.ilt ⟨xi, xc, xt, xs, xp⟩ ⟨xi, xc, xt, xs, xp⟩ = false := by rw [Plain.ilt_no]; simp only; omega
        have Fab : Plain.ilt ⟨xi, xc, xt, xs, xp⟩ ⟨xi, xc, xt, ys, yp⟩ = false := by rw [Plain.ilt_no]; simp only; first | omega | (simp; omega)
        have Fba : Plain.ilt ⟨xi, xc, xt, ys, yp⟩ ⟨xi, xc, xt, xs, xp⟩ = false := by rw [Plain.ilt_no]; simp only; first | omega | (simp; omega)
        go_wp2_with fail
        clear q0 q1 q2 q3 q4 q5 q6 q7 q8 q9 q10 q11 q12 q13 q14
        refine (HF.out (⟨xi, xc, xt, xs, xp⟩) (⟨xi, xc, xt, xs, xp⟩) false Faa _).mono ?_
        rintro e w1 ⟨rfl, d1⟩
        have c1 := c0.trans (d1.mono c0.size)
        clear d1
        obtain ⟨q0, q1, q2, q3, q4, q5, q6, q7, q8, q9, q10, q11, q12, q13, q14⟩ := HC.out w1 c1
        go_wp2_with fail
        clear q0 q1 q2 q3 q4 q5 q6 q7 q8 q9 q10 q11 q12 q13 q14
        refine (HF.out (⟨xi, xc, xt, xs, xp⟩) (⟨xi, xc, xt, ys, yp⟩) false Fab _).mono ?_
        rintro e w2 ⟨rfl, d2⟩
        have c2 := c1.trans (d2.mono c1.size)
        clear d2
        obtain ⟨q0, q1, q2, q3, q4, q5, q6, q7, q8, q9, q10, q11, q12, q13, q14⟩ := HC.out w2 c2
        go_wp2_with fail
        clear q0 q1 q2 q3 q4 q5 q6 q7 q8 q9 q10 q11 q12 q13 q14
        refine (HF.out (⟨xi, xc, xt, xs, xp⟩) (⟨xi, xc, xt, ys, yp⟩) false Fab _).mono ?_
        rintro e w3 ⟨rfl, d3⟩
        have c3 := c2.trans (d3.mono c2.size)
        clear d3
        obtain ⟨q0, q1, q2, q3, q4, q5, q6, q7, q8, q9, q10, q11, q12, q13, q14⟩ := HC.out w3 c3
        go_wp2_with fail
        clear q0 q1 q2 q3 q4 q5 q6 q7 q8 q9 q10 q11 q12 q13 q14
        refine (HF.out (⟨xi, xc, xt, ys, yp⟩) (⟨xi, xc, xt, xs, xp⟩) false Fba _).mono ?_
        rintro e w4 ⟨rfl, d4⟩
        have c4 := c3.trans (d4.mono c3.size)
        clear d4
        obtain ⟨q0, q1, q2, q3, q4, q5, q6, q7, q8, q9, q10, q11, q12, q13, q14⟩ := HC.out w4 c4
        go_wp2_with fail
        clear q0 q1 q2 q3 q4 q5 q6 q7 q8 q9 q10 q11 q12 q13 q14
        refine (HF.out (⟨xi, xc, xt, xs, xp⟩) (⟨xi, xc, xt, ys, yp⟩) false Fab _).mono ?_
        rintro e w5 ⟨rfl, d5⟩
        have c5 := c4.trans (d5.mono c4.size)
        clear d5
        obtain ⟨q0, q1, q2, q3, q4, q5, q6, q7, q8, q9, q10, q11, q12, q13, q14⟩ := HC.out w5 c5
        go_wp2
        go_ret
        exact ⟨rfl, c0w.trans (c5.mono c0w.size)⟩
      · by_cases h : xi < yi
        · rcases Bool.eq_false_or_eq_true (Plain.ilt ⟨yi, xc, xt, ys, yp⟩ ⟨zi, zc, zt, zs, zp⟩) with Fbc | Fbc
          · have k3 : (xi == yi) = false := beq_eq_false_iff_ne.2 (by omega)
            have Faa : Plain.ilt ⟨xi, xc, xt, xs, xp⟩ ⟨xi, xc, xt, xs, xp⟩ = false := by rw [Plain.ilt_no]; simp only; omega
            have Fab : Plain.ilt ⟨xi, xc, xt, xs, xp⟩ ⟨yi, xc, xt, ys, yp⟩ = true := by rw [Plain.ilt_iff]; simp only; first | omega | (simp; omega)
            have Fba : Plain.ilt ⟨yi, xc, xt, ys, yp⟩ ⟨xi, xc, xt, xs, xp⟩ = false := by rw [Plain.ilt_no]; simp only; first | omega | (simp; omega)
            have Fac : Plain.ilt ⟨xi, xc, xt, xs, xp⟩ ⟨zi, zc, zt, zs, zp⟩ = true := Plain.swoI.trans _ _ _ Fab Fbc
            go_wp2_with fail
            clear q0 q1 q2 q3 q4 q5 q6 q7 q8 q9 q10 q11 q12 q13 q14
            refine (HF.out (⟨xi, xc, xt, xs, xp⟩) (⟨xi, xc, xt, xs, xp⟩) false Faa _).mono ?_
            rintro e w1 ⟨rfl, d1⟩
            have c1 := c0.trans (d1.mono c0.size)
            clear d1
            obtain ⟨q0, q1, q2, q3, q4, q5, q6, q7, q8, q9, q10, q11, q12, q13, q14⟩ := HC.out w1 c1
            go_wp2_with fail
            clear q0 q1 q2 q3 q4 q5 q6 q7 q8 q9 q10 q11 q12 q13 q14
            refine (HF.out (⟨xi, xc, xt, xs, xp⟩) (⟨yi, xc, xt, ys, yp⟩) true Fab _).mono ?_
            rintro e w2 ⟨rfl, d2⟩
            have c2 := c1.trans (d2.mono c1.size)
            clear d2
            obtain ⟨q0, q1, q2, q3, q4, q5, q6, q7, q8, q9, q10, q11, q12, q13, q14⟩ := HC.out w2 c2
            go_wp2_with fail
            clear q0 q1 q2 q3 q4 q5 q6 q7 q8 q9 q10 q11 q12 q13 q14
            refine (HF.out (⟨yi, xc, xt, ys, yp⟩) (⟨zi, zc, zt, zs, zp⟩) true Fbc _).mono ?_
            rintro e w3 ⟨rfl, d3⟩
            have c3 := c2.trans (d3.mono c2.size)
            clear d3
            obtain ⟨q0, q1, q2, q3, q4, q5, q6, q7, q8, q9, q10, q11, q12, q13, q14⟩ := HC.out w3 c3
            go_wp2_with fail
            clear q0 q1 q2 q3 q4 q5 q6 q7 q8 q9 q10 q11 q12 q13 q14
            refine (HF.out (⟨xi, xc, xt, xs, xp⟩) (⟨zi, zc, zt, zs, zp⟩) true Fac _).mono ?_
            rintro e w4 ⟨rfl, d4⟩
            have c4 := c3.trans (d4.mono c3.size)
            clear d4
            obtain ⟨q0, q1, q2, q3, q4, q5, q6, q7, q8, q9, q10, q11, q12, q13, q14⟩ := HC.out w4 c4
            go_wp2_with fail
            clear q0 q1 q2 q3 q4 q5 q6 q7 q8 q9 q10 q11 q12 q13 q14
            refine (HF.out (⟨xi, xc, xt, xs, xp⟩) (⟨yi, xc, xt, ys, yp⟩) true Fab _).mono ?_
            rintro e w5 ⟨rfl, d5⟩
            have c5 := c4.trans (d5.mono c4.size)
            clear d5
            obtain ⟨q0, q1, q2, q3, q4, q5, q6, q7, q8, q9, q10, q11, q12, q13, q14⟩ := HC.out w5 c5
            go_wp2_with fail
            clear q0 q1 q2 q3 q4 q5 q6 q7 q8 q9 q10 q11 q12 q13 q14
            refine (HF.out (⟨xi, xc, xt, xs, xp⟩) (⟨yi, xc, xt, ys, yp⟩) true Fab _).mono ?_
            rintro e w6 ⟨rfl, d6⟩
            have c6 := c5.trans (d6.mono c5.size)
            clear d6
            obtain ⟨q0, q1, q2, q3, q4, q5, q6, q7, q8, q9, q10, q11, q12, q13, q14⟩ := HC.out w6 c6
            go_wp2_with fail
            clear q0 q1 q2 q3 q4 q5 q6 q7 q8 q9 q10 q11 q12 q13 q14
            refine (HF.out (⟨yi, xc, xt, ys, yp⟩) (⟨xi, xc, xt, xs, xp⟩) false Fba _).mono ?_
            rintro e w7 ⟨rfl, d7⟩
            have c7 := c6.trans (d7.mono c6.size)
            clear d7
            obtain ⟨q0, q1, q2, q3, q4, q5, q6, q7, q8, q9, q10, q11, q12, q13, q14⟩ := HC.out w7 c7
            go_wp2
            go_ret
            exact ⟨rfl, c0w.trans (c7.mono c0w.size)⟩
          · have k3 : (xi == yi) = false := beq_eq_false_iff_ne.2 (by omega)
            have Faa : Plain.ilt ⟨xi, xc, xt, xs, xp⟩ ⟨xi, xc, xt, xs, xp⟩ = false := by rw [Plain.ilt_no]; simp only; omega
            have Fab : Plain.ilt ⟨xi, xc, xt, xs, xp⟩ ⟨yi, xc, xt, ys, yp⟩ = true := by rw [Plain.ilt_iff]; simp only; first | omega | (simp; omega)
            have Fba : Plain.ilt ⟨yi, xc, xt, ys, yp⟩ ⟨xi, xc, xt, xs, xp⟩ = false := by rw [Plain.ilt_no]; simp only; first | omega | (simp; omega)
            go_wp2_with fail
            clear q0 q1 q2 q3 q4 q5 q6 q7 q8 q9 q10 q11 q12 q13 q14
            refine (HF.out (⟨xi, xc, xt, xs, xp⟩) (⟨xi, xc, xt, xs, xp⟩) false Faa _).mono ?_
            rintro e w1 ⟨rfl, d1⟩
            have c1 := c0.trans (d1.mono c0.size)
            clear d1
            obtain ⟨q0, q1, q2, q3, q4, q5, q6, q7, q8, q9, q10, q11, q12, q13, q14⟩ := HC.out w1 c1
            go_wp2_with fail
            clear q0 q1 q2 q3 q4 q5 q6 q7 q8 q9 q10 q11 q12 q13 q14
            refine (HF.out (⟨xi, xc, xt, xs, xp⟩) (⟨yi, xc, xt, ys, yp⟩) true Fab _).mono ?_
            rintro e w2 ⟨rfl, d2⟩
            have c2 := c1.trans (d2.mono c1.size)
            clear d2
            obtain ⟨q0, q1, q2, q3, q4, q5, q6, q7, q8, q9, q10, q11, q12, q13, q14⟩ := HC.out w2 c2
            go_wp2_with fail
            clear q0 q1 q2 q3 q4 q5 q6 q7 q8 q9 q10 q11 q12 q13 q14
            refine (HF.out (⟨yi, xc, xt, ys, yp⟩) (⟨zi, zc, zt, zs, zp⟩) false Fbc _).mono ?_
            rintro e w3 ⟨rfl, d3⟩
            have c3 := c2.trans (d3.mono c2.size)
            clear d3
            obtain ⟨q0, q1, q2, q3, q4, q5, q6, q7, q8, q9, q10, q11, q12, q13, q14⟩ := HC.out w3 c3
            go_wp2_with fail
            clear q0 q1 q2 q3 q4 q5 q6 q7 q8 q9 q10 q11 q12 q13 q14
            refine (HF.out (⟨xi, xc, xt, xs, xp⟩) (⟨yi, xc, xt, ys, yp⟩) true Fab _).mono ?_
            rintro e w4 ⟨rfl, d4⟩
            have c4 := c3.trans (d4.mono c3.size)
            clear d4
            obtain ⟨q0, q1, q2, q3, q4, q5, q6, q7, q8, q9, q10, q11, q12, q13, q14⟩ := HC.out w4 c4
            go_wp2_with fail
            clear q0 q1 q2 q3 q4 q5 q6 q7 q8 q9 q10 q11 q12 q13 q14
            refine (HF.out (⟨xi, xc, xt, xs, xp⟩) (⟨yi, xc, xt, ys, yp⟩) true Fab _).mono ?_
            rintro e w5 ⟨rfl, d5⟩
            have c5 := c4.trans (d5.mono c4.size)
            clear d5
            obtain ⟨q0, q1, q2, q3, q4, q5, q6, q7, q8, q9, q10, q11, q12, q13, q14⟩ := HC.out w5 c5
            go_wp2_with fail
            clear q0 q1 q2 q3 q4 q5 q6 q7 q8 q9 q10 q11 q12 q13 q14
            refine (HF.out (⟨yi, xc, xt, ys, yp⟩) (⟨xi, xc, xt, xs, xp⟩) false Fba _).mono ?_
            rintro e w6 ⟨rfl, d6⟩
            have c6 := c5.trans (d6.mono c5.size)
            clear d6
            obtain ⟨q0, q1, q2, q3, q4, q5, q6, q7, q8, q9, q10, q11, q12, q13, q14⟩ := HC.out w6 c6
            go_wp2
            go_ret
            exact ⟨rfl, c0w.trans (c6.mono c0w.size)⟩
        · have k3 : (xi == yi) = false := beq_eq_false_iff_ne.2 (by omega)
          have Faa : Plain.ilt ⟨xi, xc, xt, xs, xp⟩ ⟨xi, xc, xt, xs, xp⟩ = false := by rw [Plain.ilt_no]; simp only; omega
          have Fab : Plain.ilt ⟨xi, xc, xt, xs, xp⟩ ⟨yi, xc, xt, ys, yp⟩ = false := by rw [Plain.ilt_no]; simp only; first | omega | (simp; omega)
          have Fba : Plain.ilt ⟨yi, xc, xt, ys, yp⟩ ⟨xi, xc, xt, xs, xp⟩ = true := by rw [Plain.ilt_iff]; simp only; first | omega | (simp; omega)
          go_wp2_with fail
          clear q0 q1 q2 q3 q4 q5 q6 q7 q8 q9 q10 q11 q12 q13 q14
          refine (HF.out (⟨xi, xc, xt, xs, xp⟩) (⟨xi, xc, xt, xs, xp⟩) false Faa _).mono ?_
          rintro e w1 ⟨rfl, d1⟩
          have c1 := c0.trans (d1.mono c0.size)
          clear d1
          obtain ⟨q0, q1, q2, q3, q4, q5, q6, q7, q8, q9, q10, q11, q12, q13, q14⟩ := HC.out w1 c1
          go_wp2_with fail
          clear q0 q1 q2 q3 q4 q5 q6 q7 q8 q9 q10 q11 q12 q13 q14
          refine (HF.out (⟨xi, xc, xt, xs, xp⟩) (⟨yi, xc, xt, ys, yp⟩) false Fab _).mono ?_
          rintro e w2 ⟨rfl, d2⟩
          have c2 := c1.trans (d2.mono c1.size)
          clear d2
          obtain ⟨q0, q1, q2, q3, q4, q5, q6, q7, q8, q9, q10, q11, q12, q13, q14⟩ := HC.out w2 c2
          go_wp2_with fail
          clear q0 q1 q2 q3 q4 q5 q6 q7 q8 q9 q10 q11 q12 q13 q14
          refine (HF.out (⟨xi, xc, xt, xs, xp⟩) (⟨yi, xc, xt, ys, yp⟩) false Fab _).mono ?_
          rintro e w3 ⟨rfl, d3⟩
          have c3 := c2.trans (d3.mono c2.size)
          clear d3
          obtain ⟨q0, q1, q2, q3, q4, q5, q6, q7, q8, q9, q10, q11, q12, q13, q14⟩ := HC.out w3 c3
          go_wp2_with fail
          clear q0 q1 q2 q3 q4 q5 q6 q7 q8 q9 q10 q11 q12 q13 q14
          refine (HF.out (⟨yi, xc, xt, ys, yp⟩) (⟨xi, xc, xt, xs, xp⟩) true Fba _).mono ?_
          rintro e w4 ⟨rfl, d4⟩
          have c4 := c3.trans (d4.mono c3.size)
          clear d4
          obtain ⟨q0, q1, q2, q3, q4, q5, q6, q7, q8, q9, q10, q11, q12, q13, q14⟩ := HC.out w4 c4
          go_wp2_with fail
          clear q0 q1 q2 q3 q4 q5 q6 q7 q8 q9 q10 q11 q12 q13 q14
          refine (HF.out (⟨xi, xc, xt, xs, xp⟩) (⟨yi, xc, xt, ys, yp⟩) false Fab _).mono ?_
          rintro e w5 ⟨rfl, d5⟩
          have c5 := c4.trans (d5.mono c4.size)
          clear d5
          obtain ⟨q0, q1, q2, q3, q4, q5, q6, q7, q8, q9, q10, q11, q12, q13, q14⟩ := HC.out w5 c5
          go_wp2
          go_ret
          exact ⟨rfl, c0w.trans (c5.mono c0w.size)⟩
    · by_cases h : xt < yt
      · rcases Bool.eq_false_or_eq_true (Plain.ilt ⟨yi, xc, yt, ys, yp⟩ ⟨zi, zc, zt, zs, zp⟩) with Fbc | Fbc
        · have k2 : (xt == yt) = false := beq_eq_false_iff_ne.2 (by omega)
          have Faa : Plain.ilt ⟨xi, xc, xt, xs, xp⟩ ⟨xi, xc, xt, xs, xp⟩ = false := by rw [Plain.ilt_no]; simp only; omega
          have Fab : Plain.ilt ⟨xi, xc, xt, xs, xp⟩ ⟨yi, xc, yt, ys, yp⟩ = true := by rw [Plain.ilt_iff]; simp only; first | omega | (simp; omega)
          have Fba : Plain.ilt ⟨yi, xc, yt, ys, yp⟩ ⟨xi, xc, xt, xs, xp⟩ = false := by rw [Plain.ilt_no]; simp only; first | omega | (simp; omega)
          have Fac : Plain.ilt ⟨xi, xc, xt, xs, xp⟩ ⟨zi, zc, zt, zs, zp⟩ = true := Plain.swoI.trans _ _ _ Fab Fbc
          go_wp2_with fail
          clear q0 q1 q2 q3 q4 q5 q6 q7 q8 q9 q10 q11 q12 q13 q14
          refine (HF.out (⟨xi, xc, xt, xs, xp⟩) (⟨xi, xc, xt, xs, xp⟩) false Faa _).mono ?_
          rintro e w1 ⟨rfl, d1⟩
          have c1 := c0.trans (d1.mono c0.size)
          clear d1
          obtain ⟨q0, q1, q2, q3, q4, q5, q6, q7, q8, q9, q10, q11, q12, q13, q14⟩ := HC.out w1 c1
          go_wp2_with fail
          clear q0 q1 q2 q3 q4 q5 q6 q7 q8 q9 q10 q11 q12 q13 q14
          refine (HF.out (⟨xi, xc, xt, xs, xp⟩) (⟨yi, xc, yt, ys, yp⟩) true Fab _).mono ?_
          rintro e w2 ⟨rfl, d2⟩
          have c2 := c1.trans (d2.mono c1.size)
          clear d2
          obtain ⟨q0, q1, q2, q3, q4, q5, q6, q7, q8, q9, q10, q11, q12, q13, q14⟩ := HC.out w2 c2
          go_wp2_with fail
          clear q0 q1 q2 q3 q4 q5 q6 q7 q8 q9 q10 q11 q12 q13 q14
          refine (HF.out (⟨yi, xc, yt, ys, yp⟩) (⟨zi, zc, zt, zs, zp⟩) true Fbc _).mono ?_
          rintro e w3 ⟨rfl, d3⟩
          have c3 := c2.trans (d3.mono c2.size)
          clear d3
          obtain ⟨q0, q1, q2, q3, q4, q5, q6, q7, q8, q9, q10, q11, q12, q13, q14⟩ := HC.out w3 c3
          go_wp2_with fail
          clear q0 q1 q2 q3 q4 q5 q6 q7 q8 q9 q10 q11 q12 q13 q14
          refine (HF.out (⟨xi, xc, xt, xs, xp⟩) (⟨zi, zc, zt, zs, zp⟩) true Fac _).mono ?_
          rintro e w4 ⟨rfl, d4⟩
          have c4 := c3.trans (d4.mono c3.size)
          clear d4
          obtain ⟨q0, q1, q2, q3, q4, q5, q6, q7, q8, q9, q10, q11, q12, q13, q14⟩ := HC.out w4 c4
          go_wp2_with fail
          clear q0 q1 q2 q3 q4 q5 q6 q7 q8 q9 q10 q11 q12 q13 q14
          refine (HF.out (⟨xi, xc, xt, xs, xp⟩) (⟨yi, xc, yt, ys, yp⟩) true Fab _).mono ?_
          rintro e w5 ⟨rfl, d5⟩
          have c5 := c4.trans (d5.mono c4.size)
          clear d5
          obtain ⟨q0, q1, q2, q3, q4, q5, q6, q7, q8, q9, q10, q11, q12, q13, q14⟩ := HC.out w5 c5
          go_wp2_with fail
          clear q0 q1 q2 q3 q4 q5 q6 q7 q8 q9 q10 q11 q12 q13 q14
          refine (HF.out (⟨xi, xc, xt, xs, xp⟩) (⟨yi, xc, yt, ys, yp⟩) true Fab _).mono ?_
          rintro e w6 ⟨rfl, d6⟩
          have c6 := c5.trans (d6.mono c5.size)
          clear d6
          obtain ⟨q0, q1, q2, q3, q4, q5, q6, q7, q8, q9, q10, q11, q12, q13, q14⟩ := HC.out w6 c6
          go_wp2_with fail
          clear q0 q1 q2 q3 q4 q5 q6 q7 q8 q9 q10 q11 q12 q13 q14
          refine (HF.out (⟨yi, xc, yt, ys, yp⟩) (⟨xi, xc, xt, xs, xp⟩) false Fba _).mono ?_
          rintro e w7 ⟨rfl, d7⟩
          have c7 := c6.trans (d7.mono c6.size)
          clear d7
          obtain ⟨q0, q1, q2, q3, q4, q5, q6, q7, q8, q9, q10, q11, q12, q13, q14⟩ := HC.out w7 c7
          go_wp2
          go_ret
          exact ⟨rfl, c0w.trans (c7.mono c0w.size)⟩
        · have k2 : (xt == yt) = false := beq_eq_false_iff_ne.2 (by omega)
          have Faa : Plain.ilt ⟨xi, xc, xt, xs, xp⟩ ⟨xi, xc, xt, xs, xp⟩ = false := by rw [Plain.ilt_no]; simp only; omega
          have Fab : Plain.ilt ⟨xi, xc, xt, xs, xp⟩ ⟨yi, xc, yt, ys, yp⟩ = true := by rw [Plain.ilt_iff]; simp only; first | omega | (simp; omega)
          have Fba : Plain.ilt ⟨yi, xc, yt, ys, yp⟩ ⟨xi, xc, xt, xs, xp⟩ = false := by rw [Plain.ilt_no]; simp only; first | omega | (simp; omega)
          go_wp2_with fail
          clear q0 q1 q2 q3 q4 q5 q6 q7 q8 q9 q10 q11 q12 q13 q14
          refine (HF.out (⟨xi, xc, xt, xs, xp⟩) (⟨xi, xc, xt, xs, xp⟩) false Faa _).mono ?_
          rintro e w1 ⟨rfl, d1⟩
          have c1 := c0.trans (d1.mono c0.size)
          clear d1
          obtain ⟨q0, q1, q2, q3, q4, q5, q6, q7, q8, q9, q10, q11, q12, q13, q14⟩ := HC.out w1 c1
          go_wp2_with fail
          clear q0 q1 q2 q3 q4 q5 q6 q7 q8 q9 q10 q11 q12 q13 q14
          refine (HF.out (⟨xi, xc, xt, xs, xp⟩) (⟨yi, xc, yt, ys, yp⟩) true Fab _).mono ?_
          rintro e w2 ⟨rfl, d2⟩
          have c2 := c1.trans (d2.mono c1.size)
          clear d2
          obtain ⟨q0, q1, q2, q3, q4, q5, q6, q7, q8, q9, q10, q11, q12, q13, q14⟩ := HC.out w2 c2
          go_wp2_with fail
          clear q0 q1 q2 q3 q4 q5 q6 q7 q8 q9 q10 q11 q12 q13 q14
          refine (HF.out (⟨yi, xc, yt, ys, yp⟩) (⟨zi, zc, zt, zs, zp⟩) false Fbc _).mono ?_
          rintro e w3 ⟨rfl, d3⟩
          have c3 := c2.trans (d3.mono c2.size)
          clear d3
          obtain ⟨q0, q1, q2, q3, q4, q5, q6, q7, q8, q9, q10, q11, q12, q13, q14⟩ := HC.out w3 c3
          go_wp2_with fail
          clear q0 q1 q2 q3 q4 q5 q6 q7 q8 q9 q10 q11 q12 q13 q14
          refine (HF.out (⟨xi, xc, xt, xs, xp⟩) (⟨yi, xc, yt, ys, yp⟩) true Fab _).mono ?_
          rintro e w4 ⟨rfl, d4⟩
          have c4 := c3.trans (d4.mono c3.size)
          clear d4
          obtain ⟨q0, q1, q2, q3, q4, q5, q6, q7, q8, q9, q10, q11, q12, q13, q14⟩ := HC.out w4 c4
          go_wp2_with fail
          clear q0 q1 q2 q3 q4 q5 q6 q7 q8 q9 q10 q11 q12 q13 q14
          refine (HF.out (⟨xi, xc, xt, xs, xp⟩) (⟨yi, xc, yt, ys, yp⟩) true Fab _).mono ?_
          rintro e w5 ⟨rfl, d5⟩
          have c5 := c4.trans (d5.mono c4.size)
          clear d5
          obtain ⟨q0, q1, q2, q3, q4, q5, q6, q7, q8, q9, q10, q11, q12, q13, q14⟩ := HC.out w5 c5
          go_wp2_with fail
          clear q0 q1 q2 q3 q4 q5 q6 q7 q8 q9 q10 q11 q12 q13 q14
          refine (HF.out (⟨yi, xc, yt, ys, yp⟩) (⟨xi, xc, xt, xs, xp⟩) false Fba _).mono ?_
          rintro e w6 ⟨rfl, d6⟩
          have c6 := c5.trans (d6.mono c5.size)
          clear d6
          obtain ⟨q0, q1, q2, q3, q4, q5, q6, q7, q8, q9, q10, q11, q12, q13, q14⟩ := HC.out w6 c6
          go_wp2
          go_ret
          exact ⟨rfl, c0w.trans (c6.mono c0w.size)⟩
      · have k2 : (xt == yt) = false := beq_eq_false_iff_ne.2 (by omega)
        have Faa : Plain.ilt ⟨xi, xc, xt, xs, xp⟩ ⟨xi, xc, xt, xs, xp⟩ = false := by rw [Plain.ilt_no]; simp only; omega
        have Fab : Plain.ilt ⟨xi, xc, xt, xs, xp⟩ ⟨yi, xc, yt, ys, yp⟩ = false := by rw [Plain.ilt_no]; simp only; first | omega | (simp; omega)
        have Fba : Plain.ilt ⟨yi, xc, yt, ys, yp⟩ ⟨xi, xc, xt, xs, xp⟩ = true := by rw [Plain.ilt_iff]; simp only; first | omega | (simp; omega)
        go_wp2_with fail
        clear q0 q1 q2 q3 q4 q5 q6 q7 q8 q9 q10 q11 q12 q13 q14
        refine (HF.out (⟨xi, xc, xt, xs, xp⟩) (⟨xi, xc, xt, xs, xp⟩) false Faa _).mono ?_
        rintro e w1 ⟨rfl, d1⟩
        have c1 := c0.trans (d1.mono c0.size)
        clear d1
        obtain ⟨q0, q1, q2, q3, q4, q5, q6, q7, q8, q9, q10, q11, q12, q13, q14⟩ := HC.out w1 c1
        go_wp2_with fail
        clear q0 q1 q2 q3 q4 q5 q6 q7 q8 q9 q10 q11 q12 q13 q14
        refine (HF.out (⟨xi, xc, xt, xs, xp⟩) (⟨yi, xc, yt, ys, yp⟩) false Fab _).mono ?_
        rintro e w2 ⟨rfl, d2⟩
        have c2 := c1.trans (d2.mono c1.size)
        clear d2
        obtain ⟨q0, q1, q2, q3, q4, q5, q6, q7, q8, q9, q10, q11, q12, q13, q14⟩ := HC.out w2 c2
        go_wp2_with fail
        clear q0 q1 q2 q3 q4 q5 q6 q7 q8 q9 q10 q11 q12 q13 q14
        refine (HF.out (⟨xi, xc, xt, xs, xp⟩) (⟨yi, xc, yt, ys, yp⟩) false Fab _).mono ?_
        rintro e w3 ⟨rfl, d3⟩
        have c3 := c2.trans (d3.mono c2.size)
        clear d3
        obtain ⟨q0, q1, q2, q3, q4, q5, q6, q7, q8, q9, q10, q11, q12, q13, q14⟩ := HC.out w3 c3
        go_wp2_with fail
        clear q0 q1 q2 q3 q4 q5 q6 q7 q8 q9 q10 q11 q12 q13 q14
        refine (HF.out (⟨yi, xc, yt, ys, yp⟩) (⟨xi, xc, xt, xs, xp⟩) true Fba _).mono ?_
        rintro e w4 ⟨rfl, d4⟩
        have c4 := c3.trans (d4.mono c3.size)
        clear d4
        obtain ⟨q0, q1, q2, q3, q4, q5, q6, q7, q8, q9, q10, q11, q12, q13, q14⟩ := HC.out w4 c4
        go_wp2_with fail
        clear q0 q1 q2 q3 q4 q5 q6 q7 q8 q9 q10 q11 q12 q13 q14
        refine (HF.out (⟨xi, xc, xt, xs, xp⟩) (⟨yi, xc, yt, ys, yp⟩) false Fab _).mono ?_
        rintro e w5 ⟨rfl, d5⟩
        have c5 := c4.trans (d5.mono c4.size)
        clear d5
        obtain ⟨q0, q1, q2, q3, q4, q5, q6, q7, q8, q9, q10, q11, q12, q13, q14⟩ := HC.out w5 c5
        go_wp2
        go_ret
        exact ⟨rfl, c0w.trans (c5.mono c0w.size)⟩
  · by_cases h : xc < yc
    · rcases Bool.eq_false_or_eq_true (Plain.ilt ⟨yi, yc, yt, ys, yp⟩ ⟨zi, zc, zt, zs, zp⟩) with Fbc | Fbc
      · have k1 : (xc == yc) = false := beq_eq_false_iff_ne.2 (by omega)
        have k5 : ¬ yc ≤ xc := by omega
        have Faa : Plain.ilt ⟨xi, xc, xt, xs, xp⟩ ⟨xi, xc, xt, xs, xp⟩ = false := by rw [Plain.ilt_no]; simp only; omega
        have Fab : Plain.ilt ⟨xi, xc, xt, xs, xp⟩ ⟨yi, yc, yt, ys, yp⟩ = true := by rw [Plain.ilt_iff]; simp only; first | omega | (simp; omega)
        have Fba : Plain.ilt ⟨yi, yc, yt, ys, yp⟩ ⟨xi, xc, xt, xs, xp⟩ = false := by rw [Plain.ilt_no]; simp only; first | omega | (simp; omega)
        have Fac : Plain.ilt ⟨xi, xc, xt, xs, xp⟩ ⟨zi, zc, zt, zs, zp⟩ = true := Plain.swoI.trans _ _ _ Fab Fbc
        go_wp2_with fail
        clear q0 q1 q2 q3 q4 q5 q6 q7 q8 q9 q10 q11 q12 q13 q14
        refine (HF.out (⟨xi, xc, xt, xs, xp⟩) (⟨xi, xc, xt, xs, xp⟩) false Faa _).mono ?_
        rintro e w1 ⟨rfl, d1⟩
        have c1 := c0.trans (d1.mono c0.size)
        clear d1
        obtain ⟨q0, q1, q2, q3, q4, q5, q6, q7, q8, q9, q10, q11, q12, q13, q14⟩ := HC.out w1 c1
        go_wp2_with fail
        clear q0 q1 q2 q3 q4 q5 q6 q7 q8 q9 q10 q11 q12 q13 q14
        refine (HF.out (⟨xi, xc, xt, xs, xp⟩) (⟨yi, yc, yt, ys, yp⟩) true Fab _).mono ?_
        rintro e w2 ⟨rfl, d2⟩
        have c2 := c1.trans (d2.mono c1.size)
        clear d2
        obtain ⟨q0, q1, q2, q3, q4, q5, q6, q7, q8, q9, q10, q11, q12, q13, q14⟩ := HC.out w2 c2
        go_wp2_with fail
        clear q0 q1 q2 q3 q4 q5 q6 q7 q8 q9 q10 q11 q12 q13 q14
        refine (HF.out (⟨yi, yc, yt, ys, yp⟩) (⟨zi, zc, zt, zs, zp⟩) true Fbc _).mono ?_
        rintro e w3 ⟨rfl, d3⟩
        have c3 := c2.trans (d3.mono c2.size)
        clear d3
        obtain ⟨q0, q1, q2, q3, q4, q5, q6, q7, q8, q9, q10, q11, q12, q13, q14⟩ := HC.out w3 c3
        go_wp2_with fail
        clear q0 q1 q2 q3 q4 q5 q6 q7 q8 q9 q10 q11 q12 q13 q14
        refine (HF.out (⟨xi, xc, xt, xs, xp⟩) (⟨zi, zc, zt, zs, zp⟩) true Fac _).mono ?_
        rintro e w4 ⟨rfl, d4⟩
        have c4 := c3.trans (d4.mono c3.size)
        clear d4
        obtain ⟨q0, q1, q2, q3, q4, q5, q6, q7, q8, q9, q10, q11, q12, q13, q14⟩ := HC.out w4 c4
        go_wp2_with fail
        clear q0 q1 q2 q3 q4 q5 q6 q7 q8 q9 q10 q11 q12 q13 q14
        refine (HF.out (⟨xi, xc, xt, xs, xp⟩) (⟨yi, yc, yt, ys, yp⟩) true Fab _).mono ?_
        rintro e w5 ⟨rfl, d5⟩
        have c5 := c4.trans (d5.mono c4.size)
        clear d5
        obtain ⟨q0, q1, q2, q3, q4, q5, q6, q7, q8, q9, q10, q11, q12, q13, q14⟩ := HC.out w5 c5
        go_wp2_with fail
        clear q0 q1 q2 q3 q4 q5 q6 q7 q8 q9 q10 q11 q12 q13 q14
        refine (HF.out (⟨xi, xc, xt, xs, xp⟩) (⟨yi, yc, yt, ys, yp⟩) true Fab _).mono ?_
        rintro e w6 ⟨rfl, d6⟩
        have c6 := c5.trans (d6.mono c5.size)
        clear d6
        obtain ⟨q0, q1, q2, q3, q4, q5, q6, q7, q8, q9, q10, q11, q12, q13, q14⟩ := HC.out w6 c6
        go_wp2_with fail
        clear q0 q1 q2 q3 q4 q5 q6 q7 q8 q9 q10 q11 q12 q13 q14
        refine (HF.out (⟨yi, yc, yt, ys, yp⟩) (⟨xi, xc, xt, xs, xp⟩) false Fba _).mono ?_
        rintro e w7 ⟨rfl, d7⟩
        have c7 := c6.trans (d7.mono c6.size)
        clear d7
        obtain ⟨q0, q1, q2, q3, q4, q5, q6, q7, q8, q9, q10, q11, q12, q13, q14⟩ := HC.out w7 c7
        go_wp2_with fail
        clear q0 q1 q2 q3 q4 q5 q6 q7 q8 q9 q10 q11 q12 q13 q14
        refine (HF.out (⟨xi, xc, xt, xs, xp⟩) (⟨yi, yc, yt, ys, yp⟩) true Fab _).mono ?_
        rintro e w8 ⟨rfl, d8⟩
        have c8 := c7.trans (d8.mono c7.size)
        clear d8
        obtain ⟨q0, q1, q2, q3, q4, q5, q6, q7, q8, q9, q10, q11, q12, q13, q14⟩ := HC.out w8 c8
        go_wp2
        go_ret
        exact ⟨rfl, c0w.trans (c8.mono c0w.size)⟩
      · have k1 : (xc == yc) = false := beq_eq_false_iff_ne.2 (by omega)
        have k5 : ¬ yc ≤ xc := by omega
        have Faa : Plain.ilt ⟨xi, xc, xt, xs, xp⟩ ⟨xi, xc, xt, xs, xp⟩ = false := by rw [Plain.ilt_no]; simp only; omega
        have Fab : Plain.ilt ⟨xi, xc, xt, xs, xp⟩ ⟨yi, yc, yt, ys, yp⟩ = true := by rw [Plain.ilt_iff]; simp only; first | omega | (simp; omega)
        have Fba : Plain.ilt ⟨yi, yc, yt, ys, yp⟩ ⟨xi, xc, xt, xs, xp⟩ = false := by rw [Plain.ilt_no]; simp only; first | omega | (simp; omega)
        go_wp2_with fail
        clear q0 q1 q2 q3 q4 q5 q6 q7 q8 q9 q10 q11 q12 q13 q14
        refine (HF.out (⟨xi, xc, xt, xs, xp⟩) (⟨xi, xc, xt, xs, xp⟩) false Faa _).mono ?_
        rintro e w1 ⟨rfl, d1⟩
        have c1 := c0.trans (d1.mono c0.size)
        clear d1
        obtain ⟨q0, q1, q2, q3, q4, q5, q6, q7, q8, q9, q10, q11, q12, q13, q14⟩ := HC.out w1 c1
        go_wp2_with fail
        clear q0 q1 q2 q3 q4 q5 q6 q7 q8 q9 q10 q11 q12 q13 q14
        refine (HF.out (⟨xi, xc, xt, xs, xp⟩) (⟨yi, yc, yt, ys, yp⟩) true Fab _).mono ?_
        rintro e w2 ⟨rfl, d2⟩
        have c2 := c1.trans (d2.mono c1.size)
        clear d2
        obtain ⟨q0, q1, q2, q3, q4, q5, q6, q7, q8, q9, q10, q11, q12, q13, q14⟩ := HC.out w2 c2
        go_wp2_with fail
        clear q0 q1 q2 q3 q4 q5 q6 q7 q8 q9 q10 q11 q12 q13 q14
        refine (HF.out (⟨yi, yc, yt, ys, yp⟩) (⟨zi, zc, zt, zs, zp⟩) false Fbc _).mono ?_
        rintro e w3 ⟨rfl, d3⟩
        have c3 := c2.trans (d3.mono c2.size)
        clear d3
        obtain ⟨q0, q1, q2, q3, q4, q5, q6, q7, q8, q9, q10, q11, q12, q13, q14⟩ := HC.out w3 c3
        go_wp2_with fail
        clear q0 q1 q2 q3 q4 q5 q6 q7 q8 q9 q10 q11 q12 q13 q14
        refine (HF.out (⟨xi, xc, xt, xs, xp⟩) (⟨yi, yc, yt, ys, yp⟩) true Fab _).mono ?_
        rintro e w4 ⟨rfl, d4⟩
        have c4 := c3.trans (d4.mono c3.size)
        clear d4
        obtain ⟨q0, q1, q2, q3, q4, q5, q6, q7, q8, q9, q10, q11, q12, q13, q14⟩ := HC.out w4 c4
        go_wp2_with fail
        clear q0 q1 q2 q3 q4 q5 q6 q7 q8 q9 q10 q11 q12 q13 q14
        refine (HF.out (⟨xi, xc, xt, xs, xp⟩) (⟨yi, yc, yt, ys, yp⟩) true Fab _).mono ?_
        rintro e w5 ⟨rfl, d5⟩
        have c5 := c4.trans (d5.mono c4.size)
        clear d5
        obtain ⟨q0, q1, q2, q3, q4, q5, q6, q7, q8, q9, q10, q11, q12, q13, q14⟩ := HC.out w5 c5
        go_wp2_with fail
        clear q0 q1 q2 q3 q4 q5 q6 q7 q8 q9 q10 q11 q12 q13 q14
        refine (HF.out (⟨yi, yc, yt, ys, yp⟩) (⟨xi, xc, xt, xs, xp⟩) false Fba _).mono ?_
        rintro e w6 ⟨rfl, d6⟩
        have c6 := c5.trans (d6.mono c5.size)
        clear d6
        obtain ⟨q0, q1, q2, q3, q4, q5, q6, q7, q8, q9, q10, q11, q12, q13, q14⟩ := HC.out w6 c6
        go_wp2_with fail
        clear q0 q1 q2 q3 q4 q5 q6 q7 q8 q9 q10 q11 q12 q13 q14
        refine (HF.out (⟨xi, xc, xt, xs, xp⟩) (⟨yi, yc, yt, ys, yp⟩) true Fab _).mono ?_
        rintro e w7 ⟨rfl, d7⟩
        have c7 := c6.trans (d7.mono c6.size)
        clear d7
        obtain ⟨q0, q1, q2, q3, q4, q5, q6, q7, q8, q9, q10, q11, q12, q13, q14⟩ := HC.out w7 c7
        go_wp2
        go_ret
        exact ⟨rfl, c0w.trans (c7.mono c0w.size)⟩
    · have k1 : (xc == yc) = false := beq_eq_false_iff_ne.2 (by omega)
      have k5 : yc ≤ xc := by omega
      have Faa : Plain.ilt ⟨xi, xc, xt, xs, xp⟩ ⟨xi, xc, xt, xs, xp⟩ = false := by rw [Plain.ilt_no]; simp only; omega
      have Fab : Plain.ilt ⟨xi, xc, xt, xs, xp⟩ ⟨yi, yc, yt, ys, yp⟩ = false := by rw [Plain.ilt_no]; simp only; first | omega | (simp; omega)
      have Fba : Plain.ilt ⟨yi, yc, yt, ys, yp⟩ ⟨xi, xc, xt, xs, xp⟩ = true := by rw [Plain.ilt_iff]; simp only; first | omega | (simp; omega)
      go_wp2_with fail
      clear q0 q1 q2 q3 q4 q5 q6 q7 q8 q9 q10 q11 q12 q13 q14
      refine (HF.out (⟨xi, xc, xt, xs, xp⟩) (⟨xi, xc, xt, xs, xp⟩) false Faa _).mono ?_
      rintro e w1 ⟨rfl, d1⟩
      have c1 := c0.trans (d1.mono c0.size)
      clear d1
      obtain ⟨q0, q1, q2, q3, q4, q5, q6, q7, q8, q9, q10, q11, q12, q13, q14⟩ := HC.out w1 c1
      go_wp2_with fail
      clear q0 q1 q2 q3 q4 q5 q6 q7 q8 q9 q10 q11 q12 q13 q14
      refine (HF.out (⟨xi, xc, xt, xs, xp⟩) (⟨yi, yc, yt, ys, yp⟩) false Fab _).mono ?_
      rintro e w2 ⟨rfl, d2⟩
      have c2 := c1.trans (d2.mono c1.size)
      clear d2
      obtain ⟨q0, q1, q2, q3, q4, q5, q6, q7, q8, q9, q10, q11, q12, q13, q14⟩ := HC.out w2 c2
      go_wp2_with fail
      clear q0 q1 q2 q3 q4 q5 q6 q7 q8 q9 q10 q11 q12 q13 q14
      refine (HF.out (⟨xi, xc, xt, xs, xp⟩) (⟨yi, yc, yt, ys, yp⟩) false Fab _).mono ?_
      rintro e w3 ⟨rfl, d3⟩
      have c3 := c2.trans (d3.mono c2.size)
      clear d3
      obtain ⟨q0, q1, q2, q3, q4, q5, q6, q7, q8, q9, q10, q11, q12, q13, q14⟩ := HC.out w3 c3
      go_wp2_with fail
      clear q0 q1 q2 q3 q4 q5 q6 q7 q8 q9 q10 q11 q12 q13 q14
      refine (HF.out (⟨yi, yc, yt, ys, yp⟩) (⟨xi, xc, xt, xs, xp⟩) true Fba _).mono ?_
      rintro e w4 ⟨rfl, d4⟩
      have c4 := c3.trans (d4.mono c3.size)
      clear d4
      obtain ⟨q0, q1, q2, q3, q4, q5, q6, q7, q8, q9, q10, q11, q12, q13, q14⟩ := HC.out w4 c4
      go_wp2_with fail
      clear q0 q1 q2 q3 q4 q5 q6 q7 q8 q9 q10 q11 q12 q13 q14
      refine (HF.out (⟨xi, xc, xt, xs, xp⟩) (⟨yi, yc, yt, ys, yp⟩) false Fab _).mono ?_
      rintro e w5 ⟨rfl, d5⟩
      have c5 := c4.trans (d5.mono c4.size)
      clear d5
      obtain ⟨q0, q1, q2, q3, q4, q5, q6, q7, q8, q9, q10, q11, q12, q13, q14⟩ := HC.out w5 c5
      go_wp2
      go_ret
      exact ⟨rfl, c0w.trans (c5.mono c0w.size)⟩


set_option maxRecDepth 100000 in
theorem lifted (os : Os) (started : os.Started) (H : Type) (enc : TypeId × Value → H) :
    ReturnsInHanded {} Try.checked os 4 .any (Rows.orderStrictSpec.pre6 enc Try.prog Try.f4 Rows.orderStrictRow.domain false) (Rows.orderStrictSpec.post enc Try.prog Try.f4 false true false false) := by
  refine returnsInHanded_of_change (C := Try.checked) own started (by kernel_rfl) Try.func4
    (ChangeSpec.witness6 (enc := enc) (C := Try.checked) false ⟨#[], #[.agg #[.int .i64 0, .int .i64 0, .int .i64 0, .int .i64 0, .bool false], .agg #[.int .i64 0, .int .i64 0, .int .i64 0, .int .i64 0, .bool false], .agg #[.int .i64 0, .int .i64 0, .int .i64 0, .int .i64 0, .bool false]], []⟩ 8 (by kernel_rfl) (by kernel_rfl) (by kernel_rfl) (by kernel_rfl)) ?_
  intro W base args ds gs before hval0 hW hcnd _
  have hval : ∀ (j : Nat) t v, Try.f4.params[j]? = some t → args[j]? = some v → Value.okWide Try.prog W .any base t v := hval0
  have hfin := fun W' => law_post (enc := enc) (P := Try.prog) (f := Try.f4) (s := Rows.orderStrictSpec) (tb := 4) (W := W) (W' := W') (args := args) (ds := ds) (gs := gs) (before := before) laidOut rfl (by kernel_rfl) Try.underlying4 (by kernel_rfl) (fun xs h => by rw [Try.params4] at h; match xs, h with | [_, _, _], _ => rfl) hW
  obtain ⟨p, q, hA0, hV, rfl, hfz, hnd⟩ := hW
  have hA : DataW.TrodAll enc Try.prog W 0 (fun _ => true) true Try.f4.params.toList args.toList ds p := hA0
  rw [Try.params4] at hA hval
  obtain ⟨v0, vs0, d0, ds0, p0, q0, hargs, rfl, rfl, h0, r0⟩ := trodAll_cons hA
  obtain ⟨v1, vs1, d1, ds1, p1, q1, rfl, rfl, rfl, h1, r1⟩ := trodAll_cons r0
  obtain ⟨v2, vs2, d2, ds2, p2, q2, rfl, rfl, rfl, h2, r2⟩ := trodAll_cons r1
  obtain ⟨rfl, rfl, rfl⟩ := trodAll_nil r2
  obtain rfl : args = #[v0, v1, v2] := by cases args; simp_all
  obtain ⟨x0, rfl⟩ := open_item (hval 0 24 v0 rfl rfl) h0
  obtain ⟨x1, rfl⟩ := open_item (hval 1 24 v1 rfl rfl) h1
  obtain ⟨x2, rfl⟩ := open_item (hval 2 24 v2 rfl rfl) h2
  refine (walk W x0 x1 x2).mono fun e W' ⟨he, hg⟩ => ?_
  subst he
  exact ⟨_, rfl, hfin W' hg⟩

theorem proved : Rows.OrderStrictSaid :=
  OpenClaim.holds_of_wide 4 Try.f4 rfl rfl rfl rfl rfl rfl rfl ⟨rfl, rfl, rfl, rfl, rfl⟩ rfl rfl rfl rfl rfl (by kernel_rfl) Try.func4 (by kernel_rfl)
    (of_decide_eq_true (by kernel_rfl)) (by unfold Func.isWrapper; first | (rw [if_pos (by decide +kernel)]; kernel_rfl) | (rw [if_neg (by decide +kernel)]; exact ⟨rfl, rfl⟩))
    (fun os started H enc _ => lifted os started H enc)
#print axioms proved
end Go.Proofs.Ytkhlgjkbkpbhiaa.orderStrict
