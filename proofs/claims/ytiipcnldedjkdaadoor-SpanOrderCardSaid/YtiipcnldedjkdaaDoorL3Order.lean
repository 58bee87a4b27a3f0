/-
  P3.4, SpanOrder: for all three spans the law returns true: none is ahead of itself; of three, what is ahead of what is ahead of one is ahead of it; two of unlike starts, or numbers, are one ahead of the other. No condition; what the row lists is tied to the program's text.
-/
import Derived.Test.YtiipcnldedjkdaaDoorSpanO
namespace Go.Proofs.YtiipcnldedjkdaaDoor.spanOrder
open Go.ChangeShapes Go.WideShapes Go.ChangeAt Go.RowKit
set_option maxRecDepth 100000

theorem less_irr (s i : Int) : lessN s i s i = false := by simp [lessN]
theorem less_trans (s i s' i' s'' i'' : Int) (h : lessN s i s' i' = true) (h' : lessN s' i' s'' i'' = true) : lessN s i s'' i'' = true := by
  unfold lessN at *
  split at h <;> split at h' <;> split <;> simp at * <;> omega
theorem less_tri (s i s' i' : Int) (h : ¬ (s = s' ∧ i = i')) : lessN s' i' s i = !(lessN s i s' i') := by
  unfold lessN
  by_cases h1 : s = s'
  · subst h1
    have h2 : ¬ i = i' := fun h3 => h ⟨rfl, h3⟩
    rw [if_pos rfl, if_pos rfl]
    rcases Int.lt_trichotomy i i' with h3 | h3 | h3
    · simp [h3]; omega
    · exact absurd h3 h2
    · simp [h3]; omega
  · have h2 : ¬ s' = s := fun h => h1 h.symm
    rw [if_neg h1, if_neg h2]
    rcases Int.lt_trichotomy s s' with h3 | h3 | h3
    · simp [h3]; omega
    · exact absurd h3 h1
    · simp [h3]; omega
set_option maxHeartbeats 4000000 in
theorem walk (w : World) (hh : Handle w) (x : Plain.Sp) (_ : x.sv.length ≤ maxLen) (_ : x.nm.length ≤ maxLen) (y : Plain.Sp) (_ : y.sv.length ≤ maxLen) (_ : y.nm.length ≤ maxLen) (z : Plain.Sp) (_ : z.sv.length ≤ maxLen) (_ : z.nm.length ≤ maxLen) :
    Calls Tryd.prog 6 #[.agg #[.int .i64 x.t, .int .i64 x.i, .int .i64 x.p, .int .i64 x.s, .int .i64 x.d, .string (str x.sv), .string (str x.nm)], .agg #[.int .i64 y.t, .int .i64 y.i, .int .i64 y.p, .int .i64 y.s, .int .i64 y.d, .string (str y.sv), .string (str y.nm)], .agg #[.int .i64 z.t, .int .i64 z.i, .int .i64 z.p, .int .i64 z.s, .int .i64 z.d, .string (str z.sv), .string (str z.nm)]] w fun e w' => e = .returned (.bool true) ∧ Below w.heap.size w w' := by
  obtain ⟨xt, xi, xp, xs, xd, xv, xn⟩ := x
  obtain ⟨yt, yi, yp, ys, yd, yv, yn⟩ := y
  obtain ⟨zt, zi, zp, zs, zd, zv, zn⟩ := z
  simp only
  generalize str xv = XV
  generalize str xn = XN
  generalize str yv = YV
  generalize str yn = YN
  generalize str zv = ZV
  generalize str zn = ZN
  obtain ⟨k0, bx0, by0, bz0, hs0⟩ := three_new w #[.int .i64 xt, .int .i64 xi, .int .i64 xp, .int .i64 xs, .int .i64 xd, .string XV, .string XN] #[.int .i64 yt, .int .i64 yi, .int .i64 yp, .int .i64 ys, .int .i64 yd, .string YV, .string YN] #[.int .i64 zt, .int .i64 zi, .int .i64 zp, .int .i64 zs, .int .i64 zd, .string ZV, .string ZN] 23 23 23
  have HI := Lib.hid (less_irr xs xi)
  have HT := Lib.hid (less_trans xs xi ys yi zs zi)
  have HA := Lib.hid (less_tri xs xi ys yi)
  have HK := Lib.hid k0
  have HBX := Lib.hid bx0
  have HBY := Lib.hid by0
  have HBZ := Lib.hid bz0
  have HH := Lib.hid hh
  clear k0 bx0 by0 bz0 hh
  go_enter Tryd.func6, Tryd.ntmps6
  go_wp2_with fail
  generalize ((w.alloc (.cells #[.int .i64 xt, .int .i64 xi, .int .i64 xp, .int .i64 xs, .int .i64 xd, .string XV, .string XN] 23)).alloc (.cells #[.int .i64 yt, .int .i64 yi, .int .i64 yp, .int .i64 ys, .int .i64 yd, .string YV, .string YN] 23)).alloc (.cells #[.int .i64 zt, .int .i64 zi, .int .i64 zp, .int .i64 zs, .int .i64 zd, .string ZV, .string ZN] 23) = V at *
  have CX := Lib.hid (fun (u : World) (h : Below V.heap.size V u) => ((Kept.of h []).blk HBX.out (by simp)).seven)
  have CY := Lib.hid (fun (u : World) (h : Below V.heap.size V u) => ((Kept.of h []).blk HBY.out (by simp)).seven)
  have CZ := Lib.hid (fun (u : World) (h : Below V.heap.size V u) => ((Kept.of h []).blk HBZ.out (by simp)).seven)
  refine (head_any V (HH.out.below HH.out.lt HK.out.to)).mono ?_
  rintro e w1 ⟨rfl, c1⟩
  have HV := Lib.hid (show ∀ u, Below V.heap.size V u → Below w.heap.size w u from fun u h => HK.out.to.trans (h.mono HK.out.to.size))
  by_cases hs : xs = ys
  · subst hs
    by_cases hi : xi = yi
    · subst hi
      obtain ⟨xc0, xc1, xc2, xc3, xc4, xc5, xc6⟩ := CX.out w1 c1
      obtain ⟨yc0, yc1, yc2, yc3, yc4, yc5, yc6⟩ := CY.out w1 c1
      go_wp2_with fail
      clear xc0 xc1 xc2 xc3 xc4 xc5 xc6
      clear yc0 yc1 yc2 yc3 yc4 yc5 yc6
      refine (less_any xt xi xp xs xd XV XN xt xi xp xs xd XV XN w1).mono ?_
      rintro e w2 ⟨rfl, d2⟩
      have c2 := c1.trans (d2.mono c1.size)
      rw [HI.out]
      obtain ⟨xc0, xc1, xc2, xc3, xc4, xc5, xc6⟩ := CX.out w2 c2
      obtain ⟨yc0, yc1, yc2, yc3, yc4, yc5, yc6⟩ := CY.out w2 c2
      go_wp2_with fail
      clear xc0 xc1 xc2 xc3 xc4 xc5 xc6
      clear yc0 yc1 yc2 yc3 yc4 yc5 yc6
      refine (less_any xt xi xp xs xd XV XN yt xi yp xs yd YV YN w2).mono ?_
      rintro e w3 ⟨rfl, d3⟩
      have c3 := c2.trans (d3.mono c2.size)
      rw [HI.out]
      obtain ⟨xc0, xc1, xc2, xc3, xc4, xc5, xc6⟩ := CX.out w3 c3
      obtain ⟨yc0, yc1, yc2, yc3, yc4, yc5, yc6⟩ := CY.out w3 c3
      go_wp2_with fail
      clear xc0 xc1 xc2 xc3 xc4 xc5 xc6
      clear yc0 yc1 yc2 yc3 yc4 yc5 yc6
      refine (less_any xt xi xp xs xd XV XN yt xi yp xs yd YV YN w3).mono ?_
      rintro e w4 ⟨rfl, d4⟩
      have c4 := c3.trans (d4.mono c3.size)
      rw [HI.out]
      obtain ⟨xc0, xc1, xc2, xc3, xc4, xc5, xc6⟩ := CX.out w4 c4
      obtain ⟨yc0, yc1, yc2, yc3, yc4, yc5, yc6⟩ := CY.out w4 c4
      go_wp2_with fail
      clear xc0 xc1 xc2 xc3 xc4 xc5 xc6
      clear yc0 yc1 yc2 yc3 yc4 yc5 yc6
      refine (less_any yt xi yp xs yd YV YN xt xi xp xs xd XV XN w4).mono ?_
      rintro e w5 ⟨rfl, d5⟩
      have c5 := c4.trans (d5.mono c4.size)
      rw [HI.out]
      obtain ⟨xc0, xc1, xc2, xc3, xc4, xc5, xc6⟩ := CX.out w5 c5
      obtain ⟨yc0, yc1, yc2, yc3, yc4, yc5, yc6⟩ := CY.out w5 c5
      go_wp2_with fail
      clear xc0 xc1 xc2 xc3 xc4 xc5 xc6
      clear yc0 yc1 yc2 yc3 yc4 yc5 yc6
      refine (less_any xt xi xp xs xd XV XN yt xi yp xs yd YV YN w5).mono ?_
      rintro e w6 ⟨rfl, d6⟩
      have c6 := c5.trans (d6.mono c5.size)
      rw [HI.out]
      go_wp2
      go_ret
      exact ⟨rfl, HV.out _ c6⟩
    · have HBA := Lib.hid (HA.out (fun h => hi h.2))
      have hib : (xi == yi) = false := beq_eq_false_iff_ne.2 hi
      obtain ⟨ab, hab⟩ : ∃ ab, lessN xs xi xs yi = ab := ⟨_, rfl⟩
      obtain ⟨bc, hbc⟩ : ∃ bc, lessN xs yi zs zi = bc := ⟨_, rfl⟩
      rw [hab] at HBA HT
      rw [hbc] at HT
      have HAB := Lib.hid hab
      have HBC := Lib.hid hbc
      clear hab hbc
      obtain ⟨xc0, xc1, xc2, xc3, xc4, xc5, xc6⟩ := CX.out w1 c1
      obtain ⟨yc0, yc1, yc2, yc3, yc4, yc5, yc6⟩ := CY.out w1 c1
      rcases ab with _ | _
      · go_wp2_with fail
        clear xc0 xc1 xc2 xc3 xc4 xc5 xc6
        clear yc0 yc1 yc2 yc3 yc4 yc5 yc6
        refine (less_any xt xi xp xs xd XV XN xt xi xp xs xd XV XN w1).mono ?_
        rintro e w2 ⟨rfl, d2⟩
        have c2 := c1.trans (d2.mono c1.size)
        rw [HI.out]
        obtain ⟨xc0, xc1, xc2, xc3, xc4, xc5, xc6⟩ := CX.out w2 c2
        obtain ⟨yc0, yc1, yc2, yc3, yc4, yc5, yc6⟩ := CY.out w2 c2
        go_wp2_with fail
        clear xc0 xc1 xc2 xc3 xc4 xc5 xc6
        clear yc0 yc1 yc2 yc3 yc4 yc5 yc6
        refine (less_any xt xi xp xs xd XV XN yt yi yp xs yd YV YN w2).mono ?_
        rintro e w3 ⟨rfl, d3⟩
        have c3 := c2.trans (d3.mono c2.size)
        rw [HAB.out]
        obtain ⟨xc0, xc1, xc2, xc3, xc4, xc5, xc6⟩ := CX.out w3 c3
        obtain ⟨yc0, yc1, yc2, yc3, yc4, yc5, yc6⟩ := CY.out w3 c3
        go_wp2_with fail
        clear xc0 xc1 xc2 xc3 xc4 xc5 xc6
        clear yc0 yc1 yc2 yc3 yc4 yc5 yc6
        refine (less_any xt xi xp xs xd XV XN yt yi yp xs yd YV YN w3).mono ?_
        rintro e w4 ⟨rfl, d4⟩
        have c4 := c3.trans (d4.mono c3.size)
        rw [HAB.out]
        obtain ⟨xc0, xc1, xc2, xc3, xc4, xc5, xc6⟩ := CX.out w4 c4
        obtain ⟨yc0, yc1, yc2, yc3, yc4, yc5, yc6⟩ := CY.out w4 c4
        go_wp2_with fail
        clear xc0 xc1 xc2 xc3 xc4 xc5 xc6
        clear yc0 yc1 yc2 yc3 yc4 yc5 yc6
        refine (less_any yt yi yp xs yd YV YN xt xi xp xs xd XV XN w4).mono ?_
        rintro e w5 ⟨rfl, d5⟩
        have c5 := c4.trans (d5.mono c4.size)
        rw [HBA.out]
        obtain ⟨xc0, xc1, xc2, xc3, xc4, xc5, xc6⟩ := CX.out w5 c5
        obtain ⟨yc0, yc1, yc2, yc3, yc4, yc5, yc6⟩ := CY.out w5 c5
        go_wp2_with fail
        clear xc0 xc1 xc2 xc3 xc4 xc5 xc6
        clear yc0 yc1 yc2 yc3 yc4 yc5 yc6
        refine (less_any xt xi xp xs xd XV XN yt yi yp xs yd YV YN w5).mono ?_
        rintro e w6 ⟨rfl, d6⟩
        have c6 := c5.trans (d6.mono c5.size)
        rw [HAB.out]
        go_wp2
        go_ret
        exact ⟨rfl, HV.out _ c6⟩
      · rcases bc with _ | _
        · go_wp2_with fail
          clear xc0 xc1 xc2 xc3 xc4 xc5 xc6
          clear yc0 yc1 yc2 yc3 yc4 yc5 yc6
          refine (less_any xt xi xp xs xd XV XN xt xi xp xs xd XV XN w1).mono ?_
          rintro e w2 ⟨rfl, d2⟩
          have c2 := c1.trans (d2.mono c1.size)
          rw [HI.out]
          obtain ⟨xc0, xc1, xc2, xc3, xc4, xc5, xc6⟩ := CX.out w2 c2
          obtain ⟨yc0, yc1, yc2, yc3, yc4, yc5, yc6⟩ := CY.out w2 c2
          go_wp2_with fail
          clear xc0 xc1 xc2 xc3 xc4 xc5 xc6
          clear yc0 yc1 yc2 yc3 yc4 yc5 yc6
          refine (less_any xt xi xp xs xd XV XN yt yi yp xs yd YV YN w2).mono ?_
          rintro e w3 ⟨rfl, d3⟩
          have c3 := c2.trans (d3.mono c2.size)
          rw [HAB.out]
          obtain ⟨yc0, yc1, yc2, yc3, yc4, yc5, yc6⟩ := CY.out w3 c3
          obtain ⟨zc0, zc1, zc2, zc3, zc4, zc5, zc6⟩ := CZ.out w3 c3
          go_wp2_with fail
          clear yc0 yc1 yc2 yc3 yc4 yc5 yc6
          clear zc0 zc1 zc2 zc3 zc4 zc5 zc6
          refine (less_any yt yi yp xs yd YV YN zt zi zp zs zd ZV ZN w3).mono ?_
          rintro e w4 ⟨rfl, d4⟩
          have c4 := c3.trans (d4.mono c3.size)
          rw [HBC.out]
          obtain ⟨xc0, xc1, xc2, xc3, xc4, xc5, xc6⟩ := CX.out w4 c4
          obtain ⟨yc0, yc1, yc2, yc3, yc4, yc5, yc6⟩ := CY.out w4 c4
          go_wp2_with fail
          clear xc0 xc1 xc2 xc3 xc4 xc5 xc6
          clear yc0 yc1 yc2 yc3 yc4 yc5 yc6
          refine (less_any xt xi xp xs xd XV XN yt yi yp xs yd YV YN w4).mono ?_
          rintro e w5 ⟨rfl, d5⟩
          have c5 := c4.trans (d5.mono c4.size)
          rw [HAB.out]
          obtain ⟨xc0, xc1, xc2, xc3, xc4, xc5, xc6⟩ := CX.out w5 c5
          obtain ⟨yc0, yc1, yc2, yc3, yc4, yc5, yc6⟩ := CY.out w5 c5
          go_wp2_with fail
          clear xc0 xc1 xc2 xc3 xc4 xc5 xc6
          clear yc0 yc1 yc2 yc3 yc4 yc5 yc6
          refine (less_any xt xi xp xs xd XV XN yt yi yp xs yd YV YN w5).mono ?_
          rintro e w6 ⟨rfl, d6⟩
          have c6 := c5.trans (d6.mono c5.size)
          rw [HAB.out]
          obtain ⟨xc0, xc1, xc2, xc3, xc4, xc5, xc6⟩ := CX.out w6 c6
          obtain ⟨yc0, yc1, yc2, yc3, yc4, yc5, yc6⟩ := CY.out w6 c6
          go_wp2_with fail
          clear xc0 xc1 xc2 xc3 xc4 xc5 xc6
          clear yc0 yc1 yc2 yc3 yc4 yc5 yc6
          refine (less_any yt yi yp xs yd YV YN xt xi xp xs xd XV XN w6).mono ?_
          rintro e w7 ⟨rfl, d7⟩
          have c7 := c6.trans (d7.mono c6.size)
          rw [HBA.out]
          go_wp2
          go_ret
          exact ⟨rfl, HV.out _ c7⟩
        · have HAC := Lib.hid (HT.out rfl rfl)
          go_wp2_with fail
          clear xc0 xc1 xc2 xc3 xc4 xc5 xc6
          clear yc0 yc1 yc2 yc3 yc4 yc5 yc6
          refine (less_any xt xi xp xs xd XV XN xt xi xp xs xd XV XN w1).mono ?_
          rintro e w2 ⟨rfl, d2⟩
          have c2 := c1.trans (d2.mono c1.size)
          rw [HI.out]
          obtain ⟨xc0, xc1, xc2, xc3, xc4, xc5, xc6⟩ := CX.out w2 c2
          obtain ⟨yc0, yc1, yc2, yc3, yc4, yc5, yc6⟩ := CY.out w2 c2
          go_wp2_with fail
          clear xc0 xc1 xc2 xc3 xc4 xc5 xc6
          clear yc0 yc1 yc2 yc3 yc4 yc5 yc6
          refine (less_any xt xi xp xs xd XV XN yt yi yp xs yd YV YN w2).mono ?_
          rintro e w3 ⟨rfl, d3⟩
          have c3 := c2.trans (d3.mono c2.size)
          rw [HAB.out]
          obtain ⟨yc0, yc1, yc2, yc3, yc4, yc5, yc6⟩ := CY.out w3 c3
          obtain ⟨zc0, zc1, zc2, zc3, zc4, zc5, zc6⟩ := CZ.out w3 c3
          go_wp2_with fail
          clear yc0 yc1 yc2 yc3 yc4 yc5 yc6
          clear zc0 zc1 zc2 zc3 zc4 zc5 zc6
          refine (less_any yt yi yp xs yd YV YN zt zi zp zs zd ZV ZN w3).mono ?_
          rintro e w4 ⟨rfl, d4⟩
          have c4 := c3.trans (d4.mono c3.size)
          rw [HBC.out]
          obtain ⟨xc0, xc1, xc2, xc3, xc4, xc5, xc6⟩ := CX.out w4 c4
          obtain ⟨zc0, zc1, zc2, zc3, zc4, zc5, zc6⟩ := CZ.out w4 c4
          go_wp2_with fail
          clear xc0 xc1 xc2 xc3 xc4 xc5 xc6
          clear zc0 zc1 zc2 zc3 zc4 zc5 zc6
          refine (less_any xt xi xp xs xd XV XN zt zi zp zs zd ZV ZN w4).mono ?_
          rintro e w5 ⟨rfl, d5⟩
          have c5 := c4.trans (d5.mono c4.size)
          rw [HAC.out]
          obtain ⟨xc0, xc1, xc2, xc3, xc4, xc5, xc6⟩ := CX.out w5 c5
          obtain ⟨yc0, yc1, yc2, yc3, yc4, yc5, yc6⟩ := CY.out w5 c5
          go_wp2_with fail
          clear xc0 xc1 xc2 xc3 xc4 xc5 xc6
          clear yc0 yc1 yc2 yc3 yc4 yc5 yc6
          refine (less_any xt xi xp xs xd XV XN yt yi yp xs yd YV YN w5).mono ?_
          rintro e w6 ⟨rfl, d6⟩
          have c6 := c5.trans (d6.mono c5.size)
          rw [HAB.out]
          obtain ⟨xc0, xc1, xc2, xc3, xc4, xc5, xc6⟩ := CX.out w6 c6
          obtain ⟨yc0, yc1, yc2, yc3, yc4, yc5, yc6⟩ := CY.out w6 c6
          go_wp2_with fail
          clear xc0 xc1 xc2 xc3 xc4 xc5 xc6
          clear yc0 yc1 yc2 yc3 yc4 yc5 yc6
          refine (less_any xt xi xp xs xd XV XN yt yi yp xs yd YV YN w6).mono ?_
          rintro e w7 ⟨rfl, d7⟩
          have c7 := c6.trans (d7.mono c6.size)
          rw [HAB.out]
          obtain ⟨xc0, xc1, xc2, xc3, xc4, xc5, xc6⟩ := CX.out w7 c7
          obtain ⟨yc0, yc1, yc2, yc3, yc4, yc5, yc6⟩ := CY.out w7 c7
          go_wp2_with fail
          clear xc0 xc1 xc2 xc3 xc4 xc5 xc6
          clear yc0 yc1 yc2 yc3 yc4 yc5 yc6
          refine (less_any yt yi yp xs yd YV YN xt xi xp xs xd XV XN w7).mono ?_
          rintro e w8 ⟨rfl, d8⟩
          have c8 := c7.trans (d8.mono c7.size)
          rw [HBA.out]
          go_wp2
          go_ret
          exact ⟨rfl, HV.out _ c8⟩
  · have HBA := Lib.hid (HA.out (fun h => hs h.1))
    obtain ⟨ab, hab⟩ : ∃ ab, lessN xs xi ys yi = ab := ⟨_, rfl⟩
    obtain ⟨bc, hbc⟩ : ∃ bc, lessN ys yi zs zi = bc := ⟨_, rfl⟩
    rw [hab] at HBA HT
    rw [hbc] at HT
    have HAB := Lib.hid hab
    have HBC := Lib.hid hbc
    clear hab hbc
    obtain ⟨xc0, xc1, xc2, xc3, xc4, xc5, xc6⟩ := CX.out w1 c1
    obtain ⟨yc0, yc1, yc2, yc3, yc4, yc5, yc6⟩ := CY.out w1 c1
    rcases ab with _ | _
    · go_wp2_with fail
      clear xc0 xc1 xc2 xc3 xc4 xc5 xc6
      clear yc0 yc1 yc2 yc3 yc4 yc5 yc6
      refine (less_any xt xi xp xs xd XV XN xt xi xp xs xd XV XN w1).mono ?_
      rintro e w2 ⟨rfl, d2⟩
      have c2 := c1.trans (d2.mono c1.size)
      rw [HI.out]
      obtain ⟨xc0, xc1, xc2, xc3, xc4, xc5, xc6⟩ := CX.out w2 c2
      obtain ⟨yc0, yc1, yc2, yc3, yc4, yc5, yc6⟩ := CY.out w2 c2
      go_wp2_with fail
      clear xc0 xc1 xc2 xc3 xc4 xc5 xc6
      clear yc0 yc1 yc2 yc3 yc4 yc5 yc6
      refine (less_any xt xi xp xs xd XV XN yt yi yp ys yd YV YN w2).mono ?_
      rintro e w3 ⟨rfl, d3⟩
      have c3 := c2.trans (d3.mono c2.size)
      rw [HAB.out]
      obtain ⟨xc0, xc1, xc2, xc3, xc4, xc5, xc6⟩ := CX.out w3 c3
      obtain ⟨yc0, yc1, yc2, yc3, yc4, yc5, yc6⟩ := CY.out w3 c3
      go_wp2_with fail
      clear xc0 xc1 xc2 xc3 xc4 xc5 xc6
      clear yc0 yc1 yc2 yc3 yc4 yc5 yc6
      refine (less_any xt xi xp xs xd XV XN yt yi yp ys yd YV YN w3).mono ?_
      rintro e w4 ⟨rfl, d4⟩
      have c4 := c3.trans (d4.mono c3.size)
      rw [HAB.out]
      obtain ⟨xc0, xc1, xc2, xc3, xc4, xc5, xc6⟩ := CX.out w4 c4
      obtain ⟨yc0, yc1, yc2, yc3, yc4, yc5, yc6⟩ := CY.out w4 c4
      go_wp2_with fail
      clear xc0 xc1 xc2 xc3 xc4 xc5 xc6
      clear yc0 yc1 yc2 yc3 yc4 yc5 yc6
      refine (less_any yt yi yp ys yd YV YN xt xi xp xs xd XV XN w4).mono ?_
      rintro e w5 ⟨rfl, d5⟩
      have c5 := c4.trans (d5.mono c4.size)
      rw [HBA.out]
      obtain ⟨xc0, xc1, xc2, xc3, xc4, xc5, xc6⟩ := CX.out w5 c5
      obtain ⟨yc0, yc1, yc2, yc3, yc4, yc5, yc6⟩ := CY.out w5 c5
      go_wp2_with fail
      clear xc0 xc1 xc2 xc3 xc4 xc5 xc6
      clear yc0 yc1 yc2 yc3 yc4 yc5 yc6
      refine (less_any xt xi xp xs xd XV XN yt yi yp ys yd YV YN w5).mono ?_
      rintro e w6 ⟨rfl, d6⟩
      have c6 := c5.trans (d6.mono c5.size)
      rw [HAB.out]
      go_wp2
      go_ret
      exact ⟨rfl, HV.out _ c6⟩
    · rcases bc with _ | _
      · go_wp2_with fail
        clear xc0 xc1 xc2 xc3 xc4 xc5 xc6
        clear yc0 yc1 yc2 yc3 yc4 yc5 yc6
        refine (less_any xt xi xp xs xd XV XN xt xi xp xs xd XV XN w1).mono ?_
        rintro e w2 ⟨rfl, d2⟩
        have c2 := c1.trans (d2.mono c1.size)
        rw [HI.out]
        obtain ⟨xc0, xc1, xc2, xc3, xc4, xc5, xc6⟩ := CX.out w2 c2
        obtain ⟨yc0, yc1, yc2, yc3, yc4, yc5, yc6⟩ := CY.out w2 c2
        go_wp2_with fail
        clear xc0 xc1 xc2 xc3 xc4 xc5 xc6
        clear yc0 yc1 yc2 yc3 yc4 yc5 yc6
        refine (less_any xt xi xp xs xd XV XN yt yi yp ys yd YV YN w2).mono ?_
        rintro e w3 ⟨rfl, d3⟩
        have c3 := c2.trans (d3.mono c2.size)
        rw [HAB.out]
        obtain ⟨yc0, yc1, yc2, yc3, yc4, yc5, yc6⟩ := CY.out w3 c3
        obtain ⟨zc0, zc1, zc2, zc3, zc4, zc5, zc6⟩ := CZ.out w3 c3
        go_wp2_with fail
        clear yc0 yc1 yc2 yc3 yc4 yc5 yc6
        clear zc0 zc1 zc2 zc3 zc4 zc5 zc6
        refine (less_any yt yi yp ys yd YV YN zt zi zp zs zd ZV ZN w3).mono ?_
        rintro e w4 ⟨rfl, d4⟩
        have c4 := c3.trans (d4.mono c3.size)
        rw [HBC.out]
        obtain ⟨xc0, xc1, xc2, xc3, xc4, xc5, xc6⟩ := CX.out w4 c4
        obtain ⟨yc0, yc1, yc2, yc3, yc4, yc5, yc6⟩ := CY.out w4 c4
        go_wp2_with fail
        clear xc0 xc1 xc2 xc3 xc4 xc5 xc6
        clear yc0 yc1 yc2 yc3 yc4 yc5 yc6
        refine (less_any xt xi xp xs xd XV XN yt yi yp ys yd YV YN w4).mono ?_
        rintro e w5 ⟨rfl, d5⟩
        have c5 := c4.trans (d5.mono c4.size)
        rw [HAB.out]
        obtain ⟨xc0, xc1, xc2, xc3, xc4, xc5, xc6⟩ := CX.out w5 c5
        obtain ⟨yc0, yc1, yc2, yc3, yc4, yc5, yc6⟩ := CY.out w5 c5
        go_wp2_with fail
        clear xc0 xc1 xc2 xc3 xc4 xc5 xc6
        clear yc0 yc1 yc2 yc3 yc4 yc5 yc6
        refine (less_any xt xi xp xs xd XV XN yt yi yp ys yd YV YN w5).mono ?_
        rintro e w6 ⟨rfl, d6⟩
        have c6 := c5.trans (d6.mono c5.size)
        rw [HAB.out]
        obtain ⟨xc0, xc1, xc2, xc3, xc4, xc5, xc6⟩ := CX.out w6 c6
        obtain ⟨yc0, yc1, yc2, yc3, yc4, yc5, yc6⟩ := CY.out w6 c6
        go_wp2_with fail
        clear xc0 xc1 xc2 xc3 xc4 xc5 xc6
        clear yc0 yc1 yc2 yc3 yc4 yc5 yc6
        refine (less_any yt yi yp ys yd YV YN xt xi xp xs xd XV XN w6).mono ?_
        rintro e w7 ⟨rfl, d7⟩
        have c7 := c6.trans (d7.mono c6.size)
        rw [HBA.out]
        go_wp2
        go_ret
        exact ⟨rfl, HV.out _ c7⟩
      · have HAC := Lib.hid (HT.out rfl rfl)
        go_wp2_with fail
        clear xc0 xc1 xc2 xc3 xc4 xc5 xc6
        clear yc0 yc1 yc2 yc3 yc4 yc5 yc6
        refine (less_any xt xi xp xs xd XV XN xt xi xp xs xd XV XN w1).mono ?_
        rintro e w2 ⟨rfl, d2⟩
        have c2 := c1.trans (d2.mono c1.size)
        rw [HI.out]
        obtain ⟨xc0, xc1, xc2, xc3, xc4, xc5, xc6⟩ := CX.out w2 c2
        obtain ⟨yc0, yc1, yc2, yc3, yc4, yc5, yc6⟩ := CY.out w2 c2
        go_wp2_with fail
        clear xc0 xc1 xc2 xc3 xc4 xc5 xc6
        clear yc0 yc1 yc2 yc3 yc4 yc5 yc6
        refine (less_any xt xi xp xs xd XV XN yt yi yp ys yd YV YN w2).mono ?_
        rintro e w3 ⟨rfl, d3⟩
        have c3 := c2.trans (d3.mono c2.size)
        rw [HAB.out]
        obtain ⟨yc0, yc1, yc2, yc3, yc4, yc5, yc6⟩ := CY.out w3 c3
        obtain ⟨zc0, zc1, zc2, zc3, zc4, zc5, zc6⟩ := CZ.out w3 c3
        go_wp2_with fail
        clear yc0 yc1 yc2 yc3 yc4 yc5 yc6
        clear zc0 zc1 zc2 zc3 zc4 zc5 zc6
        refine (less_any yt yi yp ys yd YV YN zt zi zp zs zd ZV ZN w3).mono ?_
        rintro e w4 ⟨rfl, d4⟩
        have c4 := c3.trans (d4.mono c3.size)
        rw [HBC.out]
        obtain ⟨xc0, xc1, xc2, xc3, xc4, xc5, xc6⟩ := CX.out w4 c4
        obtain ⟨zc0, zc1, zc2, zc3, zc4, zc5, zc6⟩ := CZ.out w4 c4
        go_wp2_with fail
        clear xc0 xc1 xc2 xc3 xc4 xc5 xc6
        clear zc0 zc1 zc2 zc3 zc4 zc5 zc6
        refine (less_any xt xi xp xs xd XV XN zt zi zp zs zd ZV ZN w4).mono ?_
        rintro e w5 ⟨rfl, d5⟩
        have c5 := c4.trans (d5.mono c4.size)
        rw [HAC.out]
        obtain ⟨xc0, xc1, xc2, xc3, xc4, xc5, xc6⟩ := CX.out w5 c5
        obtain ⟨yc0, yc1, yc2, yc3, yc4, yc5, yc6⟩ := CY.out w5 c5
        go_wp2_with fail
        clear xc0 xc1 xc2 xc3 xc4 xc5 xc6
        clear yc0 yc1 yc2 yc3 yc4 yc5 yc6
        refine (less_any xt xi xp xs xd XV XN yt yi yp ys yd YV YN w5).mono ?_
        rintro e w6 ⟨rfl, d6⟩
        have c6 := c5.trans (d6.mono c5.size)
        rw [HAB.out]
        obtain ⟨xc0, xc1, xc2, xc3, xc4, xc5, xc6⟩ := CX.out w6 c6
        obtain ⟨yc0, yc1, yc2, yc3, yc4, yc5, yc6⟩ := CY.out w6 c6
        go_wp2_with fail
        clear xc0 xc1 xc2 xc3 xc4 xc5 xc6
        clear yc0 yc1 yc2 yc3 yc4 yc5 yc6
        refine (less_any xt xi xp xs xd XV XN yt yi yp ys yd YV YN w6).mono ?_
        rintro e w7 ⟨rfl, d7⟩
        have c7 := c6.trans (d7.mono c6.size)
        rw [HAB.out]
        obtain ⟨xc0, xc1, xc2, xc3, xc4, xc5, xc6⟩ := CX.out w7 c7
        obtain ⟨yc0, yc1, yc2, yc3, yc4, yc5, yc6⟩ := CY.out w7 c7
        go_wp2_with fail
        clear xc0 xc1 xc2 xc3 xc4 xc5 xc6
        clear yc0 yc1 yc2 yc3 yc4 yc5 yc6
        refine (less_any yt yi yp ys yd YV YN xt xi xp xs xd XV XN w7).mono ?_
        rintro e w8 ⟨rfl, d8⟩
        have c8 := c7.trans (d8.mono c7.size)
        rw [HBA.out]
        go_wp2
        go_ret
        exact ⟨rfl, HV.out _ c8⟩
set_option maxRecDepth 100000 in
theorem lifted (os : Os) (started : os.Started) (H : Type) (enc : TypeId × Value → H) :
    ReturnsInHanded {} Tryd.checked os 6 .any (fun w args => (Rows.spanOrderSpec.pre enc Tryd.prog Tryd.f6 [] false w args ∧ laidMetH Tryd.prog laidHere w) ∧ sizedMet enc Tryd.prog Tryd.f6 (OpenSpec.ofChange Rows.spanOrderSpec) false w args) (Rows.spanOrderSpec.post enc Tryd.prog Tryd.f6 false true false false) := by
  refine returnsInHanded_of_change_and (C := Tryd.checked) (X := fun w _ => laidMetH Tryd.prog laidHere w) (fun _ _ _ hh h => h.of_heap hh) own started (by kernel_rfl) Tryd.func6
    (ChangeSpec.witness_at (enc := enc) (C := Tryd.checked) (os := os) (X := fun w _ => laidMetH Tryd.prog laidHere w) false (laidWorld os) #[.agg #[.int .i64 0, .int .i64 0, .int .i64 0, .int .i64 0, .int .i64 0, .string .empty, .string .empty], .agg #[.int .i64 0, .int .i64 0, .int .i64 0, .int .i64 0, .int .i64 0, .string .empty, .string .empty], .agg #[.int .i64 0, .int .i64 0, .int .i64 0, .int .i64 0, .int .i64 0, .string .empty, .string .empty]] 8 rfl (by kernel_rfl) (by kernel_rfl) (by kernel_rfl) (by kernel_rfl) (by kernel_rfl) (laidWorld_met os _)) ?_
  intro W base args ds gs before hval0 hW _ _ hL _
  have hval : ∀ (j : Nat) t v, Tryd.f6.params[j]? = some t → args[j]? = some v → Value.okWide Tryd.prog W .any base t v := hval0
  have hfin := fun W' => law_post (enc := enc) (P := Tryd.prog) (f := Tryd.f6) (s := Rows.spanOrderSpec) (tb := 4) (W := W) (W' := W') (args := args) (ds := ds) (gs := gs) (before := before) laidOut rfl (by kernel_rfl) Tryd.underlying4 (by kernel_rfl) (fun xs h => by rw [Tryd.params6] at h; match xs, h with | [_, _, _], _ => rfl) hW
  obtain ⟨p, q, hA0, hV, rfl, hfz, hnd⟩ := hW
  have hA : DataW.TrodAll enc Tryd.prog W 0 (fun _ => true) true Tryd.f6.params.toList args.toList ds p := hA0
  rw [Tryd.params6] at hA hval
  obtain ⟨v0, vs0, d0, ds0, p0, q0, hargs, rfl, rfl, h0, r0⟩ := trodAll_cons hA
  obtain ⟨v1, vs1, d1, ds1, p1, q1, rfl, rfl, rfl, h1, r1⟩ := trodAll_cons r0
  obtain ⟨v2, vs2, d2, ds2, p2, q2, rfl, rfl, rfl, h2, r2⟩ := trodAll_cons r1
  obtain ⟨rfl, rfl, rfl⟩ := trodAll_nil r2
  obtain rfl : args = #[v0, v1, v2] := by cases args; simp_all
  obtain ⟨x0, rfl, hs0, hn0⟩ := open_span (hval 0 23 v0 rfl rfl) h0
  obtain ⟨x1, rfl, hs1, hn1⟩ := open_span (hval 1 23 v1 rfl rfl) h1
  obtain ⟨x2, rfl, hs2, hn2⟩ := open_span (hval 2 23 v2 rfl rfl) h2
  refine (walk W (of_laid hL) x0 hs0 hn0 x1 hs1 hn1 x2 hs2 hn2).mono fun e W' ⟨he, hg⟩ => ?_
  subst he
  exact ⟨_, rfl, hfin W' hg⟩

theorem proved : Rows.SpanOrderSaid :=
  OpenClaim.holds_of_wide 6 Tryd.f6 rfl rfl rfl rfl rfl rfl rfl ⟨rfl, rfl, rfl, rfl, rfl⟩ rfl rfl rfl rfl rfl (by kernel_rfl) Tryd.func6 (by kernel_rfl)
    (of_decide_eq_true (by kernel_rfl)) (by unfold Func.isWrapper; first | (rw [if_pos (by decide +kernel)]; kernel_rfl) | (rw [if_neg (by decide +kernel)]; exact ⟨rfl, rfl⟩))
    (fun os started H enc _ => lifted os started H enc)

set_option maxRecDepth 100000 in
theorem card : Rows.SpanOrderCardSaid :=
  Claim7.holds_tied_plain_at .later [] laidKindsHere true _ true
    proved (fun _ h => by cases h) (by kernel_rfl) (fun _ h => by cases h) spanOrder_row_tie rfl ⟨rfl, rfl⟩ (by kernel_rfl) rfl
    (fun f fn hf hfn => by
      obtain rfl : f = 6 := Option.some.inj ((show Tryd.prog.funcNamed "turntable/turntablelaw03.SpanOrder" = some 6 by kernel_rfl).symm.trans hf) |>.symm
      obtain rfl : fn = Tryd.f6 := (Option.some.inj (Tryd.func6.symm.trans hfn)).symm
      exact ⟨by kernel_rfl, fun j t ht => by
        rw [Tryd.params6] at ht
        have hm : t ∈ [23] := by simpa using Array.mem_of_getElem? ht
        have hall : ([23].all fun u => !Tryd.prog.wantsStandIn u) = true := by kernel_rfl
        exact (show Tryd.prog.wantsStandIn t = false by simpa using List.all_eq_true.1 hall t hm)⟩)
    (by kernel_rfl)
#print axioms card
end Go.Proofs.YtiipcnldedjkdaaDoor.spanOrder
