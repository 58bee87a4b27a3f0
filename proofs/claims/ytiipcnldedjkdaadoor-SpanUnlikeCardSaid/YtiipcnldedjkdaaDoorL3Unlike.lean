/-
  P3.2, SpanUnlike: for all two spans the law returns true: unlike right spans have unlike bytes, of which none begins another one's. No condition; what the row lists is tied to the program's text.
-/
import Derived.Test.YtiipcnldedjkdaaDoorSpanO
namespace Go.Proofs.YtiipcnldedjkdaaDoor.spanUnlike
open Go.ChangeShapes Go.WideShapes Go.ChangeAt Go.RowKit
set_option maxRecDepth 100000

theorem soft_agg {w : World} {ρ : Operand → Value} {o : Oper} {x y : Operand} {xs ys : Array Value} {u : Value} (hx : ρ x = .agg xs) (hy : ρ y = .agg ys) (hr : (binOp .eql 23 (.agg xs) (.agg ys)).run Tryd.prog w = .ok u w) (ho : o.op = .binOp .eql 23 x y 23) : softUpon Tryd.prog w (Fact.is u) ((execOp ρ o).run Tryd.prog w) := by
  have e : (execOp ρ o).run Tryd.prog w = .ok (.value u) w := by
    have hg := run_eqGuard_agg (P := Tryd.prog) w .eql 23 x y xs ys (by kernel_rfl)
    simp [execOp, ho, hx, hy, hg, hr]
  rw [e]
  exact ⟨rfl, Below.refl _ _⟩
theorem geq_i (W : World) (n : Nat) (h : 8 ≤ n) : (binOp .geq 3 (.int .i64 (n : Int)) (.int .i64 8)).run Tryd.prog W = .ok (.bool true) W := by
  have h' : (8 : Int) ≤ (n : Int) := by omega
  go_simp
theorem eq_str (W : World) (a b : List UInt8) : (binOp .eql 9 (.string (str a)) (.string (str b))).run Tryd.prog W = .ok (.bool (decide (a = b))) W := by
  have h : ((str a).toList == (str b).toList) = decide (a = b) := by
    rw [str_list, str_list]
    by_cases h : a = b
    · subst h; simp
    · simp [h]
  rw [← h]
  go_simp

theorem min_run (x y : Nat) (W : World) : (Builtin.min_ #[3, 3] 3 #[.int .i64 (x : Int), .int .i64 (y : Int)]).run Tryd.prog W = .ok (.int .i64 ((min x y : Nat) : Int)) W := by
  rcases Nat.lt_or_ge y x with h | h
  · have e : min x y = y := by omega
    rw [e]
    have h1 : (y : Int) < (x : Int) := by omega
    simp [Builtin.min_, Builtin.min2, go_sem]
    omega
  · have e : min x y = x := by omega
    rw [e]
    have h1 : ¬ (y : Int) < (x : Int) := by omega
    simp [Builtin.min_, Builtin.min2, go_sem]
    omega

set_option maxHeartbeats 4000000 in
theorem walk (w : World) (hh : Handle w) (x : Plain.Sp) (hxv : x.sv.length ≤ maxLen) (hxn : x.nm.length ≤ maxLen) (y : Plain.Sp) (hyv : y.sv.length ≤ maxLen) (hyn : y.nm.length ≤ maxLen) :
    Calls Tryd.prog 8 #[.agg #[.int .i64 x.t, .int .i64 x.i, .int .i64 x.p, .int .i64 x.s, .int .i64 x.d, .string (str x.sv), .string (str x.nm)], .agg #[.int .i64 y.t, .int .i64 y.i, .int .i64 y.p, .int .i64 y.s, .int .i64 y.d, .string (str y.sv), .string (str y.nm)]] w fun e w' => e = .returned (.bool true) ∧ Below w.heap.size w w' := by
  have hPx := fun u : World => spanPut_any none 0 0 [] x u rfl (by omega) Lies.nil hxv hxn
  have hPy := fun u : World => spanPut_any none 0 0 [] y u rfl (by omega) Lies.nil hyv hyn
  have hor : x.right = true → x.outp = x.bytes ∧ 8 ≤ x.bytes.length := fun h => ⟨by unfold Plain.Sp.outp; rw [if_pos h], x.bytes_len h⟩
  have hory : y.right = true → y.outp = y.bytes ∧ 8 ≤ y.bytes.length := fun h => ⟨by unfold Plain.Sp.outp; rw [if_pos h], y.bytes_len h⟩
  have hmx := x.put_max
  have hmy := y.put_max
  have hbg := x.bytes_begin y (min x.bytes.length y.bytes.length)
  have hex := fun W : World => eq_sp W x y
  have hrx : x.right = Plain.rightN x.t x.i x.p x.s x.d (str x.sv).size (str x.nm).size := by rw [str_size, str_size]; rfl
  have hry : y.right = Plain.rightN y.t y.i y.p y.s y.d (str y.sv).size (str y.nm).size := by rw [str_size, str_size]; rfl
  rw [← str_size x.sv] at hxv
  rw [← str_size x.nm] at hxn
  rw [← str_size y.sv] at hyv
  rw [← str_size y.nm] at hyn
  simp only [List.nil_append] at hPx hPy
  generalize x.outp = ox at *
  generalize y.outp = oy at *
  generalize x.bytes = bx at *
  generalize y.bytes = by_ at *
  generalize x.right = Rx at *
  generalize y.right = Ry at *
  obtain ⟨E, hE⟩ : ∃ E, decide (x = y) = E := ⟨_, rfl⟩
  have hE' : x = y ↔ E = true := by rw [← hE]; simp
  rw [hE'] at hbg
  rw [hE] at hex
  obtain ⟨xt, xi, xp, xs, xd, xv, xn⟩ := x
  obtain ⟨yt, yi, yp, ys, yd, yv, yn⟩ := y
  simp only at *
  generalize str xv = XV at *
  generalize str xn = XN at *
  generalize str yv = YV at *
  generalize str yn = YN at *
  have HH := Lib.hid hh
  have HPX := Lib.hid hPx
  have HPY := Lib.hid hPy
  have HOX := Lib.hid hor
  have HOY := Lib.hid hory
  have HBG := Lib.hid hbg
  have EQX := Lib.hid hex
  have HRX := Lib.hid hrx
  have HRY := Lib.hid hry
  clear hPx hPy hor hory hbg hex hrx hry hE' hE hh
  obtain ⟨k0, bx0, by0, hs0⟩ := two_new w #[.int .i64 xt, .int .i64 xi, .int .i64 xp, .int .i64 xs, .int .i64 xd, .string XV, .string XN] #[.int .i64 yt, .int .i64 yi, .int .i64 yp, .int .i64 ys, .int .i64 yd, .string YV, .string YN] 23 23
  have HK := Lib.hid k0
  have HBX := Lib.hid bx0
  have HBY := Lib.hid by0
  clear k0 bx0 by0
  go_enter Tryd.func8, Tryd.ntmps8
  go_wp2_with fail
  generalize (w.alloc (.cells #[.int .i64 xt, .int .i64 xi, .int .i64 xp, .int .i64 xs, .int .i64 xd, .string XV, .string XN] 23)).alloc (.cells #[.int .i64 yt, .int .i64 yi, .int .i64 yp, .int .i64 ys, .int .i64 yd, .string YV, .string YN] 23) = V at *
  have CX := Lib.hid (fun (u : World) (h : Below V.heap.size V u) => ((Kept.of h []).blk HBX.out (by simp)).seven)
  have CY := Lib.hid (fun (u : World) (h : Below V.heap.size V u) => ((Kept.of h []).blk HBY.out (by simp)).seven)
  have HV := Lib.hid (show ∀ u, Below V.heap.size V u → Below w.heap.size w u from fun u h => HK.out.to.trans (h.mono HK.out.to.size))
  refine (head_any V (HH.out.below HH.out.lt HK.out.to)).mono ?_
  rintro e w1 ⟨rfl, c1⟩
  obtain ⟨x0, x1, x2, x3, x4, x5, x6⟩ := CX.out w1 c1
  go_wp2_with fail
  clear x0 x1 x2 x3 x4 x5 x6
  refine (great_any xt xi xp xs xd XV XN w1 hxv hxn).mono ?_
  rintro e w2 ⟨⟨g, rfl⟩, d2⟩
  have c2 := c1.trans (d2.mono c1.size)
  rcases g with _ | _
  rotate_left
  · go_wp2
    go_ret
    exact ⟨rfl, HV.out _ c2⟩
  obtain ⟨x0, x1, x2, x3, x4, x5, x6⟩ := CY.out w2 c2
  go_wp2_with fail
  clear x0 x1 x2 x3 x4 x5 x6
  refine (great_any yt yi yp ys yd YV YN w2 hyv hyn).mono ?_
  rintro e w3 ⟨⟨g, rfl⟩, d3⟩
  have c3 := c2.trans (d3.mono c2.size)
  rcases g with _ | _
  rotate_left
  · go_wp2
    go_ret
    exact ⟨rfl, HV.out _ c3⟩
  obtain ⟨x0, x1, x2, x3, x4, x5, x6⟩ := CX.out w3 c3
  go_wp2_with fail
  clear x0 x1 x2 x3 x4 x5 x6
  refine (right_any xt xi xp xs xd XV XN w3 hxv hxn).mono ?_
  rintro e w4 ⟨rfl, d4⟩
  have c4 := c3.trans (d4.mono c3.size)
  rw [← HRX.out]
  rcases Rx with _ | _
  · go_wp2
    go_ret
    exact ⟨rfl, HV.out _ c4⟩
  obtain ⟨x0, x1, x2, x3, x4, x5, x6⟩ := CY.out w4 c4
  go_wp2_with fail
  clear x0 x1 x2 x3 x4 x5 x6
  refine (right_any yt yi yp ys yd YV YN w4 hyv hyn).mono ?_
  rintro e w5 ⟨rfl, d5⟩
  have c5 := c4.trans (d5.mono c4.size)
  rw [← HRY.out]
  rcases Ry with _ | _
  · go_wp2
    go_ret
    exact ⟨rfl, HV.out _ c5⟩
  obtain ⟨x0, x1, x2, x3, x4, x5, x6⟩ := CX.out w5 c5
  go_wp2_with fail
  clear x0 x1 x2 x3 x4 x5 x6
  refine (HPX.out w5).mono ?_
  rintro e w6 ⟨v, rfl, ho, d6⟩
  have c6 := c5.trans (d6.mono c5.size)
  obtain ⟨A1, cap1, rfl, hlc1, hcm1, -, hL1⟩ := own_form ho
  clear ho
  obtain ⟨x0, x1, x2, x3, x4, x5, x6⟩ := CY.out w6 c6
  go_wp2_with fail
  clear x0 x1 x2 x3 x4 x5 x6
  refine (HPY.out w6).mono ?_
  rintro e w7 ⟨v, rfl, ho, d7⟩
  have c7 := c6.trans (d7.mono c6.size)
  obtain ⟨A2, cap2, rfl, hlc2, hcm2, -, hL2⟩ := own_form ho
  clear ho
  have hL1' := hL1.below d7
  obtain ⟨eX, lX⟩ := HOX.out trivial
  obtain ⟨eY, lY⟩ := HOY.out trivial
  have HB := Lib.hid (HBG.out trivial trivial trivial)
  subst eX eY
  have hmin := fun W => min_run ox.length oy.length W
  have GE := Lib.hid (fun (W : World) => geq_i W (min ox.length oy.length) (by omega))
  have hn1 : min ox.length oy.length ≤ ox.length := by omega
  have hn2 : min ox.length oy.length ≤ oy.length := by omega
  have CV1 := Lib.hid (fun (W : World) (h : Below w7.heap.size w7 W) => conv_take (hL1'.below h) (min ox.length oy.length) cap1 hn1)
  have CV2 := Lib.hid (fun (W : World) (h : Below w7.heap.size w7 W) => conv_take (hL2.below h) (min ox.length oy.length) cap2 hn2)
  have EQS := Lib.hid (fun (W : World) => eq_str W (ox.take (min ox.length oy.length)) (oy.take (min ox.length oy.length)))
  rw [show decide (ox.take (min ox.length oy.length) = oy.take (min ox.length oy.length)) = E by
    have := HB.out
    cases E
    · simpa using this
    · simpa using this] at EQS
  generalize str (ox.take (min ox.length oy.length)) = P1 at *
  generalize str (oy.take (min ox.length oy.length)) = P2 at *
  generalize hnn : min ox.length oy.length = n at *
  clear hnn HB HOX HOY HPX HPY HBG
  generalize ox.length = L1 at *
  generalize oy.length = L2 at *
  have SL1 := Lib.hid (fun (W : World) => show (Instr.sliceAt 24 (.slice A1 L1 cap1) none (some (.int .i64 (n : Int))) none).run Tryd.prog W = .ok (.slice A1 n cap1) W from by
    have hjc : n ≤ cap1 := by omega
    go_simp)
  have SL2 := Lib.hid (fun (W : World) => show (Instr.sliceAt 24 (.slice A2 L2 cap2) none (some (.int .i64 (n : Int))) none).run Tryd.prog W = .ok (.slice A2 n cap2) W from by
    have hjc : n ≤ cap2 := by omega
    go_simp)
  have LX := Lib.hid (fun (W : World) (h : Below w7.heap.size w7 W) => load_span ((Kept.of (c7.trans (h.mono c7.size)) []).blk HBX.out (by simp)))
  have LY := Lib.hid (fun (W : World) (h : Below w7.heap.size w7 W) => load_span ((Kept.of (c7.trans (h.mono c7.size)) []).blk HBY.out (by simp)))
  have hbd : Below w7.heap.size w7 w7.drew := (Below.refl _ _).drew
  generalize hN0 : w.heap.size = N0 at *
  generalize hN1 : N0 + 1 = N1 at *
  have HN0 := Lib.hid hN0
  clear hN0 hN1
  go_wp2
  refine wp_softS (by kernel_rfl) 56 [(36, [5]), (37, [36]), (38, [8, 37]), (39, [38, 37]), (40, [37, 39]), (41, [40]), (42, [6, 41]), (43, [8, 41]), (44, [42, 43, 41]), (45, [44, 41]), (46, [7, 41]), (47, [8, 41]), (48, [46, 47, 41]), (49, [48, 41]), (50, [45, 49, 41]), (51, [2, 41]), (52, [3, 41]), (53, [51, 52, 41]), (54, [50, 53, 41]), (55, [41, 54]), (4, [55])]
    [Fact.is (.bool true), Fact.is (.bool true), Fact.is (.int .i64 n), Fact.is (.bool true), Fact.is (.bool true), Fact.is (.bool true), Fact.is (.slice A1 L1 cap1), Fact.is (.int .i64 n), Fact.is (.slice A1 n cap1), Fact.is (.string P1), Fact.is (.slice A2 L2 cap2), Fact.is (.int .i64 n), Fact.is (.slice A2 n cap2), Fact.is (.string P2), Fact.is (.bool E), Fact.is (.agg #[.int .i64 xt, .int .i64 xi, .int .i64 xp, .int .i64 xs, .int .i64 xd, .string XV, .string XN]), Fact.is (.agg #[.int .i64 yt, .int .i64 yi, .int .i64 yp, .int .i64 ys, .int .i64 yd, .string YV, .string YN]), Fact.is (.bool E), Fact.is (.bool true), Fact.is (.bool true), Fact.is (.bool true)]
    (by kernel_rfl) rfl rfl ⟨?s0, ?s1, ?s2, ?s3, ?s4, ?s5, ?s6, ?s7, ?s8, ?s9, ?s10, ?s11, ?s12, ?s13, ?s14, ?s15, ?s16, ?s17, ?s18, ?s19, ?s20, trivial⟩ ?fin
  case s0 =>
    intro ρ W hb hc hf hr
    obtain ⟨r5, -⟩ := hr
    have e5 : ρ (.tmp 5) = .bool true := r5
    clear r5
    refine under_none rfl ?_
    exact ⟨e5, Below.refl _ _⟩
  case s1 =>
    intro ρ W hb hc hf hr
    obtain ⟨r36, -⟩ := hr
    have e36 : ρ (.tmp 36) = .bool true := r36
    clear r36
    refine under_none rfl ?_
    exact ⟨e36, Below.refl _ _⟩
  case s2 =>
    intro ρ W hb hc hf hr
    obtain ⟨r8, r37, -⟩ := hr
    have e8 : ρ (.tmp 8) = .int .i64 n := r8
    clear r8
    have e37 : ρ (.tmp 37) = .bool true := r37
    clear r37
    refine ⟨37, rfl, .inl ⟨e37, ?_⟩⟩
    exact ⟨e8, Below.refl _ _⟩
  case s3 =>
    intro ρ W hb hc hf hr
    obtain ⟨r38, r37, -⟩ := hr
    have e38 : ρ (.tmp 38) = .int .i64 n := r38
    clear r38
    have e37 : ρ (.tmp 37) = .bool true := r37
    clear r37
    refine ⟨37, rfl, .inl ⟨e37, ?_⟩⟩
    exact soft_bin e38 (hc _) rfl rfl (GE.out W)
  case s4 =>
    intro ρ W hb hc hf hr
    obtain ⟨r37, r39, -⟩ := hr
    have e37 : ρ (.tmp 37) = .bool true := r37
    clear r37
    have e39 : ρ (.tmp 39) = .bool true := r39
    clear r39
    refine under_none rfl ?_
    simp [execOp, e37, e39, hc, go_sem, softUpon, Fact.is, Below.refl]
  case s5 =>
    intro ρ W hb hc hf hr
    obtain ⟨r40, -⟩ := hr
    have e40 : ρ (.tmp 40) = .bool true := r40
    clear r40
    refine under_none rfl ?_
    exact ⟨e40, Below.refl _ _⟩
  case s6 =>
    intro ρ W hb hc hf hr
    obtain ⟨r6, r41, -⟩ := hr
    have e6 : ρ (.tmp 6) = .slice A1 L1 cap1 := r6
    clear r6
    have e41 : ρ (.tmp 41) = .bool true := r41
    clear r41
    refine ⟨41, rfl, .inl ⟨e41, ?_⟩⟩
    exact ⟨e6, Below.refl _ _⟩
  case s7 =>
    intro ρ W hb hc hf hr
    obtain ⟨r8, r41, -⟩ := hr
    have e8 : ρ (.tmp 8) = .int .i64 n := r8
    clear r8
    have e41 : ρ (.tmp 41) = .bool true := r41
    clear r41
    refine ⟨41, rfl, .inl ⟨e41, ?_⟩⟩
    exact ⟨e8, Below.refl _ _⟩
  case s8 =>
    intro ρ W hb hc hf hr
    obtain ⟨r42, r43, r41, -⟩ := hr
    have e42 : ρ (.tmp 42) = .slice A1 L1 cap1 := r42
    clear r42
    have e43 : ρ (.tmp 43) = .int .i64 n := r43
    clear r43
    have e41 : ρ (.tmp 41) = .bool true := r41
    clear r41
    refine ⟨41, rfl, .inl ⟨e41, ?_⟩⟩
    exact soft_slice e42 e43 (SL1.out W) rfl
  case s9 =>
    intro ρ W hb hc hf hr
    obtain ⟨r44, r41, -⟩ := hr
    have e44 : ρ (.tmp 44) = .slice A1 n cap1 := r44
    clear r44
    have e41 : ρ (.tmp 41) = .bool true := r41
    clear r41
    refine ⟨41, rfl, .inl ⟨e41, ?_⟩⟩
    exact soft_conv e44 (CV1.out W (hbd.trans (hb.mono (by simp)))) rfl
  case s10 =>
    intro ρ W hb hc hf hr
    obtain ⟨r7, r41, -⟩ := hr
    have e7 : ρ (.tmp 7) = .slice A2 L2 cap2 := r7
    clear r7
    have e41 : ρ (.tmp 41) = .bool true := r41
    clear r41
    refine ⟨41, rfl, .inl ⟨e41, ?_⟩⟩
    exact ⟨e7, Below.refl _ _⟩
  case s11 =>
    intro ρ W hb hc hf hr
    obtain ⟨r8, r41, -⟩ := hr
    have e8 : ρ (.tmp 8) = .int .i64 n := r8
    clear r8
    have e41 : ρ (.tmp 41) = .bool true := r41
    clear r41
    refine ⟨41, rfl, .inl ⟨e41, ?_⟩⟩
    exact ⟨e8, Below.refl _ _⟩
  case s12 =>
    intro ρ W hb hc hf hr
    obtain ⟨r46, r47, r41, -⟩ := hr
    have e46 : ρ (.tmp 46) = .slice A2 L2 cap2 := r46
    clear r46
    have e47 : ρ (.tmp 47) = .int .i64 n := r47
    clear r47
    have e41 : ρ (.tmp 41) = .bool true := r41
    clear r41
    refine ⟨41, rfl, .inl ⟨e41, ?_⟩⟩
    exact soft_slice e46 e47 (SL2.out W) rfl
  case s13 =>
    intro ρ W hb hc hf hr
    obtain ⟨r48, r41, -⟩ := hr
    have e48 : ρ (.tmp 48) = .slice A2 n cap2 := r48
    clear r48
    have e41 : ρ (.tmp 41) = .bool true := r41
    clear r41
    refine ⟨41, rfl, .inl ⟨e41, ?_⟩⟩
    exact soft_conv e48 (CV2.out W (hbd.trans (hb.mono (by simp)))) rfl
  case s14 =>
    intro ρ W hb hc hf hr
    obtain ⟨r45, r49, r41, -⟩ := hr
    have e45 : ρ (.tmp 45) = .string P1 := r45
    clear r45
    have e49 : ρ (.tmp 49) = .string P2 := r49
    clear r49
    have e41 : ρ (.tmp 41) = .bool true := r41
    clear r41
    refine ⟨41, rfl, .inl ⟨e41, ?_⟩⟩
    exact soft_bin e45 e49 rfl rfl (EQS.out W)
  case s15 =>
    intro ρ W hb hc hf hr
    obtain ⟨r2, r41, -⟩ := hr
    have e2 : ρ (.tmp 2) = .pointer (some ⟨N0, 0, none⟩) := r2
    clear r2
    have e41 : ρ (.tmp 41) = .bool true := r41
    clear r41
    refine ⟨41, rfl, .inl ⟨e41, ?_⟩⟩
    exact soft_load e2 (LX.out W (hbd.trans (hb.mono (by simp)))) rfl
  case s16 =>
    intro ρ W hb hc hf hr
    obtain ⟨r3, r41, -⟩ := hr
    have e3 : ρ (.tmp 3) = .pointer (some ⟨N1, 0, none⟩) := r3
    clear r3
    have e41 : ρ (.tmp 41) = .bool true := r41
    clear r41
    refine ⟨41, rfl, .inl ⟨e41, ?_⟩⟩
    exact soft_load e3 (LY.out W (hbd.trans (hb.mono (by simp)))) rfl
  case s17 =>
    intro ρ W hb hc hf hr
    obtain ⟨r51, r52, r41, -⟩ := hr
    have e51 : ρ (.tmp 51) = .agg #[.int .i64 xt, .int .i64 xi, .int .i64 xp, .int .i64 xs, .int .i64 xd, .string XV, .string XN] := r51
    clear r51
    have e52 : ρ (.tmp 52) = .agg #[.int .i64 yt, .int .i64 yi, .int .i64 yp, .int .i64 ys, .int .i64 yd, .string YV, .string YN] := r52
    clear r52
    have e41 : ρ (.tmp 41) = .bool true := r41
    clear r41
    refine ⟨41, rfl, .inl ⟨e41, ?_⟩⟩
    exact soft_agg e51 e52 (EQX.out W) rfl
  case s18 =>
    intro ρ W hb hc hf hr
    obtain ⟨r50, r53, r41, -⟩ := hr
    have e50 : ρ (.tmp 50) = .bool E := r50
    clear r50
    have e53 : ρ (.tmp 53) = .bool E := r53
    clear r53
    have e41 : ρ (.tmp 41) = .bool true := r41
    clear r41
    refine ⟨41, rfl, .inl ⟨e41, ?_⟩⟩
    cases E <;> simp [execOp, e50, e53, go_sem, softUpon, Fact.is, Below.refl]
  case s19 =>
    intro ρ W hb hc hf hr
    obtain ⟨r41, r54, -⟩ := hr
    have e41 : ρ (.tmp 41) = .bool true := r41
    clear r41
    have e54 : ρ (.tmp 54) = .bool true := r54
    clear r54
    refine under_none rfl ?_
    simp [execOp, e41, e54, hc, go_sem, softUpon, Fact.is, Below.refl]
  case s20 =>
    intro ρ W hb hc hf hr
    obtain ⟨r55, -⟩ := hr
    have e55 : ρ (.tmp 55) = .bool true := r55
    clear r55
    refine under_none rfl ?_
    exact ⟨e55, Below.refl _ _⟩
  case fin =>
    intro a w8 hb hd hsz hk
    have ea := act_puts hd hsz rfl hk
    have k36 : a.tmps.getD 36 undef = .bool true := hk 36
    have k37 : a.tmps.getD 37 undef = .bool true := hk 37
    have k38 : a.tmps.getD 38 undef = .int .i64 n := hk 38
    have k39 : a.tmps.getD 39 undef = .bool true := hk 39
    have k40 : a.tmps.getD 40 undef = .bool true := hk 40
    have k41 : a.tmps.getD 41 undef = .bool true := hk 41
    have k42 : a.tmps.getD 42 undef = .slice A1 L1 cap1 := hk 42
    have k43 : a.tmps.getD 43 undef = .int .i64 n := hk 43
    have k44 : a.tmps.getD 44 undef = .slice A1 n cap1 := hk 44
    have k45 : a.tmps.getD 45 undef = .string P1 := hk 45
    have k46 : a.tmps.getD 46 undef = .slice A2 L2 cap2 := hk 46
    have k47 : a.tmps.getD 47 undef = .int .i64 n := hk 47
    have k48 : a.tmps.getD 48 undef = .slice A2 n cap2 := hk 48
    have k49 : a.tmps.getD 49 undef = .string P2 := hk 49
    have k50 : a.tmps.getD 50 undef = .bool E := hk 50
    have k51 : a.tmps.getD 51 undef = .agg #[.int .i64 xt, .int .i64 xi, .int .i64 xp, .int .i64 xs, .int .i64 xd, .string XV, .string XN] := hk 51
    have k52 : a.tmps.getD 52 undef = .agg #[.int .i64 yt, .int .i64 yi, .int .i64 yp, .int .i64 ys, .int .i64 yd, .string YV, .string YN] := hk 52
    have k53 : a.tmps.getD 53 undef = .bool E := hk 53
    have k54 : a.tmps.getD 54 undef = .bool true := hk 54
    have k55 : a.tmps.getD 55 undef = .bool true := hk 55
    have k4 : a.tmps.getD 4 undef = .bool true := hk 4
    clear hk hd hsz
    simp only [List.map_cons, List.map_nil, List.foldl_cons, List.foldl_nil, k36, k37, k38, k39, k40, k41, k42, k43, k44, k45, k46, k47, k48, k49, k50, k51, k52, k53, k54, k55, k4] at ea
    clear k36 k37 k38 k39 k40 k41 k42 k43 k44 k45 k46 k47 k48 k49 k50 k51 k52 k53 k54 k55 k4
    simp only [Act.put, List.setIfInBounds_toArray, List.set_cons_succ, List.set_cons_zero] at ea
    subst ea
    have c8 : Below V.heap.size V w8 := c7.trans ((hbd.trans (hb.mono (by simp))).mono c7.size)
    go_wp2
    go_ret
    exact ⟨rfl, by rw [HN0.out]; exact HV.out _ c8⟩

set_option maxRecDepth 100000 in
theorem lifted (os : Os) (started : os.Started) (H : Type) (enc : TypeId × Value → H) :
    ReturnsInHanded {} Tryd.checked os 8 .any (fun w args => (Rows.spanUnlikeSpec.pre enc Tryd.prog Tryd.f8 [] false w args ∧ laidMetH Tryd.prog laidHere w) ∧ sizedMet enc Tryd.prog Tryd.f8 (OpenSpec.ofChange Rows.spanUnlikeSpec) false w args) (Rows.spanUnlikeSpec.post enc Tryd.prog Tryd.f8 false true false false) := by
  refine returnsInHanded_of_change_and (C := Tryd.checked) (X := fun w _ => laidMetH Tryd.prog laidHere w) (fun _ _ _ hh h => h.of_heap hh) own started (by kernel_rfl) Tryd.func8
    (ChangeSpec.witness_at (enc := enc) (C := Tryd.checked) (os := os) (X := fun w _ => laidMetH Tryd.prog laidHere w) false (laidWorld os) #[.agg #[.int .i64 0, .int .i64 0, .int .i64 0, .int .i64 0, .int .i64 0, .string .empty, .string .empty], .agg #[.int .i64 0, .int .i64 0, .int .i64 0, .int .i64 0, .int .i64 0, .string .empty, .string .empty]] 8 rfl (by kernel_rfl) (by kernel_rfl) (by kernel_rfl) (by kernel_rfl) (by kernel_rfl) (laidWorld_met os _)) ?_
  intro W base args ds gs before hval0 hW _ _ hL _
  have hval : ∀ (j : Nat) t v, Tryd.f8.params[j]? = some t → args[j]? = some v → Value.okWide Tryd.prog W .any base t v := hval0
  have hfin := fun W' => law_post (enc := enc) (P := Tryd.prog) (f := Tryd.f8) (s := Rows.spanUnlikeSpec) (tb := 4) (W := W) (W' := W') (args := args) (ds := ds) (gs := gs) (before := before) laidOut rfl (by kernel_rfl) Tryd.underlying4 (by kernel_rfl) (fun xs h => by rw [Tryd.params8] at h; match xs, h with | [_, _], _ => rfl) hW
  obtain ⟨p, q, hA0, hV, rfl, hfz, hnd⟩ := hW
  have hA : DataW.TrodAll enc Tryd.prog W 0 (fun _ => true) true Tryd.f8.params.toList args.toList ds p := hA0
  rw [Tryd.params8] at hA hval
  obtain ⟨v0, vs0, d0, ds0, p0, q0, hargs, rfl, rfl, h0, r0⟩ := trodAll_cons hA
  obtain ⟨v1, vs1, d1, ds1, p1, q1, rfl, rfl, rfl, h1, r1⟩ := trodAll_cons r0
  obtain ⟨rfl, rfl, rfl⟩ := trodAll_nil r1
  obtain rfl : args = #[v0, v1] := by cases args; simp_all
  obtain ⟨x0, rfl, hs0, hn0⟩ := open_span (hval 0 23 v0 rfl rfl) h0
  obtain ⟨x1, rfl, hs1, hn1⟩ := open_span (hval 1 23 v1 rfl rfl) h1
  refine (walk W (of_laid hL) x0 hs0 hn0 x1 hs1 hn1).mono fun e W' ⟨he, hg⟩ => ?_
  subst he
  exact ⟨_, rfl, hfin W' hg⟩

theorem proved : Rows.SpanUnlikeSaid :=
  OpenClaim.holds_of_wide 8 Tryd.f8 rfl rfl rfl rfl rfl rfl rfl ⟨rfl, rfl, rfl, rfl, rfl⟩ rfl rfl rfl rfl rfl (by kernel_rfl) Tryd.func8 (by kernel_rfl)
    (of_decide_eq_true (by kernel_rfl)) (by unfold Func.isWrapper; first | (rw [if_pos (by decide +kernel)]; kernel_rfl) | (rw [if_neg (by decide +kernel)]; exact ⟨rfl, rfl⟩))
    (fun os started H enc _ => lifted os started H enc)

set_option maxRecDepth 100000 in
theorem card : Rows.SpanUnlikeCardSaid :=
  Claim7.holds_tied_plain_at .later [] laidKindsHere true _ true
    proved (fun _ h => by cases h) (by kernel_rfl) (fun _ h => by cases h) spanUnlike_row_tie rfl ⟨rfl, rfl⟩ (by kernel_rfl) rfl
    (fun f fn hf hfn => by
      obtain rfl : f = 8 := Option.some.inj ((show Tryd.prog.funcNamed "turntable/turntablelaw03.SpanUnlike" = some 8 by kernel_rfl).symm.trans hf) |>.symm
      obtain rfl : fn = Tryd.f8 := (Option.some.inj (Tryd.func8.symm.trans hfn)).symm
      exact ⟨by kernel_rfl, fun j t ht => by
        rw [Tryd.params8] at ht
        have hm : t ∈ [23] := by simpa using Array.mem_of_getElem? ht
        have hall : ([23].all fun u => !Tryd.prog.wantsStandIn u) = true := by kernel_rfl
        exact (show Tryd.prog.wantsStandIn t = false by simpa using List.all_eq_true.1 hall t hm)⟩)
    (by kernel_rfl)
#print axioms card
end Go.Proofs.YtiipcnldedjkdaaDoor.spanUnlike
