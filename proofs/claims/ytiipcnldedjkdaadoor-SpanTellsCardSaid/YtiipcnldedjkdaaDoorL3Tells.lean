/-
  P3.1, SpanTells: for all two spans and all bytes the law returns true: whether any span is right, its bytes, when it ended, which of two is ahead, and the span that any bytes begin with, are the document's. No condition; what the row lists is tied to the program's text.
-/
import Derived.Test.YtiipcnldedjkdaaDoorSpanO
import Derived.Test.YtiipcnldedjkdaaDoorRef3
namespace Go.Proofs.YtiipcnldedjkdaaDoor.spanTells
open Go.ChangeShapes Go.WideShapes Go.ChangeAt Go.RowKit
set_option maxRecDepth 100000

theorem soft_agg {w : World} {ρ : Operand → Value} {o : Oper} {x y : Operand} {xs ys : Array Value} {u : Value} (hx : ρ x = .agg xs) (hy : ρ y = .agg ys) (hr : (binOp .eql 23 (.agg xs) (.agg ys)).run Tryd.prog w = .ok u w) (ho : o.op = .binOp .eql 23 x y 23) : softUpon Tryd.prog w (Fact.is u) ((execOp ρ o).run Tryd.prog w) := by
  have e : (execOp ρ o).run Tryd.prog w = .ok (.value u) w := by
    have hg := run_eqGuard_agg (P := Tryd.prog) w .eql 23 x y xs ys (by kernel_rfl)
    simp [execOp, ho, hx, hy, hg, hr]
  rw [e]
  exact ⟨rfl, Below.refl _ _⟩
theorem eq_same (W : World) (a : List UInt8) : (binOp .eql 9 (.string (str a)) (.string (str a))).run Tryd.prog W = .ok (.bool true) W := by
  go_simp

set_option maxHeartbeats 4000000 in
theorem walk (w : World) (hh : Handle w) (x : Plain.Sp) (hxv : x.sv.length ≤ maxLen) (hxn : x.nm.length ≤ maxLen) (y : Plain.Sp) (hyv : y.sv.length ≤ maxLen) (hyn : y.nm.length ≤ maxLen) (A : Option Addr) (cap : Nat) (bs : List UInt8) (hl : bs.length ≤ cap) (hm : cap ≤ maxLen) (hA : Lies w A (cells bs)) :
    Calls Tryd.prog 3 #[.agg #[.int .i64 x.t, .int .i64 x.i, .int .i64 x.p, .int .i64 x.s, .int .i64 x.d, .string (str x.sv), .string (str x.nm)], .agg #[.int .i64 y.t, .int .i64 y.i, .int .i64 y.p, .int .i64 y.s, .int .i64 y.d, .string (str y.sv), .string (str y.nm)], .slice A bs.length cap] w fun e w' => e = .returned (.bool true) ∧ Below w.heap.size w w' := by
  generalize hn : bs.length = n at *
  have HG := Lib.hid (fun (u : World) (h1 : Handle u) (h2 : Lies u A (cells bs)) (h3 : n ≤ 900) => spanGet_any A n cap bs u h1 hn hl hm (by omega) h2)
  have HRG := Lib.hid (fun (u : World) (h2 : Lies u A (cells bs)) (h3 : n ≤ 900) => rspanGet_any A n cap bs u hn hl hm (by omega) h2)
  have HP := Lib.hid (fun (u : World) (h2 : Lies u A (cells bs)) (h3 : n ≤ 900) => spanPut_any A n cap bs x u hn (by omega) h2 hxv hxn)
  have HRP := Lib.hid (fun (u : World) (h2 : Lies u A (cells bs)) (h3 : n ≤ 900) => rspanPut_any A n cap bs x u hn (by omega) h2 hxv hxn)
  generalize bs ++ x.outp = T at *
  generalize (Plain.Sp.rd bs).1.t = r0 at *
  generalize (Plain.Sp.rd bs).1.i = r1 at *
  generalize (Plain.Sp.rd bs).1.p = r2 at *
  generalize (Plain.Sp.rd bs).1.s = r3 at *
  generalize (Plain.Sp.rd bs).1.d = r4 at *
  generalize str (Plain.Sp.rd bs).1.sv = RS at *
  generalize str (Plain.Sp.rd bs).1.nm = RN at *
  generalize (Plain.Sp.rd bs).2.1 = RK at *
  generalize (Plain.Sp.rd bs).2.2 = RC at *
  rw [← str_size] at hxv hxn hyv hyn
  obtain ⟨xt, xi, xp, xs, xd, xv, xn⟩ := x
  obtain ⟨yt, yi, yp, ys, yd, yv, yn⟩ := y
  simp only at *
  generalize str xv = XV at *
  generalize str xn = XN at *
  generalize str yv = YV at *
  generalize str yn = YN at *
  obtain ⟨R, hR⟩ : ∃ R, Plain.rightN xt xi xp xs xd XV.size XN.size = R := ⟨_, rfl⟩
  have HRX := Lib.hid (fun u : World => right_any xt xi xp xs xd XV XN u hxv hxn)
  rw [hR] at HRX
  have HRRX := Lib.hid (fun u : World => rright_any xt xi xp xs xd XV XN u R hxv hxn hR)
  have HEN := Lib.hid (fun u : World => end_any xt xi xp xs xd XV XN u R hxv hxn hR)
  have HREN := Lib.hid (fun u : World => rend_any xt xi xp xs xd XV XN u R hxv hxn hR)
  have HL := Lib.hid (fun u : World => less_any xt xi xp xs xd XV XN yt yi yp ys yd YV YN u)
  have HRL := Lib.hid (fun u : World => rless_any xt xi xp xs xd XV XN yt yi yp ys yd YV YN u)
  generalize endN R xs xd = EN at *
  generalize lessN xs xi ys yi = L at *
  have HH := Lib.hid hh
  have HA := Lib.hid hA
  clear hR hh hA hn
  obtain ⟨k0, bx0, by0, hs0⟩ := two_new w #[.int .i64 xt, .int .i64 xi, .int .i64 xp, .int .i64 xs, .int .i64 xd, .string XV, .string XN] #[.int .i64 yt, .int .i64 yi, .int .i64 yp, .int .i64 ys, .int .i64 yd, .string YV, .string YN] 23 23
  have HK := Lib.hid k0
  have HBX := Lib.hid bx0
  have HBY := Lib.hid by0
  clear k0 bx0 by0 hs0
  have hm' := hm
  unfold maxLen at hm'
  go_enter Tryd.func3, Tryd.ntmps3
  go_wp2_with fail
  generalize (w.alloc (.cells #[.int .i64 xt, .int .i64 xi, .int .i64 xp, .int .i64 xs, .int .i64 xd, .string XV, .string XN] 23)).alloc (.cells #[.int .i64 yt, .int .i64 yi, .int .i64 yp, .int .i64 ys, .int .i64 yd, .string YV, .string YN] 23) = V at *
  have CX := Lib.hid (fun (u : World) (h : Below V.heap.size V u) => ((Kept.of h []).blk HBX.out (by simp)).seven)
  have CY := Lib.hid (fun (u : World) (h : Below V.heap.size V u) => ((Kept.of h []).blk HBY.out (by simp)).seven)
  have HV := Lib.hid (show ∀ u, Below V.heap.size V u → Below w.heap.size w u from fun u h => HK.out.to.trans (h.mono HK.out.to.size))
  refine (head_any V (HH.out.below HH.out.lt HK.out.to)).mono ?_
  rintro e w1 ⟨rfl, c1⟩
  obtain ⟨x0, x1, x2, x3, x4, x5, x6⟩ := CX.out w1 c1
  go_wp2_with fail
  clear x0 x1 x2 x3 x4 x5 x6
  refine (great_any xt xi xp xs xd XV XN w1 hxv hxn).mono ?_
  rintro e w2 ⟨⟨g, rfl⟩, d2⟩
  have c2 := c1.trans (d2.mono c1.size)
  rcases g with _ | _
  rotate_left
  · go_wp2
    go_ret
    exact ⟨rfl, HV.out _ c2⟩
  obtain ⟨x0, x1, x2, x3, x4, x5, x6⟩ := CY.out w2 c2
  go_wp2_with fail
  clear x0 x1 x2 x3 x4 x5 x6
  refine (great_any yt yi yp ys yd YV YN w2 hyv hyn).mono ?_
  rintro e w3 ⟨⟨g, rfl⟩, d3⟩
  have c3 := c2.trans (d3.mono c2.size)
  rcases g with _ | _
  rotate_left
  · go_wp2
    go_ret
    exact ⟨rfl, HV.out _ c3⟩
  by_cases h9 : 900 < n
  · go_wp2
    go_ret
    exact ⟨rfl, HV.out _ c3⟩
  go_wp2_with fail
  refine (HG.out w3 (HH.out.below HH.out.lt (HV.out _ c3)) (HA.out.below (HV.out _ c3)) (by omega)).mono ?_
  rintro e w4 ⟨rfl, d4⟩
  have c4 := c3.trans (d4.mono c3.size)
  have c5 := c4.alloc c4.size (.cells #[.int .i64 r0, .int .i64 r1, .int .i64 r2, .int .i64 r3, .int .i64 r4, .string RS, .string RN] 23)
  have bRX := Blk.new w4 #[.int .i64 r0, .int .i64 r1, .int .i64 r2, .int .i64 r3, .int .i64 r4, .string RS, .string RN] 23
  go_wp2_with fail
  generalize w4.alloc (.cells #[.int .i64 r0, .int .i64 r1, .int .i64 r2, .int .i64 r3, .int .i64 r4, .string RS, .string RN] 23) = V5 at *
  generalize w4.heap.size = NX at *
  refine (HRG.out V5 (HA.out.below (HV.out _ c5)) (by omega)).mono ?_
  rintro e w6 ⟨rfl, d6⟩
  have c6 := c5.trans (d6.mono c5.size)
  have c7 := c6.alloc c6.size (.cells #[.int .i64 r0, .int .i64 r1, .int .i64 r2, .int .i64 r3, .int .i64 r4, .string RS, .string RN] 23)
  have bRY := Blk.new w6 #[.int .i64 r0, .int .i64 r1, .int .i64 r2, .int .i64 r3, .int .i64 r4, .string RS, .string RN] 23
  have bRX7 := ((Kept.of d6 []).alloc (.cells #[.int .i64 r0, .int .i64 r1, .int .i64 r2, .int .i64 r3, .int .i64 r4, .string RS, .string RN] 23)).blk bRX (by simp)
  clear HG HRG CX CY bRX
  go_wp2
  generalize w6.alloc (.cells #[.int .i64 r0, .int .i64 r1, .int .i64 r2, .int .i64 r3, .int .i64 r4, .string RS, .string RN] 23) = V7 at *
  generalize w6.heap.size = NY at *
  have hbd : Below V7.heap.size V7 V7.drew := (Below.refl _ _).drew
  have LX := Lib.hid (fun (W : World) (h : Below V7.heap.size V7 W) => load_span ((Kept.of (c7.trans (h.mono c7.size)) []).blk HBX.out (by simp)))
  have LY := Lib.hid (fun (W : World) (h : Below V7.heap.size V7 W) => load_span ((Kept.of (c7.trans (h.mono c7.size)) []).blk HBY.out (by simp)))
  have LRX := Lib.hid (fun (W : World) (h : Below V7.heap.size V7 W) => load_span ((Kept.of h []).blk bRX7 (by simp)))
  have LRY := Lib.hid (fun (W : World) (h : Below V7.heap.size V7 W) => load_span ((Kept.of h []).blk bRY (by simp)))
  have hA7 := HA.out.below (HV.out _ c7)
  have HP := Lib.hid (fun (W : World) (h : Below V7.heap.size V7 W) => HP.out W (hA7.below h) (by omega))
  have HRP := Lib.hid (fun (W : World) (h : Below V7.heap.size V7 W) => HRP.out W (hA7.below h) (by omega))
  have EQT := Lib.hid (fun (W : World) => eq_same W T)
  have EQR := Lib.hid (fun (W : World) => show (binOp .eql 23 (.agg #[.int .i64 r0, .int .i64 r1, .int .i64 r2, .int .i64 r3, .int .i64 r4, .string RS, .string RN]) (.agg #[.int .i64 r0, .int .i64 r1, .int .i64 r2, .int .i64 r3, .int .i64 r4, .string RS, .string RN])).run Tryd.prog W = .ok (.bool true) W by rw [eq_span]; simp)
  clear bRX7 bRY hA7
  generalize hN0 : w.heap.size = N0 at *
  generalize hN1 : N0 + 1 = N1 at *
  have HN0 := Lib.hid hN0
  clear hN0 hN1
  refine wp_soft (by kernel_rfl) 89 [(39, [7]), (40, [39]), (41, [3, 40]), (42, [41, 40]), (43, [3, 40]), (44, [43, 40]), (45, [42, 44, 40]), (46, [40, 45]), (47, [46]), (48, [2, 47]), (49, [3, 47]), (50, [48, 49, 47]), (51, [50, 47]), (52, [2, 47]), (53, [3, 47]), (54, [52, 53, 47]), (55, [54, 47]), (56, [51, 55, 47]), (57, [47, 56]), (58, [57]), (59, [3, 58]), (60, [59, 58]), (61, [3, 58]), (62, [61, 58]), (63, [60, 62, 58]), (64, [58, 63]), (65, [64]), (66, [3, 65]), (67, [4, 65]), (68, [66, 67, 65]), (69, [3, 65]), (70, [4, 65]), (71, [69, 70, 65]), (72, [68, 71, 65]), (73, [65, 72]), (74, [73]), (75, [8, 74]), (76, [11, 74]), (77, [75, 76, 74]), (78, [74, 77]), (79, [78]), (80, [9, 79]), (81, [12, 79]), (82, [80, 81, 79]), (83, [79, 82]), (84, [83]), (85, [10, 84]), (86, [13, 84]), (87, [85, 86, 84]), (88, [84, 87]), (6, [88])]
    [Fact.is (.bool true), Fact.is (.bool true), Fact.is (.agg #[.int .i64 xt, .int .i64 xi, .int .i64 xp, .int .i64 xs, .int .i64 xd, .string XV, .string XN]), Fact.is (.bool R), Fact.is (.agg #[.int .i64 xt, .int .i64 xi, .int .i64 xp, .int .i64 xs, .int .i64 xd, .string XV, .string XN]), Fact.is (.bool R), Fact.is (.bool true), Fact.is (.bool true), Fact.is (.bool true), Fact.is (.slice A n cap), Fact.is (.agg #[.int .i64 xt, .int .i64 xi, .int .i64 xp, .int .i64 xs, .int .i64 xd, .string XV, .string XN]), Fact.own T, Fact.is (.string (str T)), Fact.is (.slice A n cap), Fact.is (.agg #[.int .i64 xt, .int .i64 xi, .int .i64 xp, .int .i64 xs, .int .i64 xd, .string XV, .string XN]), Fact.own T, Fact.is (.string (str T)), Fact.is (.bool true), Fact.is (.bool true), Fact.is (.bool true), Fact.is (.agg #[.int .i64 xt, .int .i64 xi, .int .i64 xp, .int .i64 xs, .int .i64 xd, .string XV, .string XN]), Fact.is (.int .i64 EN), Fact.is (.agg #[.int .i64 xt, .int .i64 xi, .int .i64 xp, .int .i64 xs, .int .i64 xd, .string XV, .string XN]), Fact.is (.int .i64 EN), Fact.is (.bool true), Fact.is (.bool true), Fact.is (.bool true), Fact.is (.agg #[.int .i64 xt, .int .i64 xi, .int .i64 xp, .int .i64 xs, .int .i64 xd, .string XV, .string XN]), Fact.is (.agg #[.int .i64 yt, .int .i64 yi, .int .i64 yp, .int .i64 ys, .int .i64 yd, .string YV, .string YN]), Fact.is (.bool L), Fact.is (.agg #[.int .i64 xt, .int .i64 xi, .int .i64 xp, .int .i64 xs, .int .i64 xd, .string XV, .string XN]), Fact.is (.agg #[.int .i64 yt, .int .i64 yi, .int .i64 yp, .int .i64 ys, .int .i64 yd, .string YV, .string YN]), Fact.is (.bool L), Fact.is (.bool true), Fact.is (.bool true), Fact.is (.bool true), Fact.is (.agg #[.int .i64 r0, .int .i64 r1, .int .i64 r2, .int .i64 r3, .int .i64 r4, .string RS, .string RN]), Fact.is (.agg #[.int .i64 r0, .int .i64 r1, .int .i64 r2, .int .i64 r3, .int .i64 r4, .string RS, .string RN]), Fact.is (.bool true), Fact.is (.bool true), Fact.is (.bool true), Fact.is (.int .i64 RK), Fact.is (.int .i64 RK), Fact.is (.bool true), Fact.is (.bool true), Fact.is (.bool true), Fact.is (.int .i64 RC), Fact.is (.int .i64 RC), Fact.is (.bool true), Fact.is (.bool true), Fact.is (.bool true)]
    (by kernel_rfl) rfl rfl ⟨?s0, ?s1, ?s2, ?s3, ?s4, ?s5, ?s6, ?s7, ?s8, ?s9, ?s10, ?s11, ?s12, ?s13, ?s14, ?s15, ?s16, ?s17, ?s18, ?s19, ?s20, ?s21, ?s22, ?s23, ?s24, ?s25, ?s26, ?s27, ?s28, ?s29, ?s30, ?s31, ?s32, ?s33, ?s34, ?s35, ?s36, ?s37, ?s38, ?s39, ?s40, ?s41, ?s42, ?s43, ?s44, ?s45, ?s46, ?s47, ?s48, ?s49, ?s50, trivial⟩ ?fin
  case s0 =>
    intro ρ W hb hc hf hr
    obtain ⟨r7, -⟩ := hr
    have e7 : ρ (.tmp 7) = .bool true := r7
    clear r7
    refine under_none rfl ?_
    exact ⟨e7, Below.refl _ _⟩
  case s1 =>
    intro ρ W hb hc hf hr
    obtain ⟨r39, -⟩ := hr
    have e39 : ρ (.tmp 39) = .bool true := r39
    clear r39
    refine under_none rfl ?_
    exact ⟨e39, Below.refl _ _⟩
  case s2 =>
    intro ρ W hb hc hf hr
    obtain ⟨r3, r40, -⟩ := hr
    have e3 : ρ (.tmp 3) = .pointer (some ⟨N0, 0, none⟩) := r3
    clear r3
    have e40 : ρ (.tmp 40) = .bool true := r40
    clear r40
    refine ⟨40, rfl, .inl ⟨e40, ?_⟩⟩
    exact soft_load e3 (LX.out W (hbd.trans (hb.mono (by simp)))) rfl
  case s3 =>
    intro ρ W hb hc hf hr
    obtain ⟨r41, r40, -⟩ := hr
    have e41 : ρ (.tmp 41) = .agg #[.int .i64 xt, .int .i64 xi, .int .i64 xp, .int .i64 xs, .int .i64 xd, .string XV, .string XN] := r41
    clear r41
    have e40 : ρ (.tmp 40) = .bool true := r40
    clear r40
    refine ⟨40, rfl, .inl ⟨e40, ?_⟩⟩
    exact soft_call1 hf e41 (HRX.out W) rfl (by kernel_rfl) below_is
  case s4 =>
    intro ρ W hb hc hf hr
    obtain ⟨r3, r40, -⟩ := hr
    have e3 : ρ (.tmp 3) = .pointer (some ⟨N0, 0, none⟩) := r3
    clear r3
    have e40 : ρ (.tmp 40) = .bool true := r40
    clear r40
    refine ⟨40, rfl, .inl ⟨e40, ?_⟩⟩
    exact soft_load e3 (LX.out W (hbd.trans (hb.mono (by simp)))) rfl
  case s5 =>
    intro ρ W hb hc hf hr
    obtain ⟨r43, r40, -⟩ := hr
    have e43 : ρ (.tmp 43) = .agg #[.int .i64 xt, .int .i64 xi, .int .i64 xp, .int .i64 xs, .int .i64 xd, .string XV, .string XN] := r43
    clear r43
    have e40 : ρ (.tmp 40) = .bool true := r40
    clear r40
    refine ⟨40, rfl, .inl ⟨e40, ?_⟩⟩
    exact soft_call1 hf e43 (HRRX.out W) rfl (by kernel_rfl) below_is
  case s6 =>
    intro ρ W hb hc hf hr
    obtain ⟨r42, r44, r40, -⟩ := hr
    have e42 : ρ (.tmp 42) = .bool R := r42
    clear r42
    have e44 : ρ (.tmp 44) = .bool R := r44
    clear r44
    have e40 : ρ (.tmp 40) = .bool true := r40
    clear r40
    refine ⟨40, rfl, .inl ⟨e40, ?_⟩⟩
    simp [execOp, e42, e44, go_sem, softUpon, Fact.is, Below.refl]
  case s7 =>
    intro ρ W hb hc hf hr
    obtain ⟨r40, r45, -⟩ := hr
    have e40 : ρ (.tmp 40) = .bool true := r40
    clear r40
    have e45 : ρ (.tmp 45) = .bool true := r45
    clear r45
    refine under_none rfl ?_
    simp [execOp, e40, e45, hc, go_sem, softUpon, Fact.is, Below.refl]
  case s8 =>
    intro ρ W hb hc hf hr
    obtain ⟨r46, -⟩ := hr
    have e46 : ρ (.tmp 46) = .bool true := r46
    clear r46
    refine under_none rfl ?_
    exact ⟨e46, Below.refl _ _⟩
  case s9 =>
    intro ρ W hb hc hf hr
    obtain ⟨r2, r47, -⟩ := hr
    have e2 : ρ (.tmp 2) = .slice A n cap := r2
    clear r2
    have e47 : ρ (.tmp 47) = .bool true := r47
    clear r47
    refine ⟨47, rfl, .inl ⟨e47, ?_⟩⟩
    exact ⟨e2, Below.refl _ _⟩
  case s10 =>
    intro ρ W hb hc hf hr
    obtain ⟨r3, r47, -⟩ := hr
    have e3 : ρ (.tmp 3) = .pointer (some ⟨N0, 0, none⟩) := r3
    clear r3
    have e47 : ρ (.tmp 47) = .bool true := r47
    clear r47
    refine ⟨47, rfl, .inl ⟨e47, ?_⟩⟩
    exact soft_load e3 (LX.out W (hbd.trans (hb.mono (by simp)))) rfl
  case s11 =>
    intro ρ W hb hc hf hr
    obtain ⟨r48, r49, r47, -⟩ := hr
    have e48 : ρ (.tmp 48) = .slice A n cap := r48
    clear r48
    have e49 : ρ (.tmp 49) = .agg #[.int .i64 xt, .int .i64 xi, .int .i64 xp, .int .i64 xs, .int .i64 xd, .string XV, .string XN] := r49
    clear r49
    have e47 : ρ (.tmp 47) = .bool true := r47
    clear r47
    refine ⟨47, rfl, .inl ⟨e47, ?_⟩⟩
    exact soft_call2 hf e48 e49 (HP.out W (hbd.trans (hb.mono (by simp)))) rfl (by kernel_rfl) made_own
  case s12 =>
    intro ρ W hb hc hf hr
    obtain ⟨r50, r47, -⟩ := hr
    have e47 : ρ (.tmp 47) = .bool true := r47
    clear r47
    refine ⟨47, rfl, .inl ⟨e47, ?_⟩⟩
    exact soft_own r50 rfl
  case s13 =>
    intro ρ W hb hc hf hr
    obtain ⟨r2, r47, -⟩ := hr
    have e2 : ρ (.tmp 2) = .slice A n cap := r2
    clear r2
    have e47 : ρ (.tmp 47) = .bool true := r47
    clear r47
    refine ⟨47, rfl, .inl ⟨e47, ?_⟩⟩
    exact ⟨e2, Below.refl _ _⟩
  case s14 =>
    intro ρ W hb hc hf hr
    obtain ⟨r3, r47, -⟩ := hr
    have e3 : ρ (.tmp 3) = .pointer (some ⟨N0, 0, none⟩) := r3
    clear r3
    have e47 : ρ (.tmp 47) = .bool true := r47
    clear r47
    refine ⟨47, rfl, .inl ⟨e47, ?_⟩⟩
    exact soft_load e3 (LX.out W (hbd.trans (hb.mono (by simp)))) rfl
  case s15 =>
    intro ρ W hb hc hf hr
    obtain ⟨r52, r53, r47, -⟩ := hr
    have e52 : ρ (.tmp 52) = .slice A n cap := r52
    clear r52
    have e53 : ρ (.tmp 53) = .agg #[.int .i64 xt, .int .i64 xi, .int .i64 xp, .int .i64 xs, .int .i64 xd, .string XV, .string XN] := r53
    clear r53
    have e47 : ρ (.tmp 47) = .bool true := r47
    clear r47
    refine ⟨47, rfl, .inl ⟨e47, ?_⟩⟩
    exact soft_call2 hf e52 e53 (HRP.out W (hbd.trans (hb.mono (by simp)))) rfl (by kernel_rfl) (fun _ _ h => h)
  case s16 =>
    intro ρ W hb hc hf hr
    obtain ⟨r54, r47, -⟩ := hr
    have e47 : ρ (.tmp 47) = .bool true := r47
    clear r47
    refine ⟨47, rfl, .inl ⟨e47, ?_⟩⟩
    exact soft_own r54 rfl
  case s17 =>
    intro ρ W hb hc hf hr
    obtain ⟨r51, r55, r47, -⟩ := hr
    have e51 : ρ (.tmp 51) = .string (str T) := r51
    clear r51
    have e55 : ρ (.tmp 55) = .string (str T) := r55
    clear r55
    have e47 : ρ (.tmp 47) = .bool true := r47
    clear r47
    refine ⟨47, rfl, .inl ⟨e47, ?_⟩⟩
    exact soft_bin e51 e55 rfl rfl (EQT.out W)
  case s18 =>
    intro ρ W hb hc hf hr
    obtain ⟨r47, r56, -⟩ := hr
    have e47 : ρ (.tmp 47) = .bool true := r47
    clear r47
    have e56 : ρ (.tmp 56) = .bool true := r56
    clear r56
    refine under_none rfl ?_
    simp [execOp, e47, e56, hc, go_sem, softUpon, Fact.is, Below.refl]
  case s19 =>
    intro ρ W hb hc hf hr
    obtain ⟨r57, -⟩ := hr
    have e57 : ρ (.tmp 57) = .bool true := r57
    clear r57
    refine under_none rfl ?_
    exact ⟨e57, Below.refl _ _⟩
  case s20 =>
    intro ρ W hb hc hf hr
    obtain ⟨r3, r58, -⟩ := hr
    have e3 : ρ (.tmp 3) = .pointer (some ⟨N0, 0, none⟩) := r3
    clear r3
    have e58 : ρ (.tmp 58) = .bool true := r58
    clear r58
    refine ⟨58, rfl, .inl ⟨e58, ?_⟩⟩
    exact soft_load e3 (LX.out W (hbd.trans (hb.mono (by simp)))) rfl
  case s21 =>
    intro ρ W hb hc hf hr
    obtain ⟨r59, r58, -⟩ := hr
    have e59 : ρ (.tmp 59) = .agg #[.int .i64 xt, .int .i64 xi, .int .i64 xp, .int .i64 xs, .int .i64 xd, .string XV, .string XN] := r59
    clear r59
    have e58 : ρ (.tmp 58) = .bool true := r58
    clear r58
    refine ⟨58, rfl, .inl ⟨e58, ?_⟩⟩
    exact soft_call1 hf e59 (HEN.out W) rfl (by kernel_rfl) below_is
  case s22 =>
    intro ρ W hb hc hf hr
    obtain ⟨r3, r58, -⟩ := hr
    have e3 : ρ (.tmp 3) = .pointer (some ⟨N0, 0, none⟩) := r3
    clear r3
    have e58 : ρ (.tmp 58) = .bool true := r58
    clear r58
    refine ⟨58, rfl, .inl ⟨e58, ?_⟩⟩
    exact soft_load e3 (LX.out W (hbd.trans (hb.mono (by simp)))) rfl
  case s23 =>
    intro ρ W hb hc hf hr
    obtain ⟨r61, r58, -⟩ := hr
    have e61 : ρ (.tmp 61) = .agg #[.int .i64 xt, .int .i64 xi, .int .i64 xp, .int .i64 xs, .int .i64 xd, .string XV, .string XN] := r61
    clear r61
    have e58 : ρ (.tmp 58) = .bool true := r58
    clear r58
    refine ⟨58, rfl, .inl ⟨e58, ?_⟩⟩
    exact soft_call1 hf e61 (HREN.out W) rfl (by kernel_rfl) below_is
  case s24 =>
    intro ρ W hb hc hf hr
    obtain ⟨r60, r62, r58, -⟩ := hr
    have e60 : ρ (.tmp 60) = .int .i64 EN := r60
    clear r60
    have e62 : ρ (.tmp 62) = .int .i64 EN := r62
    clear r62
    have e58 : ρ (.tmp 58) = .bool true := r58
    clear r58
    refine ⟨58, rfl, .inl ⟨e58, ?_⟩⟩
    simp [execOp, e60, e62, go_sem, softUpon, Fact.is, Below.refl]
  case s25 =>
    intro ρ W hb hc hf hr
    obtain ⟨r58, r63, -⟩ := hr
    have e58 : ρ (.tmp 58) = .bool true := r58
    clear r58
    have e63 : ρ (.tmp 63) = .bool true := r63
    clear r63
    refine under_none rfl ?_
    simp [execOp, e58, e63, hc, go_sem, softUpon, Fact.is, Below.refl]
  case s26 =>
    intro ρ W hb hc hf hr
    obtain ⟨r64, -⟩ := hr
    have e64 : ρ (.tmp 64) = .bool true := r64
    clear r64
    refine under_none rfl ?_
    exact ⟨e64, Below.refl _ _⟩
  case s27 =>
    intro ρ W hb hc hf hr
    obtain ⟨r3, r65, -⟩ := hr
    have e3 : ρ (.tmp 3) = .pointer (some ⟨N0, 0, none⟩) := r3
    clear r3
    have e65 : ρ (.tmp 65) = .bool true := r65
    clear r65
    refine ⟨65, rfl, .inl ⟨e65, ?_⟩⟩
    exact soft_load e3 (LX.out W (hbd.trans (hb.mono (by simp)))) rfl
  case s28 =>
    intro ρ W hb hc hf hr
    obtain ⟨r4, r65, -⟩ := hr
    have e4 : ρ (.tmp 4) = .pointer (some ⟨N1, 0, none⟩) := r4
    clear r4
    have e65 : ρ (.tmp 65) = .bool true := r65
    clear r65
    refine ⟨65, rfl, .inl ⟨e65, ?_⟩⟩
    exact soft_load e4 (LY.out W (hbd.trans (hb.mono (by simp)))) rfl
  case s29 =>
    intro ρ W hb hc hf hr
    obtain ⟨r66, r67, r65, -⟩ := hr
    have e66 : ρ (.tmp 66) = .agg #[.int .i64 xt, .int .i64 xi, .int .i64 xp, .int .i64 xs, .int .i64 xd, .string XV, .string XN] := r66
    clear r66
    have e67 : ρ (.tmp 67) = .agg #[.int .i64 yt, .int .i64 yi, .int .i64 yp, .int .i64 ys, .int .i64 yd, .string YV, .string YN] := r67
    clear r67
    have e65 : ρ (.tmp 65) = .bool true := r65
    clear r65
    refine ⟨65, rfl, .inl ⟨e65, ?_⟩⟩
    exact soft_call2 hf e66 e67 (HL.out W) rfl (by kernel_rfl) below_is
  case s30 =>
    intro ρ W hb hc hf hr
    obtain ⟨r3, r65, -⟩ := hr
    have e3 : ρ (.tmp 3) = .pointer (some ⟨N0, 0, none⟩) := r3
    clear r3
    have e65 : ρ (.tmp 65) = .bool true := r65
    clear r65
    refine ⟨65, rfl, .inl ⟨e65, ?_⟩⟩
    exact soft_load e3 (LX.out W (hbd.trans (hb.mono (by simp)))) rfl
  case s31 =>
    intro ρ W hb hc hf hr
    obtain ⟨r4, r65, -⟩ := hr
    have e4 : ρ (.tmp 4) = .pointer (some ⟨N1, 0, none⟩) := r4
    clear r4
    have e65 : ρ (.tmp 65) = .bool true := r65
    clear r65
    refine ⟨65, rfl, .inl ⟨e65, ?_⟩⟩
    exact soft_load e4 (LY.out W (hbd.trans (hb.mono (by simp)))) rfl
  case s32 =>
    intro ρ W hb hc hf hr
    obtain ⟨r69, r70, r65, -⟩ := hr
    have e69 : ρ (.tmp 69) = .agg #[.int .i64 xt, .int .i64 xi, .int .i64 xp, .int .i64 xs, .int .i64 xd, .string XV, .string XN] := r69
    clear r69
    have e70 : ρ (.tmp 70) = .agg #[.int .i64 yt, .int .i64 yi, .int .i64 yp, .int .i64 ys, .int .i64 yd, .string YV, .string YN] := r70
    clear r70
    have e65 : ρ (.tmp 65) = .bool true := r65
    clear r65
    refine ⟨65, rfl, .inl ⟨e65, ?_⟩⟩
    exact soft_call2 hf e69 e70 (HRL.out W) rfl (by kernel_rfl) below_is
  case s33 =>
    intro ρ W hb hc hf hr
    obtain ⟨r68, r71, r65, -⟩ := hr
    have e68 : ρ (.tmp 68) = .bool L := r68
    clear r68
    have e71 : ρ (.tmp 71) = .bool L := r71
    clear r71
    have e65 : ρ (.tmp 65) = .bool true := r65
    clear r65
    refine ⟨65, rfl, .inl ⟨e65, ?_⟩⟩
    simp [execOp, e68, e71, go_sem, softUpon, Fact.is, Below.refl]
  case s34 =>
    intro ρ W hb hc hf hr
    obtain ⟨r65, r72, -⟩ := hr
    have e65 : ρ (.tmp 65) = .bool true := r65
    clear r65
    have e72 : ρ (.tmp 72) = .bool true := r72
    clear r72
    refine under_none rfl ?_
    simp [execOp, e65, e72, hc, go_sem, softUpon, Fact.is, Below.refl]
  case s35 =>
    intro ρ W hb hc hf hr
    obtain ⟨r73, -⟩ := hr
    have e73 : ρ (.tmp 73) = .bool true := r73
    clear r73
    refine under_none rfl ?_
    exact ⟨e73, Below.refl _ _⟩
  case s36 =>
    intro ρ W hb hc hf hr
    obtain ⟨r8, r74, -⟩ := hr
    have e8 : ρ (.tmp 8) = .pointer (some ⟨NX, 0, none⟩) := r8
    clear r8
    have e74 : ρ (.tmp 74) = .bool true := r74
    clear r74
    refine ⟨74, rfl, .inl ⟨e74, ?_⟩⟩
    exact soft_load e8 (LRX.out W (hbd.trans (hb.mono (by simp)))) rfl
  case s37 =>
    intro ρ W hb hc hf hr
    obtain ⟨r11, r74, -⟩ := hr
    have e11 : ρ (.tmp 11) = .pointer (some ⟨NY, 0, none⟩) := r11
    clear r11
    have e74 : ρ (.tmp 74) = .bool true := r74
    clear r74
    refine ⟨74, rfl, .inl ⟨e74, ?_⟩⟩
    exact soft_load e11 (LRY.out W (hbd.trans (hb.mono (by simp)))) rfl
  case s38 =>
    intro ρ W hb hc hf hr
    obtain ⟨r75, r76, r74, -⟩ := hr
    have e75 : ρ (.tmp 75) = .agg #[.int .i64 r0, .int .i64 r1, .int .i64 r2, .int .i64 r3, .int .i64 r4, .string RS, .string RN] := r75
    clear r75
    have e76 : ρ (.tmp 76) = .agg #[.int .i64 r0, .int .i64 r1, .int .i64 r2, .int .i64 r3, .int .i64 r4, .string RS, .string RN] := r76
    clear r76
    have e74 : ρ (.tmp 74) = .bool true := r74
    clear r74
    refine ⟨74, rfl, .inl ⟨e74, ?_⟩⟩
    exact soft_agg e75 e76 (EQR.out W) rfl
  case s39 =>
    intro ρ W hb hc hf hr
    obtain ⟨r74, r77, -⟩ := hr
    have e74 : ρ (.tmp 74) = .bool true := r74
    clear r74
    have e77 : ρ (.tmp 77) = .bool true := r77
    clear r77
    refine under_none rfl ?_
    simp [execOp, e74, e77, hc, go_sem, softUpon, Fact.is, Below.refl]
  case s40 =>
    intro ρ W hb hc hf hr
    obtain ⟨r78, -⟩ := hr
    have e78 : ρ (.tmp 78) = .bool true := r78
    clear r78
    refine under_none rfl ?_
    exact ⟨e78, Below.refl _ _⟩
  case s41 =>
    intro ρ W hb hc hf hr
    obtain ⟨r9, r79, -⟩ := hr
    have e9 : ρ (.tmp 9) = .int .i64 RK := r9
    clear r9
    have e79 : ρ (.tmp 79) = .bool true := r79
    clear r79
    refine ⟨79, rfl, .inl ⟨e79, ?_⟩⟩
    exact ⟨e9, Below.refl _ _⟩
  case s42 =>
    intro ρ W hb hc hf hr
    obtain ⟨r12, r79, -⟩ := hr
    have e12 : ρ (.tmp 12) = .int .i64 RK := r12
    clear r12
    have e79 : ρ (.tmp 79) = .bool true := r79
    clear r79
    refine ⟨79, rfl, .inl ⟨e79, ?_⟩⟩
    exact ⟨e12, Below.refl _ _⟩
  case s43 =>
    intro ρ W hb hc hf hr
    obtain ⟨r80, r81, r79, -⟩ := hr
    have e80 : ρ (.tmp 80) = .int .i64 RK := r80
    clear r80
    have e81 : ρ (.tmp 81) = .int .i64 RK := r81
    clear r81
    have e79 : ρ (.tmp 79) = .bool true := r79
    clear r79
    refine ⟨79, rfl, .inl ⟨e79, ?_⟩⟩
    simp [execOp, e80, e81, go_sem, softUpon, Fact.is, Below.refl]
  case s44 =>
    intro ρ W hb hc hf hr
    obtain ⟨r79, r82, -⟩ := hr
    have e79 : ρ (.tmp 79) = .bool true := r79
    clear r79
    have e82 : ρ (.tmp 82) = .bool true := r82
    clear r82
    refine under_none rfl ?_
    simp [execOp, e79, e82, hc, go_sem, softUpon, Fact.is, Below.refl]
  case s45 =>
    intro ρ W hb hc hf hr
    obtain ⟨r83, -⟩ := hr
    have e83 : ρ (.tmp 83) = .bool true := r83
    clear r83
    refine under_none rfl ?_
    exact ⟨e83, Below.refl _ _⟩
  case s46 =>
    intro ρ W hb hc hf hr
    obtain ⟨r10, r84, -⟩ := hr
    have e10 : ρ (.tmp 10) = .int .i64 RC := r10
    clear r10
    have e84 : ρ (.tmp 84) = .bool true := r84
    clear r84
    refine ⟨84, rfl, .inl ⟨e84, ?_⟩⟩
    exact ⟨e10, Below.refl _ _⟩
  case s47 =>
    intro ρ W hb hc hf hr
    obtain ⟨r13, r84, -⟩ := hr
    have e13 : ρ (.tmp 13) = .int .i64 RC := r13
    clear r13
    have e84 : ρ (.tmp 84) = .bool true := r84
    clear r84
    refine ⟨84, rfl, .inl ⟨e84, ?_⟩⟩
    exact ⟨e13, Below.refl _ _⟩
  case s48 =>
    intro ρ W hb hc hf hr
    obtain ⟨r85, r86, r84, -⟩ := hr
    have e85 : ρ (.tmp 85) = .int .i64 RC := r85
    clear r85
    have e86 : ρ (.tmp 86) = .int .i64 RC := r86
    clear r86
    have e84 : ρ (.tmp 84) = .bool true := r84
    clear r84
    refine ⟨84, rfl, .inl ⟨e84, ?_⟩⟩
    simp [execOp, e85, e86, go_sem, softUpon, Fact.is, Below.refl]
  case s49 =>
    intro ρ W hb hc hf hr
    obtain ⟨r84, r87, -⟩ := hr
    have e84 : ρ (.tmp 84) = .bool true := r84
    clear r84
    have e87 : ρ (.tmp 87) = .bool true := r87
    clear r87
    refine under_none rfl ?_
    simp [execOp, e84, e87, hc, go_sem, softUpon, Fact.is, Below.refl]
  case s50 =>
    intro ρ W hb hc hf hr
    obtain ⟨r88, -⟩ := hr
    have e88 : ρ (.tmp 88) = .bool true := r88
    clear r88
    refine under_none rfl ?_
    exact ⟨e88, Below.refl _ _⟩
  case fin =>
    intro a u4 hb hd hk
    have h4 : a.tmps.getD 6 undef = .bool true := hk 6
    clear hk
    have c8 : Below V.heap.size V u4 := c7.trans ((hbd.trans (hb.mono (by simp))).mono c7.size)
    go_wp2
    refine bodyPost_ret (results_tmp rfl _ _ _) hd ?_
    exact ⟨by rw [h4], by rw [HN0.out]; exact HV.out _ c8⟩

set_option maxRecDepth 100000 in
theorem lifted (os : Os) (started : os.Started) (H : Type) (enc : TypeId × Value → H) :
    ReturnsInHanded {} Tryd.checked os 3 .any (fun w args => (Rows.spanTellsSpec.pre enc Tryd.prog Tryd.f3 [] false w args ∧ laidMetH Tryd.prog laidHere w) ∧ sizedMet enc Tryd.prog Tryd.f3 (OpenSpec.ofChange Rows.spanTellsSpec) false w args) (Rows.spanTellsSpec.post enc Tryd.prog Tryd.f3 false true false false) := by
  refine returnsInHanded_of_change_and (C := Tryd.checked) (X := fun w _ => laidMetH Tryd.prog laidHere w) (fun _ _ _ hh h => h.of_heap hh) own started (by kernel_rfl) Tryd.func3
    (ChangeSpec.witness_at (enc := enc) (C := Tryd.checked) (os := os) (X := fun w _ => laidMetH Tryd.prog laidHere w) false (laidWorld os) #[.agg #[.int .i64 0, .int .i64 0, .int .i64 0, .int .i64 0, .int .i64 0, .string .empty, .string .empty], .agg #[.int .i64 0, .int .i64 0, .int .i64 0, .int .i64 0, .int .i64 0, .string .empty, .string .empty], .slice none 0 0] 8 rfl (by kernel_rfl) (by kernel_rfl) (by kernel_rfl) (by kernel_rfl) (by kernel_rfl) (laidWorld_met os _)) ?_
  intro W base args ds gs before hval0 hW _ _ hL _
  have hval : ∀ (j : Nat) t v, Tryd.f3.params[j]? = some t → args[j]? = some v → Value.okWide Tryd.prog W .any base t v := hval0
  have hfin := fun W' => law_post (enc := enc) (P := Tryd.prog) (f := Tryd.f3) (s := Rows.spanTellsSpec) (tb := 4) (W := W) (W' := W') (args := args) (ds := ds) (gs := gs) (before := before) laidOut rfl (by kernel_rfl) Tryd.underlying4 (by kernel_rfl) (fun xs h => by rw [Tryd.params3] at h; match xs, h with | [_, _, _], _ => rfl) hW
  have hlt : ∀ x ∈ before, x.block < W.heap.size := fun x hx => hW.lt x hx
  obtain ⟨p, q, hA0, hV, rfl, hfz, hnd⟩ := hW
  have hA : DataW.TrodAll enc Tryd.prog W 0 (fun _ => true) true Tryd.f3.params.toList args.toList ds p := hA0
  rw [Tryd.params3] at hA hval
  obtain ⟨v0, vs0, d0, ds0, p0, q0, hargs, rfl, rfl, h0, r0⟩ := trodAll_cons hA
  obtain ⟨v1, vs1, d1, ds1, p1, q1, rfl, rfl, rfl, h1, r1⟩ := trodAll_cons r0
  obtain ⟨v2, vs2, d2, ds2, p2, q2, rfl, rfl, rfl, h2, r2⟩ := trodAll_cons r1
  obtain ⟨rfl, rfl, rfl⟩ := trodAll_nil r2
  obtain rfl : args = #[v0, v1, v2] := by cases args; simp_all
  obtain ⟨x0, rfl, hs0, hn0⟩ := open_span (hval 0 23 v0 rfl rfl) h0
  obtain ⟨x1, rfl, hs1, hn1⟩ := open_span (hval 1 23 v1 rfl rfl) h1
  obtain ⟨A2, cap2, b2, rfl, hl2, hm2, hB2⟩ := open_bytes (hval 2 24 v2 rfl rfl) h2 (fun x hx => hlt x (by simp [hx]))
  refine (walk W (of_laid hL) x0 hs0 hn0 x1 hs1 hn1 A2 cap2 b2 hl2 hm2 hB2).mono fun e W' ⟨he, hg⟩ => ?_
  subst he
  exact ⟨_, rfl, hfin W' hg⟩

theorem proved : Rows.SpanTellsSaid :=
  OpenClaim.holds_of_wide 3 Tryd.f3 rfl rfl rfl rfl rfl rfl rfl ⟨rfl, rfl, rfl, rfl, rfl⟩ rfl rfl rfl rfl rfl (by kernel_rfl) Tryd.func3 (by kernel_rfl)
    (of_decide_eq_true (by kernel_rfl)) (by unfold Func.isWrapper; first | (rw [if_pos (by decide +kernel)]; kernel_rfl) | (rw [if_neg (by decide +kernel)]; exact ⟨rfl, rfl⟩))
    (fun os started H enc _ => lifted os started H enc)

set_option maxRecDepth 100000 in
theorem card : Rows.SpanTellsCardSaid :=
  Claim7.holds_tied_plain_at .later [] laidKindsHere true _ true
    proved (fun _ h => by cases h) (by kernel_rfl) (fun _ h => by cases h) spanTells_row_tie rfl ⟨rfl, rfl⟩ (by kernel_rfl) rfl
    (fun f fn hf hfn => by
      obtain rfl : f = 3 := Option.some.inj ((show Tryd.prog.funcNamed "turntable/turntablelaw03.SpanTells" = some 3 by kernel_rfl).symm.trans hf) |>.symm
      obtain rfl : fn = Tryd.f3 := (Option.some.inj (Tryd.func3.symm.trans hfn)).symm
      exact ⟨by kernel_rfl, fun j t ht => by
        rw [Tryd.params3] at ht
        have hm : t ∈ [23, 24] := by simpa using Array.mem_of_getElem? ht
        have hall : ([23, 24].all fun u => !Tryd.prog.wantsStandIn u) = true := by kernel_rfl
        exact (show Tryd.prog.wantsStandIn t = false by simpa using List.all_eq_true.1 hall t hm)⟩)
    (by kernel_rfl)
#print axioms card
end Go.Proofs.YtiipcnldedjkdaaDoor.spanTells
