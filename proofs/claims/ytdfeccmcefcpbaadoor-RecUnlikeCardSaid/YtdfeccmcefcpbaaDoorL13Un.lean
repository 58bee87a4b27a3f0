/-
  P13.2, RecUnlike: for any two records the law returns true: right ones have the same bytes just if they are the same, and tell their kind first. No condition; what the row lists is tied to the program's text.
-/
import Derived.Test.YtdfeccmcefcpbaaDoorL13U
namespace Go.Proofs.YtdfeccmcefcpbaaDoor.recUnlike
open Go.ChangeShapes Go.WideShapes Go.ChangeAt Go.RowKit
set_option maxRecDepth 100000

set_option maxHeartbeats 8000000 in
theorem walkN (w : World) (hH : Handle w) (qa qb : Rc.R) (A B : Option Addr) (n m cap cap2 : Nat) (hn : qa.sp.length = n) (hl : n ≤ cap) (hm : cap ≤ maxLen) (hA : Lies w A (flat qa.sp)) (hSA : Fine qa.sp) (hn2 : qb.sp.length = m) (hl2 : m ≤ cap2) (hm2 : cap2 ≤ maxLen) (hB : Lies w B (flat qb.sp)) (hSB : Fine qb.sp) :
    Calls Tryd.prog 8 #[recV qa A n cap, recV qb B m cap2] w fun e w' => e = .returned (.bool true) ∧ Below w.heap.size w w' := by
  obtain ⟨P, hP⟩ : ∃ P, Rc.rput qa = P := ⟨_, rfl⟩
  obtain ⟨Q, hQ⟩ : ∃ Q, Rc.rput qb = Q := ⟨_, rfl⟩
  obtain ⟨m1, hP1⟩ : ∃ m1, P.length = m1 := ⟨_, rfl⟩
  obtain ⟨m2, hQ1⟩ : ∃ m2, Q.length = m2 := ⟨_, rfl⟩
  have HPOS := Lib.hid (Rc.rput_pos qa)
  have HPOS2 := Lib.hid (Rc.rput_pos qb)
  have HKA := Lib.hid (fun (h : Rc.right qa = true) => Rc.kind_first h)
  have HKB := Lib.hid (fun (h : Rc.right qb = true) => Rc.kind_first h)
  have HINJ := Lib.hid (fun (h : Rc.right qa = true) (h2 : Rc.right qb = true) => show decide (qa = qb) = decide (Rc.rput qa = Rc.rput qb) by
    rw [decide_eq_decide]
    exact ⟨fun h => by rw [h], fun h3 => Rc.rput_inj h h2 h3⟩)
  have HPU := Lib.hid (fun (W : World) (h : Below w.heap.size w W) => put13_any qa A n cap W P m1 hP hP1 hn (by omega) (hA.below h) hSA)
  have HQU := Lib.hid (fun (W : World) (h : Below w.heap.size w W) => put13_any qb B m cap2 W Q m2 hQ hQ1 hn2 (by omega) (hB.below h) hSB)
  have HG := Lib.hid (fun (W : World) (h : Below w.heap.size w W) => great_any A n cap qa.sp W hn hl hm (hA.below h))
  have HG2 := Lib.hid (fun (W : World) (h : Below w.heap.size w W) => great_any B m cap2 qb.sp W hn2 hl2 hm2 (hB.below h))
  have HSS := Lib.hid (fun (W : World) (h : Below w.heap.size w W) => rsame13_any qa qb A B n m cap cap2 W hn hn2 hl hl2 hm hm2 (hA.below h) (hB.below h))
  rw [hP, hP1] at HPOS
  rw [hQ, hQ1] at HPOS2
  rw [hP] at HKA HINJ
  rw [hQ] at HKB HINJ
  obtain ⟨RA, hRA⟩ : ∃ RA, Rc.right qa = RA := ⟨_, rfl⟩
  obtain ⟨RB, hRB⟩ : ∃ RB, Rc.right qb = RB := ⟨_, rfl⟩
  obtain ⟨DD, hDD⟩ : ∃ DD, decide (qa = qb) = DD := ⟨_, rfl⟩
  rw [hRA] at HPOS HKA HINJ
  rw [hRB] at HPOS2 HKB HINJ
  rw [hDD] at HINJ HSS
  obtain ⟨ka, ida, ca, ta, pa, sa⟩ := qa
  obtain ⟨kb, idb, cb, tb, pb, sb⟩ := qb
  unfold recV recCs at *
  simp only at HPU HQU HG HG2 HSS HKA HKB
  have hbx := Blk.new w #[.int .i64 ka, .int .i64 ida, .int .i64 ca, .int .i64 ta, .bool pa, .slice A n cap] 24
  have HBX := Lib.hid (blk_past hbx (.cells #[.int .i64 kb, .int .i64 idb, .int .i64 cb, .int .i64 tb, .bool pb, .slice B m cap2] 24))
  have HBY := Lib.hid (show Blk ((w.alloc (.cells #[.int .i64 ka, .int .i64 ida, .int .i64 ca, .int .i64 ta, .bool pa, .slice A n cap] 24)).alloc (.cells #[.int .i64 kb, .int .i64 idb, .int .i64 cb, .int .i64 tb, .bool pb, .slice B m cap2] 24)) (w.heap.size + 1) _ _ from blk_now (by simp))
  have hB0 : Below w.heap.size w ((w.alloc (.cells #[.int .i64 ka, .int .i64 ida, .int .i64 ca, .int .i64 ta, .bool pa, .slice A n cap] 24)).alloc (.cells #[.int .i64 kb, .int .i64 idb, .int .i64 cb, .int .i64 tb, .bool pb, .slice B m cap2] 24)) := ((Below.refl _ _).alloc (Nat.le_refl _) _).alloc (by simp) _
  have HB0 := Lib.hid hB0
  have HH0 := Lib.hid (up13_any _ (handle13_below hH hB0))
  have HP1 := Lib.hid hP1
  have HQ1 := Lib.hid hQ1
  clear hbx hB0 hRA hRB hDD hP hQ hP1 hQ1 hA hB hSA hSB hn hn2 hH hl hl2 hm hm2
  go_enter Tryd.func8, Tryd.ntmps8
  go_wp2_with fail
  refine HH0.out.mono ?_
  rintro e w1 ⟨rfl, hb1⟩
  have HB1 := Lib.hid (HB0.out.trans (hb1.mono HB0.out.size))
  have HX1 := Lib.hid (show Blk w1 w.heap.size _ _ from (hb1.block _ HBX.out.lt).trans HBX.out)
  have HY1 := Lib.hid (show Blk w1 (w.heap.size + 1) _ _ from (hb1.block _ HBY.out.lt).trans HBY.out)
  obtain ⟨x0, x1, x2, x3, x4, x5⟩ := six13 HX1.out
  clear hb1
  go_wp2_with fail
  refine (HG.out w1 HB1.out).mono ?_
  rintro e w2 ⟨g, rfl, -, hb2⟩
  have HB2 := Lib.hid (HB1.out.trans (hb2.mono HB1.out.size))
  have HX2 := Lib.hid (show Blk w2 w.heap.size _ _ from (hb2.block _ HX1.out.lt).trans HX1.out)
  have HY2 := Lib.hid (show Blk w2 (w.heap.size + 1) _ _ from (hb2.block _ HY1.out.lt).trans HY1.out)
  clear hb2 x0 x1 x2 x3 x4 x5
  rcases g with _ | _
  rotate_left
  · go_wp2
    go_ret
    exact ⟨rfl, HB2.out⟩
  obtain ⟨y0, y1, y2, y3, y4, y5⟩ := six13 HY2.out
  go_wp2_with fail
  refine (HG2.out w2 HB2.out).mono ?_
  rintro e w3 ⟨g, rfl, -, hb3⟩
  have HB3 := Lib.hid (HB2.out.trans (hb3.mono HB2.out.size))
  have HX3 := Lib.hid (show Blk w3 w.heap.size _ _ from (hb3.block _ HX2.out.lt).trans HX2.out)
  have HY3 := Lib.hid (show Blk w3 (w.heap.size + 1) _ _ from (hb3.block _ HY2.out.lt).trans HY2.out)
  clear hb3 y0 y1 y2 y3 y4 y5
  rcases g with _ | _
  rotate_left
  · go_wp2
    go_ret
    exact ⟨rfl, HB3.out⟩
  obtain ⟨x0, x1, x2, x3, x4, x5⟩ := six13 HX3.out
  go_wp2_with fail
  refine (HPU.out w3 HB3.out).mono ?_
  rintro e w4 ⟨A4, c4, rfl, hl4, hm4, hL4, hb4⟩
  have HB4 := Lib.hid (HB3.out.trans (hb4.mono HB3.out.size))
  have HX4 := Lib.hid (show Blk w4 w.heap.size _ _ from (hb4.block _ HX3.out.lt).trans HX3.out)
  have HY4 := Lib.hid (show Blk w4 (w.heap.size + 1) _ _ from (hb4.block _ HY3.out.lt).trans HY3.out)
  have HL4 := Lib.hid hL4
  clear hb4 hL4 x0 x1 x2 x3 x4 x5
  obtain ⟨y0, y1, y2, y3, y4, y5⟩ := six13 HY4.out
  go_wp2_with fail
  refine (HQU.out w4 HB4.out).mono ?_
  rintro e w5 ⟨A5, c5, rfl, hl5, hm5, hL5, hb5⟩
  have HB5 := Lib.hid (HB4.out.trans (hb5.mono HB4.out.size))
  have HX5 := Lib.hid (show Blk w5 w.heap.size #[.int .i64 ka, .int .i64 ida, .int .i64 ca, .int .i64 ta, .bool pa, .slice A n cap] 24 from (hb5.block _ HX4.out.lt).trans HX4.out)
  have HY5 := Lib.hid (show Blk w5 (w.heap.size + 1) #[.int .i64 kb, .int .i64 idb, .int .i64 cb, .int .i64 tb, .bool pb, .slice B m cap2] 24 from (hb5.block _ HY4.out.lt).trans HY4.out)
  have HL45 := Lib.hid (HL4.out.below hb5)
  have HL5 := Lib.hid hL5
  clear hb5 hL5 y0 y1 y2 y3 y4 y5
  by_cases ht0 : m1 = 0
  · subst ht0
    go_wp2
    go_ret
    exact ⟨rfl, HB5.out⟩
  have hne : ((m1 : Int) == 0) = false := beq_eq_false_iff_ne.2 (by omega)
  by_cases ht1 : m2 = 0
  · subst ht1
    go_wp2
    go_ret
    exact ⟨rfl, HB5.out⟩
  have hne2 : ((m2 : Int) == 0) = false := beq_eq_false_iff_ne.2 (by omega)
  have hTa := HPOS.out.1 (by omega)
  have hTb := HPOS2.out.1 (by omega)
  have hka := HKA.out hTa
  have hkb := HKB.out hTb
  have hinj := HINJ.out hTa hTb
  obtain ⟨a4, rfl, -⟩ := HL45.out.at_ (k := 0) (by rw [cells_length, HP1.out]; omega)
  obtain ⟨a5, rfl, -⟩ := HL5.out.at_ (k := 0) (by rw [cells_length, HQ1.out]; omega)
  have F1 := Lib.hid (first13 HL45.out (by rw [HP1.out]; omega))
  have F2 := Lib.hid (first13 HL5.out (by rw [HQ1.out]; omega))
  obtain ⟨k1, hk1⟩ : ∃ k1, (P.getD 0 0).toNat = k1 := ⟨_, rfl⟩
  obtain ⟨k2, hk2⟩ : ∃ k2, (Q.getD 0 0).toNat = k2 := ⟨_, rfl⟩
  rw [hk1] at hka F1
  rw [hk2] at hkb F2
  have V1 := Lib.hid (fun (W : World) => conv13_i W k1 (by omega))
  have V2 := Lib.hid (fun (W : World) => conv13_i W k2 (by omega))
  have E1 := Lib.hid (fun (W : World) => eqi13_D W (k1 : Int) ka true (by rw [decide_eq_true_eq]; omega))
  have E2 := Lib.hid (fun (W : World) => eqi13_D W (k2 : Int) kb true (by rw [decide_eq_true_eq]; omega))
  obtain ⟨D, hD⟩ : ∃ D, decide (P = Q) = D := ⟨_, rfl⟩
  have ES := Lib.hid (fun (W : World) => eqs13_D W P Q D hD)
  rw [hD] at hinj
  rw [hinj] at HSS
  have HSM := Lib.hid (fun (W : World) (h : Below w5.heap.size w5 W) => HSS.out W (HB5.out.trans (h.mono HB5.out.size)))
  have CP := Lib.hid (fun (W : World) (h : Below w5.heap.size w5 W) => str13 (c := c4) HL45.out HP1.out W h)
  have CQ := Lib.hid (fun (W : World) (h : Below w5.heap.size w5 W) => str13 (c := c5) HL5.out HQ1.out W h)
  have LA := Lib.hid (fun (W : World) (h : Below w5.heap.size w5 W) => load13 HX5.out W h)
  have LB := Lib.hid (fun (W : World) (h : Below w5.heap.size w5 W) => load13 HY5.out W h)
  have KA := Lib.hid (fun (W : World) (h : Below w5.heap.size w5 W) => loadK13 HX5.out W h)
  have KB := Lib.hid (fun (W : World) (h : Below w5.heap.size w5 W) => loadK13 HY5.out W h)
  have HI1 := Lib.hid (fun (W : World) => show (Instr.indexAt 25 (.slice (some a4) m1 c4) (.int .i64 0)).run Tryd.prog W = .ok (.pointer (some a4)) W by
    have hh : 0 < m1 := by omega
    go_simp)
  have HI2 := Lib.hid (fun (W : World) => show (Instr.indexAt 25 (.slice (some a5) m2 c5) (.int .i64 0)).run Tryd.prog W = .ok (.pointer (some a5)) W by
    have hh : 0 < m2 := by omega
    go_simp)
  clear hinj hka hkb hTa hTb hD HSS HPOS HPOS2 HKA HKB HINJ hk1 hk2
  go_wp2
  refine wp_soft (by kernel_rfl) 61 [(31, [5]), (32, [31]), (33, [6, 32]), (34, [33, 32]), (35, [7, 32]), (36, [35, 32]), (37, [34, 36, 32]), (38, [2, 32]), (39, [3, 32]), (40, [38, 39, 32]), (41, [37, 40, 32]), (42, [32, 41]), (43, [42]), (44, [6, 43]), (45, [44, 43]), (46, [45, 43]), (47, [46, 43]), (48, [2, 43]), (49, [48, 43]), (50, [47, 49, 43]), (51, [43, 50]), (52, [51]), (53, [7, 52]), (54, [53, 52]), (55, [54, 52]), (56, [55, 52]), (57, [3, 52]), (58, [57, 52]), (59, [56, 58, 52]), (60, [52, 59]), (4, [60])]
    [Fact.is (.bool true), Fact.is (.bool true), Fact.is (.slice (some a4) m1 c4), Fact.is (.string (str P)), Fact.is (.slice (some a5) m2 c5), Fact.is (.string (str Q)), Fact.is (.bool D), Fact.is (.agg #[.int .i64 ka, .int .i64 ida, .int .i64 ca, .int .i64 ta, .bool pa, .slice A n cap]), Fact.is (.agg #[.int .i64 kb, .int .i64 idb, .int .i64 cb, .int .i64 tb, .bool pb, .slice B m cap2]), Fact.is (.bool D), Fact.is (.bool true), Fact.is (.bool true), Fact.is (.bool true), Fact.is (.slice (some a4) m1 c4), Fact.is (.pointer (some a4)), Fact.is (.int .u8 (k1 : Int)), Fact.is (.int .i64 (k1 : Int)), Fact.is (.pointer (some ⟨w.heap.size, 0, none⟩)), Fact.is (.int .i64 ka), Fact.is (.bool true), Fact.is (.bool true), Fact.is (.bool true), Fact.is (.slice (some a5) m2 c5), Fact.is (.pointer (some a5)), Fact.is (.int .u8 (k2 : Int)), Fact.is (.int .i64 (k2 : Int)), Fact.is (.pointer (some ⟨w.heap.size + 1, 0, none⟩)), Fact.is (.int .i64 kb), Fact.is (.bool true), Fact.is (.bool true), Fact.is (.bool true)]
    (by kernel_rfl) rfl rfl ⟨?s0, ?s1, ?s2, ?s3, ?s4, ?s5, ?s6, ?s7, ?s8, ?s9, ?s10, ?s11, ?s12, ?s13, ?s14, ?s15, ?s16, ?s17, ?s18, ?s19, ?s20, ?s21, ?s22, ?s23, ?s24, ?s25, ?s26, ?s27, ?s28, ?s29, ?s30, trivial⟩ ?fin
  case s0 =>
    intro ρ W hb hc hf hr
    obtain ⟨r5, -⟩ := hr
    have e5 : ρ (.tmp 5) = .bool true := r5
    clear r5
    refine under_none rfl ?_
    exact ⟨e5, Below.refl _ _⟩
  case s1 =>
    intro ρ W hb hc hf hr
    obtain ⟨r31, -⟩ := hr
    have e31 : ρ (.tmp 31) = .bool true := r31
    clear r31
    refine under_none rfl ?_
    exact ⟨e31, Below.refl _ _⟩
  case s2 =>
    intro ρ W hb hc hf hr
    obtain ⟨r6, r32, -⟩ := hr
    have e6 : ρ (.tmp 6) = .slice (some a4) m1 c4 := r6
    clear r6
    have e32 : ρ (.tmp 32) = .bool true := r32
    clear r32
    refine ⟨32, rfl, .inl ⟨e32, ?_⟩⟩
    exact ⟨e6, Below.refl _ _⟩
  case s3 =>
    intro ρ W hb hc hf hr
    obtain ⟨r33, r32, -⟩ := hr
    have e33 : ρ (.tmp 33) = .slice (some a4) m1 c4 := r33
    clear r33
    have e32 : ρ (.tmp 32) = .bool true := r32
    clear r32
    refine ⟨32, rfl, .inl ⟨e32, ?_⟩⟩
    exact soft_conv e33 (CP.out W (undrew13 hb)) rfl
  case s4 =>
    intro ρ W hb hc hf hr
    obtain ⟨r7, r32, -⟩ := hr
    have e7 : ρ (.tmp 7) = .slice (some a5) m2 c5 := r7
    clear r7
    have e32 : ρ (.tmp 32) = .bool true := r32
    clear r32
    refine ⟨32, rfl, .inl ⟨e32, ?_⟩⟩
    exact ⟨e7, Below.refl _ _⟩
  case s5 =>
    intro ρ W hb hc hf hr
    obtain ⟨r35, r32, -⟩ := hr
    have e35 : ρ (.tmp 35) = .slice (some a5) m2 c5 := r35
    clear r35
    have e32 : ρ (.tmp 32) = .bool true := r32
    clear r32
    refine ⟨32, rfl, .inl ⟨e32, ?_⟩⟩
    exact soft_conv e35 (CQ.out W (undrew13 hb)) rfl
  case s6 =>
    intro ρ W hb hc hf hr
    obtain ⟨r34, r36, r32, -⟩ := hr
    have e34 : ρ (.tmp 34) = .string (str P) := r34
    clear r34
    have e36 : ρ (.tmp 36) = .string (str Q) := r36
    clear r36
    have e32 : ρ (.tmp 32) = .bool true := r32
    clear r32
    refine ⟨32, rfl, .inl ⟨e32, ?_⟩⟩
    exact soft_bin e34 e36 rfl rfl (ES.out W)
  case s7 =>
    intro ρ W hb hc hf hr
    obtain ⟨r2, r32, -⟩ := hr
    have e2 : ρ (.tmp 2) = .pointer (some ⟨w.heap.size, 0, none⟩) := r2
    clear r2
    have e32 : ρ (.tmp 32) = .bool true := r32
    clear r32
    refine ⟨32, rfl, .inl ⟨e32, ?_⟩⟩
    exact soft_load e2 (LA.out W (undrew13 hb)) rfl
  case s8 =>
    intro ρ W hb hc hf hr
    obtain ⟨r3, r32, -⟩ := hr
    have e3 : ρ (.tmp 3) = .pointer (some ⟨w.heap.size + 1, 0, none⟩) := r3
    clear r3
    have e32 : ρ (.tmp 32) = .bool true := r32
    clear r32
    refine ⟨32, rfl, .inl ⟨e32, ?_⟩⟩
    exact soft_load e3 (LB.out W (undrew13 hb)) rfl
  case s9 =>
    intro ρ W hb hc hf hr
    obtain ⟨r38, r39, r32, -⟩ := hr
    have e38 : ρ (.tmp 38) = .agg #[.int .i64 ka, .int .i64 ida, .int .i64 ca, .int .i64 ta, .bool pa, .slice A n cap] := r38
    clear r38
    have e39 : ρ (.tmp 39) = .agg #[.int .i64 kb, .int .i64 idb, .int .i64 cb, .int .i64 tb, .bool pb, .slice B m cap2] := r39
    clear r39
    have e32 : ρ (.tmp 32) = .bool true := r32
    clear r32
    refine ⟨32, rfl, .inl ⟨e32, ?_⟩⟩
    exact soft_call2 hf e38 e39 (HSM.out W (undrew13 hb)) rfl (by kernel_rfl) below_is
  case s10 =>
    intro ρ W hb hc hf hr
    obtain ⟨r37, r40, r32, -⟩ := hr
    have e37 : ρ (.tmp 37) = .bool D := r37
    clear r37
    have e40 : ρ (.tmp 40) = .bool D := r40
    clear r40
    have e32 : ρ (.tmp 32) = .bool true := r32
    clear r32
    refine ⟨32, rfl, .inl ⟨e32, ?_⟩⟩
    exact soft_bin e37 e40 rfl rfl (eqb13 W D)
  case s11 =>
    intro ρ W hb hc hf hr
    obtain ⟨r32, r41, -⟩ := hr
    have e32 : ρ (.tmp 32) = .bool true := r32
    clear r32
    have e41 : ρ (.tmp 41) = .bool true := r41
    clear r41
    refine under_none rfl ?_
    simp [execOp, e32, e41, go_sem, softUpon, Fact.is, Below.refl]
  case s12 =>
    intro ρ W hb hc hf hr
    obtain ⟨r42, -⟩ := hr
    have e42 : ρ (.tmp 42) = .bool true := r42
    clear r42
    refine under_none rfl ?_
    exact ⟨e42, Below.refl _ _⟩
  case s13 =>
    intro ρ W hb hc hf hr
    obtain ⟨r6, r43, -⟩ := hr
    have e6 : ρ (.tmp 6) = .slice (some a4) m1 c4 := r6
    clear r6
    have e43 : ρ (.tmp 43) = .bool true := r43
    clear r43
    refine ⟨43, rfl, .inl ⟨e43, ?_⟩⟩
    exact ⟨e6, Below.refl _ _⟩
  case s14 =>
    intro ρ W hb hc hf hr
    obtain ⟨r44, r43, -⟩ := hr
    have e44 : ρ (.tmp 44) = .slice (some a4) m1 c4 := r44
    clear r44
    have e43 : ρ (.tmp 43) = .bool true := r43
    clear r43
    refine ⟨43, rfl, .inl ⟨e43, ?_⟩⟩
    exact soft13_index e44 (hc _) (HI1.out W) rfl
  case s15 =>
    intro ρ W hb hc hf hr
    obtain ⟨r45, r43, -⟩ := hr
    have e45 : ρ (.tmp 45) = .pointer (some a4) := r45
    clear r45
    have e43 : ρ (.tmp 43) = .bool true := r43
    clear r43
    refine ⟨43, rfl, .inl ⟨e43, ?_⟩⟩
    exact soft_load e45 (F1.out W (undrew13 hb)) rfl
  case s16 =>
    intro ρ W hb hc hf hr
    obtain ⟨r46, r43, -⟩ := hr
    have e46 : ρ (.tmp 46) = .int .u8 (k1 : Int) := r46
    clear r46
    have e43 : ρ (.tmp 43) = .bool true := r43
    clear r43
    refine ⟨43, rfl, .inl ⟨e43, ?_⟩⟩
    exact soft_conv e46 (V1.out W) rfl
  case s17 =>
    intro ρ W hb hc hf hr
    obtain ⟨r2, r43, -⟩ := hr
    have e2 : ρ (.tmp 2) = .pointer (some ⟨w.heap.size, 0, none⟩) := r2
    clear r2
    have e43 : ρ (.tmp 43) = .bool true := r43
    clear r43
    refine ⟨43, rfl, .inl ⟨e43, ?_⟩⟩
    exact soft_field e2 rfl (fun W => by go_simp)
  case s18 =>
    intro ρ W hb hc hf hr
    obtain ⟨r48, r43, -⟩ := hr
    have e48 : ρ (.tmp 48) = .pointer (some ⟨w.heap.size, 0, none⟩) := r48
    clear r48
    have e43 : ρ (.tmp 43) = .bool true := r43
    clear r43
    refine ⟨43, rfl, .inl ⟨e43, ?_⟩⟩
    exact soft_load e48 (KA.out W (undrew13 hb)) rfl
  case s19 =>
    intro ρ W hb hc hf hr
    obtain ⟨r47, r49, r43, -⟩ := hr
    have e47 : ρ (.tmp 47) = .int .i64 (k1 : Int) := r47
    clear r47
    have e49 : ρ (.tmp 49) = .int .i64 ka := r49
    clear r49
    have e43 : ρ (.tmp 43) = .bool true := r43
    clear r43
    refine ⟨43, rfl, .inl ⟨e43, ?_⟩⟩
    exact soft_bin e47 e49 rfl rfl (E1.out W)
  case s20 =>
    intro ρ W hb hc hf hr
    obtain ⟨r43, r50, -⟩ := hr
    have e43 : ρ (.tmp 43) = .bool true := r43
    clear r43
    have e50 : ρ (.tmp 50) = .bool true := r50
    clear r50
    refine under_none rfl ?_
    simp [execOp, e43, e50, go_sem, softUpon, Fact.is, Below.refl]
  case s21 =>
    intro ρ W hb hc hf hr
    obtain ⟨r51, -⟩ := hr
    have e51 : ρ (.tmp 51) = .bool true := r51
    clear r51
    refine under_none rfl ?_
    exact ⟨e51, Below.refl _ _⟩
  case s22 =>
    intro ρ W hb hc hf hr
    obtain ⟨r7, r52, -⟩ := hr
    have e7 : ρ (.tmp 7) = .slice (some a5) m2 c5 := r7
    clear r7
    have e52 : ρ (.tmp 52) = .bool true := r52
    clear r52
    refine ⟨52, rfl, .inl ⟨e52, ?_⟩⟩
    exact ⟨e7, Below.refl _ _⟩
  case s23 =>
    intro ρ W hb hc hf hr
    obtain ⟨r53, r52, -⟩ := hr
    have e53 : ρ (.tmp 53) = .slice (some a5) m2 c5 := r53
    clear r53
    have e52 : ρ (.tmp 52) = .bool true := r52
    clear r52
    refine ⟨52, rfl, .inl ⟨e52, ?_⟩⟩
    exact soft13_index e53 (hc _) (HI2.out W) rfl
  case s24 =>
    intro ρ W hb hc hf hr
    obtain ⟨r54, r52, -⟩ := hr
    have e54 : ρ (.tmp 54) = .pointer (some a5) := r54
    clear r54
    have e52 : ρ (.tmp 52) = .bool true := r52
    clear r52
    refine ⟨52, rfl, .inl ⟨e52, ?_⟩⟩
    exact soft_load e54 (F2.out W (undrew13 hb)) rfl
  case s25 =>
    intro ρ W hb hc hf hr
    obtain ⟨r55, r52, -⟩ := hr
    have e55 : ρ (.tmp 55) = .int .u8 (k2 : Int) := r55
    clear r55
    have e52 : ρ (.tmp 52) = .bool true := r52
    clear r52
    refine ⟨52, rfl, .inl ⟨e52, ?_⟩⟩
    exact soft_conv e55 (V2.out W) rfl
  case s26 =>
    intro ρ W hb hc hf hr
    obtain ⟨r3, r52, -⟩ := hr
    have e3 : ρ (.tmp 3) = .pointer (some ⟨w.heap.size + 1, 0, none⟩) := r3
    clear r3
    have e52 : ρ (.tmp 52) = .bool true := r52
    clear r52
    refine ⟨52, rfl, .inl ⟨e52, ?_⟩⟩
    exact soft_field e3 rfl (fun W => by go_simp)
  case s27 =>
    intro ρ W hb hc hf hr
    obtain ⟨r57, r52, -⟩ := hr
    have e57 : ρ (.tmp 57) = .pointer (some ⟨w.heap.size + 1, 0, none⟩) := r57
    clear r57
    have e52 : ρ (.tmp 52) = .bool true := r52
    clear r52
    refine ⟨52, rfl, .inl ⟨e52, ?_⟩⟩
    exact soft_load e57 (KB.out W (undrew13 hb)) rfl
  case s28 =>
    intro ρ W hb hc hf hr
    obtain ⟨r56, r58, r52, -⟩ := hr
    have e56 : ρ (.tmp 56) = .int .i64 (k2 : Int) := r56
    clear r56
    have e58 : ρ (.tmp 58) = .int .i64 kb := r58
    clear r58
    have e52 : ρ (.tmp 52) = .bool true := r52
    clear r52
    refine ⟨52, rfl, .inl ⟨e52, ?_⟩⟩
    exact soft_bin e56 e58 rfl rfl (E2.out W)
  case s29 =>
    intro ρ W hb hc hf hr
    obtain ⟨r52, r59, -⟩ := hr
    have e52 : ρ (.tmp 52) = .bool true := r52
    clear r52
    have e59 : ρ (.tmp 59) = .bool true := r59
    clear r59
    refine under_none rfl ?_
    simp [execOp, e52, e59, go_sem, softUpon, Fact.is, Below.refl]
  case s30 =>
    intro ρ W hb hc hf hr
    obtain ⟨r60, -⟩ := hr
    have e60 : ρ (.tmp 60) = .bool true := r60
    clear r60
    refine under_none rfl ?_
    exact ⟨e60, Below.refl _ _⟩
  case fin =>
    intro a w6 hb hd hk
    have h4 : a.tmps.getD 4 undef = .bool true := hk 4
    clear hk
    have hc := HB5.out.trans ((undrew13 hb).mono HB5.out.size)
    go_wp2
    refine bodyPost_ret (results_tmp rfl _ _ _) hd ?_
    exact ⟨by rw [h4], hc⟩

theorem walk (w : World) (hH : Handle w) (qa : Rc.R) (A : Option Addr) (cap : Nat) (hl : qa.sp.length ≤ cap) (hm : cap ≤ maxLen) (hA : Lies w A (flat qa.sp)) (hSA : Fine qa.sp) (qb : Rc.R) (B : Option Addr) (cap2 : Nat) (hl2 : qb.sp.length ≤ cap2) (hm2 : cap2 ≤ maxLen) (hB : Lies w B (flat qb.sp)) (hSB : Fine qb.sp) :
    Calls Tryd.prog 8 #[recV qa A qa.sp.length cap, recV qb B qb.sp.length cap2] w fun e w' => e = .returned (.bool true) ∧ Below w.heap.size w w' :=
  walkN w hH qa qb A B qa.sp.length qb.sp.length cap cap2 rfl hl hm hA hSA rfl hl2 hm2 hB hSB


set_option maxRecDepth 100000 in
theorem lifted (os : Os) (started : os.Started) (H : Type) (enc : TypeId × Value → H) :
    ReturnsInHanded {} Tryd.checked os 8 .any (fun w args => (Rows.recUnlikeSpec.pre enc Tryd.prog Tryd.f8 [] false w args ∧ laidMetH Tryd.prog laidHere w) ∧ sizedMet enc Tryd.prog Tryd.f8 (OpenSpec.ofChange Rows.recUnlikeSpec) false w args) (Rows.recUnlikeSpec.post enc Tryd.prog Tryd.f8 false true false false) := by
  refine returnsInHanded_of_change_and (C := Tryd.checked) (X := fun w _ => laidMetH Tryd.prog laidHere w) (fun _ _ _ hh h => h.of_heap hh) own started (by kernel_rfl) Tryd.func8
    (ChangeSpec.witness_at (enc := enc) (C := Tryd.checked) (os := os) (X := fun w _ => laidMetH Tryd.prog laidHere w) false (laidWorld os) #[.agg #[.int .i64 0, .int .i64 0, .int .i64 0, .int .i64 0, .bool false, .slice none 0 0], .agg #[.int .i64 0, .int .i64 0, .int .i64 0, .int .i64 0, .bool false, .slice none 0 0]] 8 rfl (by kernel_rfl) (by kernel_rfl) (by kernel_rfl) (by kernel_rfl) (by kernel_rfl) (laidWorld_met os _)) ?_
  intro W base args ds gs before hval0 hW _ _ hL _
  have hval : ∀ (j : Nat) t v, Tryd.f8.params[j]? = some t → args[j]? = some v → Value.okWide Tryd.prog W .any base t v := hval0
  have hfin := fun W' => law_post (enc := enc) (P := Tryd.prog) (f := Tryd.f8) (s := Rows.recUnlikeSpec) (tb := 4) (W := W) (W' := W') (args := args) (ds := ds) (gs := gs) (before := before) laidOut rfl (by kernel_rfl) Tryd.underlying4 (by kernel_rfl) (fun xs h => by rw [Tryd.params8] at h; match xs, h with | [_, _], _ => rfl) hW
  have hlt : ∀ x ∈ before, x.block < W.heap.size := fun x hx => hW.lt x hx
  obtain ⟨p, q, hA0, hV, rfl, hfz, hnd⟩ := hW
  have hA : DataW.TrodAll enc Tryd.prog W 0 (fun _ => true) true Tryd.f8.params.toList args.toList ds p := hA0
  rw [Tryd.params8] at hA hval
  obtain ⟨v0, vs0, d0, ds0, p0, q0, hargs, rfl, rfl, h0, r0⟩ := trodAll_cons hA
  obtain ⟨v1, vs1, d1, ds1, p1, q1, rfl, rfl, rfl, h1, r1⟩ := trodAll_cons r0
  obtain ⟨rfl, rfl, rfl⟩ := trodAll_nil r1
  obtain rfl : args = #[v0, v1] := by cases args; simp_all
  obtain ⟨q0, A0, cap0, rfl, hl0, hm0, hB0, hS0⟩ := open_rec (hval 0 24 v0 rfl rfl) h0 (fun x hx => hlt x (by simp [hx]))
  obtain ⟨q1, A1, cap1, rfl, hl1, hm1, hB1, hS1⟩ := open_rec (hval 1 24 v1 rfl rfl) h1 (fun x hx => hlt x (by simp [hx]))
  refine (walk W (of_laid hL) q0 A0 cap0 hl0 hm0 hB0 hS0 q1 A1 cap1 hl1 hm1 hB1 hS1).mono fun e W' ⟨he, hg⟩ => ?_
  subst he
  exact ⟨_, rfl, hfin W' hg⟩

theorem proved : Rows.RecUnlikeSaid :=
  OpenClaim.holds_of_wide 8 Tryd.f8 rfl rfl rfl rfl rfl rfl rfl ⟨rfl, rfl, rfl, rfl, rfl⟩ rfl rfl rfl rfl rfl (by kernel_rfl) Tryd.func8 (by kernel_rfl)
    (of_decide_eq_true (by kernel_rfl)) (by unfold Func.isWrapper; first | (rw [if_pos (by decide +kernel)]; kernel_rfl) | (rw [if_neg (by decide +kernel)]; exact ⟨rfl, rfl⟩))
    (fun os started H enc _ => lifted os started H enc)

set_option maxRecDepth 100000 in
theorem card : Rows.RecUnlikeCardSaid :=
  Claim7.holds_tied_plain_at .later [] laidKindsHere true _ true
    proved (fun _ h => by cases h) (by kernel_rfl) (fun _ h => by cases h) recUnlike_row_tie rfl ⟨rfl, rfl⟩ (by kernel_rfl) rfl
    (fun f fn hf hfn => by
      obtain rfl : f = 8 := Option.some.inj ((show Tryd.prog.funcNamed "turntable/turntablelaw13.RecUnlike" = some 8 by kernel_rfl).symm.trans hf) |>.symm
      obtain rfl : fn = Tryd.f8 := (Option.some.inj (Tryd.func8.symm.trans hfn)).symm
      exact ⟨by kernel_rfl, fun j t ht => by
        rw [Tryd.params8] at ht
        have hm : t ∈ [24, 24] := Array.mem_def.1 (Array.mem_of_getElem? ht)
        have hall : ([24, 24].all fun u => !Tryd.prog.wantsStandIn u) = true := by kernel_rfl
        exact (show Tryd.prog.wantsStandIn t = false by simpa using List.all_eq_true.1 hall t hm)⟩)
    (by kernel_rfl)
#print axioms card
end Go.Proofs.YtdfeccmcefcpbaaDoor.recUnlike
