/-
  P13.1, P13.2, P13.3, RecTells: for all records and bytes the law returns true: whether a record is right, its bytes, what its spans cost, and the record of any bytes, or what is wrong, are the document's. No condition; what the row lists is tied to the program's text.
-/
import Derived.Test.YtdfeccmcefcpbaaDoorL13U
namespace Go.Proofs.YtdfeccmcefcpbaaDoor.recTells
open Go.ChangeShapes Go.WideShapes Go.ChangeAt Go.RowKit
set_option maxRecDepth 100000

set_option maxHeartbeats 8000000 in
theorem walkN (w : World) (hH : Handle w) (q : Rc.R) (A B : Option Addr) (n m cap cap2 : Nat) (x : List UInt8) (hn : q.sp.length = n) (hl : n ≤ cap) (hm : cap ≤ maxLen) (hA : Lies w A (flat q.sp)) (hS : Fine q.sp) (hx : x.length = m) (hl2 : m ≤ cap2) (hm2 : cap2 ≤ maxLen) (hB : Lies w B (cells x)) :
    Calls Tryd.prog 3 #[recV q A n cap, .slice B m cap2] w fun e w' => e = .returned (.bool true) ∧ Below w.heap.size w w' := by
  have HG := Lib.hid (fun (W : World) (h : Below w.heap.size w W) => great_any A n cap q.sp W hn hl hm (hA.below h))
  have HR1 := Lib.hid (fun (W : World) (h : Below w.heap.size w W) => dright13_any q A n cap W hn (by omega) (hA.below h) hS)
  have HR2 := Lib.hid (fun (W : World) (h : Below w.heap.size w W) => rright13_any q A n cap W hn (hA.below h) hS)
  have HP1 := Lib.hid (fun (W : World) (h : Below w.heap.size w W) => dput13_any q A n cap W hn (by omega) (hA.below h) hS)
  have HP2 := Lib.hid (fun (W : World) (h : Below w.heap.size w W) => rput13_any q A n cap W hn (hA.below h) hS)
  have HC1 := Lib.hid (fun (W : World) (h : Below w.heap.size w W) => dcost13_any A n cap q.sp W hn (by omega) (hA.below h) hS)
  have HC2 := Lib.hid (fun (W : World) (h : Below w.heap.size w W) => rcost13_any A n cap q.sp W hn (hA.below h) hS)
  have HGD := Lib.hid (fun (h9 : m ≤ 9000) (W : World) (h : Below w.heap.size w W) => dget13_any B m cap2 x W (handle13_below hH h) hx hl2 hm2 (by omega) (hB.below h))
  have HGR := Lib.hid (fun (h9 : m ≤ 9000) (W : World) (h : Below w.heap.size w W) => rget13_any B m cap2 x W hx hl2 hm2 (by omega) (hB.below h))
  obtain ⟨RR, hRR⟩ : ∃ RR, Rc.right q = RR := ⟨_, rfl⟩
  rw [hRR] at HR1 HR2
  obtain ⟨P, hP⟩ : ∃ P, Rc.rput q = P := ⟨_, rfl⟩
  rw [hP] at HP1 HP2
  obtain ⟨CN, hCN⟩ : ∃ CN, Rc.cost q.sp = CN := ⟨_, rfl⟩
  rw [hCN] at HC1 HC2
  obtain ⟨G, hG⟩ : ∃ G, Rc.rget x = G := ⟨_, rfl⟩
  rw [hG] at HGD HGR
  obtain ⟨G1, C⟩ := G
  have HSM0 := Lib.hid (fun (A3 A4 : Option Addr) (c3 c4 : Nat) (W : World) (h1 : G1.sp.length ≤ c3) (h2 : c3 ≤ maxLen) (h3 : G1.sp.length ≤ c4) (h4 : c4 ≤ maxLen) (h5 : Lies W A3 (flat G1.sp)) (h6 : Lies W A4 (flat G1.sp)) => same13_true (rsame13_any G1 G1 A3 A4 G1.sp.length G1.sp.length c3 c4 W rfl rfl h1 h3 h2 h4 h5 h6))
  obtain ⟨gk, gi, gc, gt, gp, gs⟩ := G1
  obtain ⟨kind, id, cls, tick, pin, sp⟩ := q
  unfold RGives13 at HGD HGR
  unfold recV recCs at *
  simp only at HG HR1 HR2 HP1 HP2 HC1 HC2 HGD HGR HSM0
  obtain ⟨gn, hgn⟩ : ∃ gn, gs.length = gn := ⟨_, rfl⟩
  rw [hgn] at HGD HGR HSM0
  have hbx := Blk.new w #[.int .i64 kind, .int .i64 id, .int .i64 cls, .int .i64 tick, .bool pin, .slice A n cap] 24
  have hB0 : Below w.heap.size w (w.alloc (.cells #[.int .i64 kind, .int .i64 id, .int .i64 cls, .int .i64 tick, .bool pin, .slice A n cap] 24)) := (Below.refl _ _).alloc (Nat.le_refl _) _
  have HBX := Lib.hid hbx
  have HB0 := Lib.hid hB0
  have HH0 := Lib.hid (up13_any _ (handle13_below hH hB0))
  clear hbx hB0 hRR hP hCN hG hA hB hS hn hH hl hm hl2 hm2 hx hgn
  go_enter Tryd.func3, Tryd.ntmps3
  go_wp2_with fail
  refine HH0.out.mono ?_
  rintro e w1 ⟨rfl, hb1⟩
  have HB1 := Lib.hid (HB0.out.trans (hb1.mono HB0.out.size))
  have HX1 := Lib.hid (show Blk w1 w.heap.size _ _ from (hb1.block _ HBX.out.lt).trans HBX.out)
  obtain ⟨x0, x1, x2, x3, x4, x5⟩ := six13 HX1.out
  clear hb1
  go_wp2_with fail
  refine (HG.out w1 HB1.out).mono ?_
  rintro e w2 ⟨g, rfl, -, hb2⟩
  have HB2 := Lib.hid (HB1.out.trans (hb2.mono HB1.out.size))
  have HX2 := Lib.hid (show Blk w2 w.heap.size _ _ from (hb2.block _ HX1.out.lt).trans HX1.out)
  clear hb2 x0 x1 x2 x3 x4 x5
  rcases g with _ | _
  rotate_left
  · go_wp2
    go_ret
    exact ⟨rfl, HB2.out⟩
  by_cases h9 : 9000 < m
  · have hz : (9000 : Int) < (m : Int) := by omega
    go_wp2
    go_ret
    exact ⟨rfl, HB2.out⟩
  have hz : ¬ (9000 : Int) < (m : Int) := by omega
  have HGD1 := Lib.hid (HGD.out (by omega) w2 HB2.out)
  have HGR1 := Lib.hid (HGR.out (by omega))
  clear h9
  go_wp2_with fail
  refine HGD1.out.mono ?_
  rintro e w3 ⟨A3, c3, rfl, hl3, hm3, hL3, -, hb3⟩
  have HL3 := Lib.hid hL3
  have HB3 := Lib.hid (HB2.out.trans (hb3.mono HB2.out.size))
  have HX3 := Lib.hid (show Blk w3 w.heap.size _ _ from (hb3.block _ HX2.out.lt).trans HX2.out)
  have HB3a := Lib.hid (HB3.out.alloc HB3.out.size (.cells #[.int .i64 gk, .int .i64 gi, .int .i64 gc, .int .i64 gt, .bool gp, .slice A3 gn c3] 24))
  have HBA := Lib.hid (show Below w3.heap.size w3 (w3.alloc (.cells #[.int .i64 gk, .int .i64 gi, .int .i64 gc, .int .i64 gt, .bool gp, .slice A3 gn c3] 24)) from (Below.refl _ _).alloc (Nat.le_refl _) _)
  have HG3 := Lib.hid (Blk.new w3 #[.int .i64 gk, .int .i64 gi, .int .i64 gc, .int .i64 gt, .bool gp, .slice A3 gn c3] 24)
  have HGR2 := Lib.hid (HGR1.out _ HB3a.out)
  clear hb3 hL3 HGD1 HGD HGR HGR1
  go_wp2_with fail
  refine HGR2.out.mono ?_
  rintro e w4 ⟨A4, c4, rfl, hl4, hm4, hL4, -, hb4⟩
  have HL4 := Lib.hid hL4
  have HB4 := Lib.hid (HB3a.out.trans (hb4.mono HB3a.out.size))
  have HB34 := Lib.hid (HBA.out.trans (hb4.mono HBA.out.size))
  have HX4 := Lib.hid (show Blk w4 w.heap.size _ _ from (HB34.out.block _ HX3.out.lt).trans HX3.out)
  have HG4 := Lib.hid (show Blk w4 w3.heap.size _ _ from (hb4.block _ HG3.out.lt).trans HG3.out)
  have HLA4 := Lib.hid (HL3.out.below HB34.out)
  obtain ⟨w5, hw5⟩ : ∃ w5, w4.alloc (.cells #[.int .i64 gk, .int .i64 gi, .int .i64 gc, .int .i64 gt, .bool gp, .slice A4 gn c4] 24) = w5 := ⟨_, rfl⟩
  have HB45 := Lib.hid (show Below w4.heap.size w4 w5 by rw [← hw5]; exact (Below.refl _ _).alloc (Nat.le_refl _) _)
  have HB5 := Lib.hid (HB4.out.trans (HB45.out.mono HB4.out.size))
  have HX5 := Lib.hid (show Blk w5 w.heap.size #[.int .i64 kind, .int .i64 id, .int .i64 cls, .int .i64 tick, .bool pin, .slice A n cap] 24 from (HB45.out.block _ HX4.out.lt).trans HX4.out)
  have HY5 := Lib.hid (show Blk w5 w3.heap.size #[.int .i64 gk, .int .i64 gi, .int .i64 gc, .int .i64 gt, .bool gp, .slice A3 gn c3] 24 from (HB45.out.block _ HG4.out.lt).trans HG4.out)
  have HZ5 := Lib.hid (show Blk w5 w4.heap.size #[.int .i64 gk, .int .i64 gi, .int .i64 gc, .int .i64 gt, .bool gp, .slice A4 gn c4] 24 by rw [← hw5]; exact Blk.new _ _ _)
  have HW5 := Lib.hid hw5
  have HSM := Lib.hid (fun (W : World) (h : Below w5.heap.size w5 W) => HSM0.out A3 A4 c3 c4 W hl3 hm3 hl4 hm4 ((HLA4.out.below HB45.out).below h) ((HL4.out.below HB45.out).below h))
  have LA := Lib.hid (fun (W : World) (h : Below w5.heap.size w5 W) => load13 HX5.out W h)
  have LS := Lib.hid (fun (W : World) (h : Below w5.heap.size w5 W) => loadS13 HX5.out W h)
  have LX := Lib.hid (fun (W : World) (h : Below w5.heap.size w5 W) => load13 HY5.out W h)
  have LY := Lib.hid (fun (W : World) (h : Below w5.heap.size w5 W) => load13 HZ5.out W h)
  have HR1 := Lib.hid (fun (W : World) (h : Below w5.heap.size w5 W) => HR1.out W (HB5.out.trans (h.mono HB5.out.size)))
  have HR2 := Lib.hid (fun (W : World) (h : Below w5.heap.size w5 W) => HR2.out W (HB5.out.trans (h.mono HB5.out.size)))
  have HP1 := Lib.hid (fun (W : World) (h : Below w5.heap.size w5 W) => HP1.out W (HB5.out.trans (h.mono HB5.out.size)))
  have HP2 := Lib.hid (fun (W : World) (h : Below w5.heap.size w5 W) => HP2.out W (HB5.out.trans (h.mono HB5.out.size)))
  have HC1 := Lib.hid (fun (W : World) (h : Below w5.heap.size w5 W) => HC1.out W (HB5.out.trans (h.mono HB5.out.size)))
  have HC2 := Lib.hid (fun (W : World) (h : Below w5.heap.size w5 W) => HC2.out W (HB5.out.trans (h.mono HB5.out.size)))
  clear hb4 hL4 hw5 hz
  go_wp2
  rw [HW5.out]
  refine wp_soft (by kernel_rfl) 66 [(30, [5]), (31, [30]), (32, [2, 31]), (33, [32, 31]), (34, [2, 31]), (35, [34, 31]), (36, [33, 35, 31]), (37, [31, 36]), (38, [37]), (39, [2, 38]), (40, [39, 38]), (41, [40, 38]), (42, [2, 38]), (43, [42, 38]), (44, [43, 38]), (45, [41, 44, 38]), (46, [38, 45]), (47, [46]), (48, [2, 47]), (49, [48, 47]), (50, [49, 47]), (51, [2, 47]), (52, [51, 47]), (53, [52, 47]), (54, [50, 53, 47]), (55, [47, 54]), (56, [55]), (57, [6, 56]), (58, [8, 56]), (59, [57, 58, 56]), (60, [56, 59]), (61, [60]), (62, [7, 61]), (63, [9, 61]), (64, [62, 63, 61]), (65, [61, 64]), (4, [65])]
    [Fact.is (.bool true), Fact.is (.bool true), Fact.is (.agg #[.int .i64 kind, .int .i64 id, .int .i64 cls, .int .i64 tick, .bool pin, .slice A n cap]), Fact.is (.bool RR), Fact.is (.agg #[.int .i64 kind, .int .i64 id, .int .i64 cls, .int .i64 tick, .bool pin, .slice A n cap]), Fact.is (.bool RR), Fact.is (.bool true), Fact.is (.bool true), Fact.is (.bool true), Fact.is (.agg #[.int .i64 kind, .int .i64 id, .int .i64 cls, .int .i64 tick, .bool pin, .slice A n cap]), Fact.own P, Fact.is (.string (str P)), Fact.is (.agg #[.int .i64 kind, .int .i64 id, .int .i64 cls, .int .i64 tick, .bool pin, .slice A n cap]), Fact.own P, Fact.is (.string (str P)), Fact.is (.bool true), Fact.is (.bool true), Fact.is (.bool true), Fact.is (.pointer (some ⟨w.heap.size, 5, none⟩)), Fact.is (.slice A n cap), Fact.is (.int .i64 (CN : Int)), Fact.is (.pointer (some ⟨w.heap.size, 5, none⟩)), Fact.is (.slice A n cap), Fact.is (.int .i64 (CN : Int)), Fact.is (.bool true), Fact.is (.bool true), Fact.is (.bool true), Fact.is (.agg #[.int .i64 gk, .int .i64 gi, .int .i64 gc, .int .i64 gt, .bool gp, .slice A3 gn c3]), Fact.is (.agg #[.int .i64 gk, .int .i64 gi, .int .i64 gc, .int .i64 gt, .bool gp, .slice A4 gn c4]), Fact.is (.bool true), Fact.is (.bool true), Fact.is (.bool true), Fact.is (.int .i64 (C : Int)), Fact.is (.int .i64 (C : Int)), Fact.is (.bool true), Fact.is (.bool true), Fact.is (.bool true)]
    (by kernel_rfl) rfl rfl ⟨?s0, ?s1, ?s2, ?s3, ?s4, ?s5, ?s6, ?s7, ?s8, ?s9, ?s10, ?s11, ?s12, ?s13, ?s14, ?s15, ?s16, ?s17, ?s18, ?s19, ?s20, ?s21, ?s22, ?s23, ?s24, ?s25, ?s26, ?s27, ?s28, ?s29, ?s30, ?s31, ?s32, ?s33, ?s34, ?s35, ?s36, trivial⟩ ?fin
  case s0 =>
    intro ρ W hb hc hf hr
    obtain ⟨r5, -⟩ := hr
    have e5 : ρ (.tmp 5) = .bool true := r5
    clear r5
    refine under_none rfl ?_
    exact ⟨e5, Below.refl _ _⟩
  case s1 =>
    intro ρ W hb hc hf hr
    obtain ⟨r30, -⟩ := hr
    have e30 : ρ (.tmp 30) = .bool true := r30
    clear r30
    refine under_none rfl ?_
    exact ⟨e30, Below.refl _ _⟩
  case s2 =>
    intro ρ W hb hc hf hr
    obtain ⟨r2, r31, -⟩ := hr
    have e2 : ρ (.tmp 2) = .pointer (some ⟨w.heap.size, 0, none⟩) := r2
    clear r2
    have e31 : ρ (.tmp 31) = .bool true := r31
    clear r31
    refine ⟨31, rfl, .inl ⟨e31, ?_⟩⟩
    exact soft_load e2 (LA.out W (undrew13 hb)) rfl
  case s3 =>
    intro ρ W hb hc hf hr
    obtain ⟨r32, r31, -⟩ := hr
    have e32 : ρ (.tmp 32) = .agg #[.int .i64 kind, .int .i64 id, .int .i64 cls, .int .i64 tick, .bool pin, .slice A n cap] := r32
    clear r32
    have e31 : ρ (.tmp 31) = .bool true := r31
    clear r31
    refine ⟨31, rfl, .inl ⟨e31, ?_⟩⟩
    exact soft_call1 hf e32 (HR1.out W (undrew13 hb)) rfl (by kernel_rfl) below_is
  case s4 =>
    intro ρ W hb hc hf hr
    obtain ⟨r2, r31, -⟩ := hr
    have e2 : ρ (.tmp 2) = .pointer (some ⟨w.heap.size, 0, none⟩) := r2
    clear r2
    have e31 : ρ (.tmp 31) = .bool true := r31
    clear r31
    refine ⟨31, rfl, .inl ⟨e31, ?_⟩⟩
    exact soft_load e2 (LA.out W (undrew13 hb)) rfl
  case s5 =>
    intro ρ W hb hc hf hr
    obtain ⟨r34, r31, -⟩ := hr
    have e34 : ρ (.tmp 34) = .agg #[.int .i64 kind, .int .i64 id, .int .i64 cls, .int .i64 tick, .bool pin, .slice A n cap] := r34
    clear r34
    have e31 : ρ (.tmp 31) = .bool true := r31
    clear r31
    refine ⟨31, rfl, .inl ⟨e31, ?_⟩⟩
    exact soft_call1 hf e34 (HR2.out W (undrew13 hb)) rfl (by kernel_rfl) below_is
  case s6 =>
    intro ρ W hb hc hf hr
    obtain ⟨r33, r35, r31, -⟩ := hr
    have e33 : ρ (.tmp 33) = .bool RR := r33
    clear r33
    have e35 : ρ (.tmp 35) = .bool RR := r35
    clear r35
    have e31 : ρ (.tmp 31) = .bool true := r31
    clear r31
    refine ⟨31, rfl, .inl ⟨e31, ?_⟩⟩
    exact soft_bin e33 e35 rfl rfl (eqb13 W RR)
  case s7 =>
    intro ρ W hb hc hf hr
    obtain ⟨r31, r36, -⟩ := hr
    have e31 : ρ (.tmp 31) = .bool true := r31
    clear r31
    have e36 : ρ (.tmp 36) = .bool true := r36
    clear r36
    refine under_none rfl ?_
    simp [execOp, e31, e36, go_sem, softUpon, Fact.is, Below.refl]
  case s8 =>
    intro ρ W hb hc hf hr
    obtain ⟨r37, -⟩ := hr
    have e37 : ρ (.tmp 37) = .bool true := r37
    clear r37
    refine under_none rfl ?_
    exact ⟨e37, Below.refl _ _⟩
  case s9 =>
    intro ρ W hb hc hf hr
    obtain ⟨r2, r38, -⟩ := hr
    have e2 : ρ (.tmp 2) = .pointer (some ⟨w.heap.size, 0, none⟩) := r2
    clear r2
    have e38 : ρ (.tmp 38) = .bool true := r38
    clear r38
    refine ⟨38, rfl, .inl ⟨e38, ?_⟩⟩
    exact soft_load e2 (LA.out W (undrew13 hb)) rfl
  case s10 =>
    intro ρ W hb hc hf hr
    obtain ⟨r39, r38, -⟩ := hr
    have e39 : ρ (.tmp 39) = .agg #[.int .i64 kind, .int .i64 id, .int .i64 cls, .int .i64 tick, .bool pin, .slice A n cap] := r39
    clear r39
    have e38 : ρ (.tmp 38) = .bool true := r38
    clear r38
    refine ⟨38, rfl, .inl ⟨e38, ?_⟩⟩
    exact soft_call1 hf e39 (HP1.out W (undrew13 hb)) rfl (by kernel_rfl) made_own
  case s11 =>
    intro ρ W hb hc hf hr
    obtain ⟨r40, r38, -⟩ := hr
    have e38 : ρ (.tmp 38) = .bool true := r38
    clear r38
    refine ⟨38, rfl, .inl ⟨e38, ?_⟩⟩
    exact soft_own r40 rfl
  case s12 =>
    intro ρ W hb hc hf hr
    obtain ⟨r2, r38, -⟩ := hr
    have e2 : ρ (.tmp 2) = .pointer (some ⟨w.heap.size, 0, none⟩) := r2
    clear r2
    have e38 : ρ (.tmp 38) = .bool true := r38
    clear r38
    refine ⟨38, rfl, .inl ⟨e38, ?_⟩⟩
    exact soft_load e2 (LA.out W (undrew13 hb)) rfl
  case s13 =>
    intro ρ W hb hc hf hr
    obtain ⟨r42, r38, -⟩ := hr
    have e42 : ρ (.tmp 42) = .agg #[.int .i64 kind, .int .i64 id, .int .i64 cls, .int .i64 tick, .bool pin, .slice A n cap] := r42
    clear r42
    have e38 : ρ (.tmp 38) = .bool true := r38
    clear r38
    refine ⟨38, rfl, .inl ⟨e38, ?_⟩⟩
    exact soft_call1 hf e42 (HP2.out W (undrew13 hb)) rfl (by kernel_rfl) made_own
  case s14 =>
    intro ρ W hb hc hf hr
    obtain ⟨r43, r38, -⟩ := hr
    have e38 : ρ (.tmp 38) = .bool true := r38
    clear r38
    refine ⟨38, rfl, .inl ⟨e38, ?_⟩⟩
    exact soft_own r43 rfl
  case s15 =>
    intro ρ W hb hc hf hr
    obtain ⟨r41, r44, r38, -⟩ := hr
    have e41 : ρ (.tmp 41) = .string (str P) := r41
    clear r41
    have e44 : ρ (.tmp 44) = .string (str P) := r44
    clear r44
    have e38 : ρ (.tmp 38) = .bool true := r38
    clear r38
    refine ⟨38, rfl, .inl ⟨e38, ?_⟩⟩
    exact soft_bin e41 e44 rfl rfl (eqs13_D W P P true (decide_eq_true rfl))
  case s16 =>
    intro ρ W hb hc hf hr
    obtain ⟨r38, r45, -⟩ := hr
    have e38 : ρ (.tmp 38) = .bool true := r38
    clear r38
    have e45 : ρ (.tmp 45) = .bool true := r45
    clear r45
    refine under_none rfl ?_
    simp [execOp, e38, e45, go_sem, softUpon, Fact.is, Below.refl]
  case s17 =>
    intro ρ W hb hc hf hr
    obtain ⟨r46, -⟩ := hr
    have e46 : ρ (.tmp 46) = .bool true := r46
    clear r46
    refine under_none rfl ?_
    exact ⟨e46, Below.refl _ _⟩
  case s18 =>
    intro ρ W hb hc hf hr
    obtain ⟨r2, r47, -⟩ := hr
    have e2 : ρ (.tmp 2) = .pointer (some ⟨w.heap.size, 0, none⟩) := r2
    clear r2
    have e47 : ρ (.tmp 47) = .bool true := r47
    clear r47
    refine ⟨47, rfl, .inl ⟨e47, ?_⟩⟩
    exact soft_field e2 rfl (fun W => by go_simp)
  case s19 =>
    intro ρ W hb hc hf hr
    obtain ⟨r48, r47, -⟩ := hr
    have e48 : ρ (.tmp 48) = .pointer (some ⟨w.heap.size, 5, none⟩) := r48
    clear r48
    have e47 : ρ (.tmp 47) = .bool true := r47
    clear r47
    refine ⟨47, rfl, .inl ⟨e47, ?_⟩⟩
    exact soft_load e48 (LS.out W (undrew13 hb)) rfl
  case s20 =>
    intro ρ W hb hc hf hr
    obtain ⟨r49, r47, -⟩ := hr
    have e49 : ρ (.tmp 49) = .slice A n cap := r49
    clear r49
    have e47 : ρ (.tmp 47) = .bool true := r47
    clear r47
    refine ⟨47, rfl, .inl ⟨e47, ?_⟩⟩
    exact soft_call1 hf e49 (HC1.out W (undrew13 hb)) rfl (by kernel_rfl) below_is
  case s21 =>
    intro ρ W hb hc hf hr
    obtain ⟨r2, r47, -⟩ := hr
    have e2 : ρ (.tmp 2) = .pointer (some ⟨w.heap.size, 0, none⟩) := r2
    clear r2
    have e47 : ρ (.tmp 47) = .bool true := r47
    clear r47
    refine ⟨47, rfl, .inl ⟨e47, ?_⟩⟩
    exact soft_field e2 rfl (fun W => by go_simp)
  case s22 =>
    intro ρ W hb hc hf hr
    obtain ⟨r51, r47, -⟩ := hr
    have e51 : ρ (.tmp 51) = .pointer (some ⟨w.heap.size, 5, none⟩) := r51
    clear r51
    have e47 : ρ (.tmp 47) = .bool true := r47
    clear r47
    refine ⟨47, rfl, .inl ⟨e47, ?_⟩⟩
    exact soft_load e51 (LS.out W (undrew13 hb)) rfl
  case s23 =>
    intro ρ W hb hc hf hr
    obtain ⟨r52, r47, -⟩ := hr
    have e52 : ρ (.tmp 52) = .slice A n cap := r52
    clear r52
    have e47 : ρ (.tmp 47) = .bool true := r47
    clear r47
    refine ⟨47, rfl, .inl ⟨e47, ?_⟩⟩
    exact soft_call1 hf e52 (HC2.out W (undrew13 hb)) rfl (by kernel_rfl) below_is
  case s24 =>
    intro ρ W hb hc hf hr
    obtain ⟨r50, r53, r47, -⟩ := hr
    have e50 : ρ (.tmp 50) = .int .i64 (CN : Int) := r50
    clear r50
    have e53 : ρ (.tmp 53) = .int .i64 (CN : Int) := r53
    clear r53
    have e47 : ρ (.tmp 47) = .bool true := r47
    clear r47
    refine ⟨47, rfl, .inl ⟨e47, ?_⟩⟩
    exact soft_bin e50 e53 rfl rfl (eqi13_D W CN CN true (decide_eq_true rfl))
  case s25 =>
    intro ρ W hb hc hf hr
    obtain ⟨r47, r54, -⟩ := hr
    have e47 : ρ (.tmp 47) = .bool true := r47
    clear r47
    have e54 : ρ (.tmp 54) = .bool true := r54
    clear r54
    refine under_none rfl ?_
    simp [execOp, e47, e54, go_sem, softUpon, Fact.is, Below.refl]
  case s26 =>
    intro ρ W hb hc hf hr
    obtain ⟨r55, -⟩ := hr
    have e55 : ρ (.tmp 55) = .bool true := r55
    clear r55
    refine under_none rfl ?_
    exact ⟨e55, Below.refl _ _⟩
  case s27 =>
    intro ρ W hb hc hf hr
    obtain ⟨r6, r56, -⟩ := hr
    have e6 : ρ (.tmp 6) = .pointer (some ⟨w3.heap.size, 0, none⟩) := r6
    clear r6
    have e56 : ρ (.tmp 56) = .bool true := r56
    clear r56
    refine ⟨56, rfl, .inl ⟨e56, ?_⟩⟩
    exact soft_load e6 (LX.out W (undrew13 hb)) rfl
  case s28 =>
    intro ρ W hb hc hf hr
    obtain ⟨r8, r56, -⟩ := hr
    have e8 : ρ (.tmp 8) = .pointer (some ⟨w4.heap.size, 0, none⟩) := r8
    clear r8
    have e56 : ρ (.tmp 56) = .bool true := r56
    clear r56
    refine ⟨56, rfl, .inl ⟨e56, ?_⟩⟩
    exact soft_load e8 (LY.out W (undrew13 hb)) rfl
  case s29 =>
    intro ρ W hb hc hf hr
    obtain ⟨r57, r58, r56, -⟩ := hr
    have e57 : ρ (.tmp 57) = .agg #[.int .i64 gk, .int .i64 gi, .int .i64 gc, .int .i64 gt, .bool gp, .slice A3 gn c3] := r57
    clear r57
    have e58 : ρ (.tmp 58) = .agg #[.int .i64 gk, .int .i64 gi, .int .i64 gc, .int .i64 gt, .bool gp, .slice A4 gn c4] := r58
    clear r58
    have e56 : ρ (.tmp 56) = .bool true := r56
    clear r56
    refine ⟨56, rfl, .inl ⟨e56, ?_⟩⟩
    exact soft_call2 hf e57 e58 (HSM.out W (undrew13 hb)) rfl (by kernel_rfl) below_is
  case s30 =>
    intro ρ W hb hc hf hr
    obtain ⟨r56, r59, -⟩ := hr
    have e56 : ρ (.tmp 56) = .bool true := r56
    clear r56
    have e59 : ρ (.tmp 59) = .bool true := r59
    clear r59
    refine under_none rfl ?_
    simp [execOp, e56, e59, go_sem, softUpon, Fact.is, Below.refl]
  case s31 =>
    intro ρ W hb hc hf hr
    obtain ⟨r60, -⟩ := hr
    have e60 : ρ (.tmp 60) = .bool true := r60
    clear r60
    refine under_none rfl ?_
    exact ⟨e60, Below.refl _ _⟩
  case s32 =>
    intro ρ W hb hc hf hr
    obtain ⟨r7, r61, -⟩ := hr
    have e7 : ρ (.tmp 7) = .int .i64 (C : Int) := r7
    clear r7
    have e61 : ρ (.tmp 61) = .bool true := r61
    clear r61
    refine ⟨61, rfl, .inl ⟨e61, ?_⟩⟩
    exact ⟨e7, Below.refl _ _⟩
  case s33 =>
    intro ρ W hb hc hf hr
    obtain ⟨r9, r61, -⟩ := hr
    have e9 : ρ (.tmp 9) = .int .i64 (C : Int) := r9
    clear r9
    have e61 : ρ (.tmp 61) = .bool true := r61
    clear r61
    refine ⟨61, rfl, .inl ⟨e61, ?_⟩⟩
    exact ⟨e9, Below.refl _ _⟩
  case s34 =>
    intro ρ W hb hc hf hr
    obtain ⟨r62, r63, r61, -⟩ := hr
    have e62 : ρ (.tmp 62) = .int .i64 (C : Int) := r62
    clear r62
    have e63 : ρ (.tmp 63) = .int .i64 (C : Int) := r63
    clear r63
    have e61 : ρ (.tmp 61) = .bool true := r61
    clear r61
    refine ⟨61, rfl, .inl ⟨e61, ?_⟩⟩
    exact soft_bin e62 e63 rfl rfl (eqe13 W C)
  case s35 =>
    intro ρ W hb hc hf hr
    obtain ⟨r61, r64, -⟩ := hr
    have e61 : ρ (.tmp 61) = .bool true := r61
    clear r61
    have e64 : ρ (.tmp 64) = .bool true := r64
    clear r64
    refine under_none rfl ?_
    simp [execOp, e61, e64, go_sem, softUpon, Fact.is, Below.refl]
  case s36 =>
    intro ρ W hb hc hf hr
    obtain ⟨r65, -⟩ := hr
    have e65 : ρ (.tmp 65) = .bool true := r65
    clear r65
    refine under_none rfl ?_
    exact ⟨e65, Below.refl _ _⟩
  case fin =>
    intro a w6 hb hd hk
    have h4 : a.tmps.getD 4 undef = .bool true := hk 4
    clear hk
    have hc := HB5.out.trans ((undrew13 hb).mono HB5.out.size)
    go_wp2
    refine bodyPost_ret (results_tmp rfl _ _ _) hd ?_
    exact ⟨by rw [h4], hc⟩

theorem walk (w : World) (hH : Handle w) (q : Rc.R) (A : Option Addr) (cap : Nat) (hl : q.sp.length ≤ cap) (hm : cap ≤ maxLen) (hA : Lies w A (flat q.sp)) (hS : Fine q.sp) (B : Option Addr) (cap2 : Nat) (x : List UInt8) (hl2 : x.length ≤ cap2) (hm2 : cap2 ≤ maxLen) (hB : Lies w B (cells x)) :
    Calls Tryd.prog 3 #[recV q A q.sp.length cap, .slice B x.length cap2] w fun e w' => e = .returned (.bool true) ∧ Below w.heap.size w w' :=
  walkN w hH q A B q.sp.length x.length cap cap2 x rfl hl hm hA hS rfl hl2 hm2 hB


set_option maxRecDepth 100000 in
theorem lifted (os : Os) (started : os.Started) (H : Type) (enc : TypeId × Value → H) :
    ReturnsInHanded {} Tryd.checked os 3 .any (fun w args => (Rows.recTellsSpec.pre enc Tryd.prog Tryd.f3 [] false w args ∧ laidMetH Tryd.prog laidHere w) ∧ sizedMet enc Tryd.prog Tryd.f3 (OpenSpec.ofChange Rows.recTellsSpec) false w args) (Rows.recTellsSpec.post enc Tryd.prog Tryd.f3 false true false false) := by
  refine returnsInHanded_of_change_and (C := Tryd.checked) (X := fun w _ => laidMetH Tryd.prog laidHere w) (fun _ _ _ hh h => h.of_heap hh) own started (by kernel_rfl) Tryd.func3
    (ChangeSpec.witness_at (enc := enc) (C := Tryd.checked) (os := os) (X := fun w _ => laidMetH Tryd.prog laidHere w) false (laidWorld os) #[.agg #[.int .i64 0, .int .i64 0, .int .i64 0, .int .i64 0, .bool false, .slice none 0 0], .slice none 0 0] 8 rfl (by kernel_rfl) (by kernel_rfl) (by kernel_rfl) (by kernel_rfl) (by kernel_rfl) (laidWorld_met os _)) ?_
  intro W base args ds gs before hval0 hW _ _ hL _
  have hval : ∀ (j : Nat) t v, Tryd.f3.params[j]? = some t → args[j]? = some v → Value.okWide Tryd.prog W .any base t v := hval0
  have hfin := fun W' => law_post (enc := enc) (P := Tryd.prog) (f := Tryd.f3) (s := Rows.recTellsSpec) (tb := 4) (W := W) (W' := W') (args := args) (ds := ds) (gs := gs) (before := before) laidOut rfl (by kernel_rfl) Tryd.underlying4 (by kernel_rfl) (fun xs h => by rw [Tryd.params3] at h; match xs, h with | [_, _], _ => rfl) hW
  have hlt : ∀ x ∈ before, x.block < W.heap.size := fun x hx => hW.lt x hx
  obtain ⟨p, q, hA0, hV, rfl, hfz, hnd⟩ := hW
  have hA : DataW.TrodAll enc Tryd.prog W 0 (fun _ => true) true Tryd.f3.params.toList args.toList ds p := hA0
  rw [Tryd.params3] at hA hval
  obtain ⟨v0, vs0, d0, ds0, p0, q0, hargs, rfl, rfl, h0, r0⟩ := trodAll_cons hA
  obtain ⟨v1, vs1, d1, ds1, p1, q1, rfl, rfl, rfl, h1, r1⟩ := trodAll_cons r0
  obtain ⟨rfl, rfl, rfl⟩ := trodAll_nil r1
  obtain rfl : args = #[v0, v1] := by cases args; simp_all
  obtain ⟨q0, A0, cap0, rfl, hl0, hm0, hB0, hS0⟩ := open_rec (hval 0 24 v0 rfl rfl) h0 (fun x hx => hlt x (by simp [hx]))
  obtain ⟨A1, cap1, b1, rfl, hl1, hm1, hB1⟩ := open_bytes (hval 1 25 v1 rfl rfl) h1 (fun x hx => hlt x (by simp [hx]))
  refine (walk W (of_laid hL) q0 A0 cap0 hl0 hm0 hB0 hS0 A1 cap1 b1 hl1 hm1 hB1).mono fun e W' ⟨he, hg⟩ => ?_
  subst he
  exact ⟨_, rfl, hfin W' hg⟩

theorem proved : Rows.RecTellsSaid :=
  OpenClaim.holds_of_wide 3 Tryd.f3 rfl rfl rfl rfl rfl rfl rfl ⟨rfl, rfl, rfl, rfl, rfl⟩ rfl rfl rfl rfl rfl (by kernel_rfl) Tryd.func3 (by kernel_rfl)
    (of_decide_eq_true (by kernel_rfl)) (by unfold Func.isWrapper; first | (rw [if_pos (by decide +kernel)]; kernel_rfl) | (rw [if_neg (by decide +kernel)]; exact ⟨rfl, rfl⟩))
    (fun os started H enc _ => lifted os started H enc)

set_option maxRecDepth 100000 in
theorem card : Rows.RecTellsCardSaid :=
  Claim7.holds_tied_plain_at .later [] laidKindsHere true _ true
    proved (fun _ h => by cases h) (by kernel_rfl) (fun _ h => by cases h) recTells_row_tie rfl ⟨rfl, rfl⟩ (by kernel_rfl) rfl
    (fun f fn hf hfn => by
      obtain rfl : f = 3 := Option.some.inj ((show Tryd.prog.funcNamed "turntable/turntablelaw13.RecTells" = some 3 by kernel_rfl).symm.trans hf) |>.symm
      obtain rfl : fn = Tryd.f3 := (Option.some.inj (Tryd.func3.symm.trans hfn)).symm
      exact ⟨by kernel_rfl, fun j t ht => by
        rw [Tryd.params3] at ht
        have hm : t ∈ [24, 25] := Array.mem_def.1 (Array.mem_of_getElem? ht)
        have hall : ([24, 25].all fun u => !Tryd.prog.wantsStandIn u) = true := by kernel_rfl
        exact (show Tryd.prog.wantsStandIn t = false by simpa using List.all_eq_true.1 hall t hm)⟩)
    (by kernel_rfl)
#print axioms card
end Go.Proofs.YtdfeccmcefcpbaaDoor.recTells
