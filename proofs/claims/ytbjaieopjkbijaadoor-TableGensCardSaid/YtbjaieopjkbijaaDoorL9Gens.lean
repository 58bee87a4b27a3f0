/-
  P9.2, TableGens: for any two tables the law returns true: tables that are unlike in anything have unlike sectors; one of another Gen is another one. No condition but that the program's table starts as its text lays it.
-/
import Derived.Test.YtbjaieopjkbijaaDoorL9S
import Derived.Test.YtbjaieopjkbijaaDoorLaid2
namespace Go.Proofs.YtbjaieopjkbijaaDoor.tableGens
open Go.ChangeShapes Go.WideShapes Go.ChangeAt Go.RowKit

set_option maxHeartbeats 4000000 in
set_option maxRecDepth 100000 in
theorem walkN (w : World) (hT : Tab w) (g o : Int) (A : Option Addr) (cap n : Nat) (xs : List Tb.Ext) (hn : xs.length = n) (hc : n ≤ cap) (hA : Lies w A (flatX xs)) (g2 o2 : Int) (D : Option Addr) (dap m : Nat) (ys : List Tb.Ext) (hm : ys.length = m) (hdc : m ≤ dap) (hD : Lies w D (flatX ys)) :
    Calls Tryd.prog 8 #[tabV g o A n cap, tabV g2 o2 D m dap] w fun e w' => e = .returned (.bool true) ∧ Below w.heap.size w w' := by
  have HN := Lib.hid hn
  have HM := Lib.hid hm
  have bx := Blk.new w #[.int .i64 g, .int .i64 o, .slice A n cap] 24
  obtain ⟨WA, hWA⟩ : ∃ WA, w.alloc (.cells #[.int .i64 g, .int .i64 o, .slice A n cap] 24) = WA := ⟨_, rfl⟩
  have hB0 : Below w.heap.size w (WA.alloc (.cells #[.int .i64 g2, .int .i64 o2, .slice D m dap] 24)) := by
    rw [← hWA]
    exact ((Below.refl _ _).alloc (Nat.le_refl _) _).alloc (by simp) _
  have hs : WA.heap.size = w.heap.size + 1 := by rw [← hWA]; simp
  rw [hWA] at bx
  have by_ := Blk.new WA #[.int .i64 g2, .int .i64 o2, .slice D m dap] 24
  rw [hs] at by_
  have bx2 := bx.below ((Below.refl WA.heap.size WA).alloc (Nat.le_refl _) (.cells #[.int .i64 g2, .int .i64 o2, .slice D m dap] 24)) (Nat.le_refl _)
  have B0 := Lib.hid hB0
  have HW := Lib.hid hWA
  have HX0 := Lib.hid bx2
  have HY0 := Lib.hid by_
  have HA0 := Lib.hid (hA.below hB0)
  have HD0 := Lib.hid (hD.below hB0)
  have HT0 := Lib.hid (hT.below hB0 (Nat.le_refl _))
  clear hWA bx by_ bx2 hs hB0 hA hD hn hm hT
  go_enter Tryd.func8, Tryd.ntmps8
  go_wp2_with fail
  rw [HW.out]
  clear HW
  generalize WA.alloc (.cells #[.int .i64 g2, .int .i64 o2, .slice D m dap] 24) = w0 at *
  refine (head_any w0 HT0.out).mono ?_
  rintro e w1 ⟨rfl, b1⟩
  have HX1 := Lib.hid (HX0.out.below b1 (Nat.le_refl _))
  have HY1 := Lib.hid (HY0.out.below b1 (Nat.le_refl _))
  have HA1 := Lib.hid (HA0.out.below b1)
  have HD1 := Lib.hid (HD0.out.below b1)
  have HT1 := Lib.hid (HT0.out.below b1 (Nat.le_refl _))
  have B1 := Lib.hid (B0.out.trans (b1.mono B0.out.size))
  clear b1
  obtain ⟨z0, z1, z2⟩ := HX1.out.three
  have HRR := Lib.hid (tright_any g o A cap n xs w1 HN.out hc HA1.out)
  by_cases hr : Tb.right ⟨g, o, xs⟩ = true
  rotate_left
  · rw [show Tb.right ⟨g, o, xs⟩ = false by simpa using hr] at HRR
    clear hr
    go_wp2_with fail
    refine HRR.out.mono ?_
    rintro e w2 ⟨rfl, b2⟩
    go_wp2
    go_ret
    exact ⟨rfl, B1.out.trans (b2.mono B1.out.size)⟩
  rw [hr] at HRR
  have HR := Lib.hid hr
  have hR := Tb.right_iff.1 hr
  have hn8 : n ≤ 8 := by have := hR.n2; rw [← HN.out]; exact this
  have hg1 := hR.g1
  have hg2 := hR.g2
  have HRV := Lib.hid hR.gen
  have HNE := Lib.hid (Tb.gen_other hR)
  simp only at hg1 hg2
  clear hr hR
  go_wp2_with fail
  refine HRR.out.mono ?_
  rintro e w2 ⟨rfl, b2⟩
  have HX2 := Lib.hid (HX1.out.below b2 (Nat.le_refl _))
  have HY2 := Lib.hid (HY1.out.below b2 (Nat.le_refl _))
  have HA2 := Lib.hid (HA1.out.below b2)
  have HD2 := Lib.hid (HD1.out.below b2)
  have HT2 := Lib.hid (HT1.out.below b2 (Nat.le_refl _))
  have B2 := Lib.hid (B1.out.trans (b2.mono B1.out.size))
  clear b2 z0 z1 z2 HRR
  obtain ⟨z0, z1, z2⟩ := HY2.out.three
  have HRR := Lib.hid (tright_any g2 o2 D dap m ys w2 HM.out hdc HD2.out)
  by_cases hr2 : Tb.right ⟨g2, o2, ys⟩ = true
  rotate_left
  · rw [show Tb.right ⟨g2, o2, ys⟩ = false by simpa using hr2] at HRR
    clear hr2
    go_wp2_with fail
    refine HRR.out.mono ?_
    rintro e w3 ⟨rfl, b3⟩
    go_wp2
    go_ret
    exact ⟨rfl, B2.out.trans (b3.mono B2.out.size)⟩
  rw [hr2] at HRR
  have HR2 := Lib.hid hr2
  clear hr2
  go_wp2_with fail
  refine HRR.out.mono ?_
  rintro e w3 ⟨rfl, b3⟩
  have HX3 := Lib.hid (HX2.out.below b3 (Nat.le_refl _))
  have HY3 := Lib.hid (HY2.out.below b3 (Nat.le_refl _))
  have HA3 := Lib.hid (HA2.out.below b3)
  have HD3 := Lib.hid (HD2.out.below b3)
  have HT3 := Lib.hid (HT2.out.below b3 (Nat.le_refl _))
  have B3 := Lib.hid (B2.out.trans (b3.mono B2.out.size))
  clear b3 z0 z1 z2 HRR
  obtain ⟨z0, z1, z2⟩ := HX3.out.three
  obtain ⟨gn, rfl⟩ := Int.eq_ofNat_of_zero_le (show 0 ≤ g by omega)
  obtain ⟨gv, hgv⟩ : ∃ gv : Int, (gn : Int) % 2147483648 + 1 = gv := ⟨_, rfl⟩
  have HGV := Lib.hid hgv
  have ba : Below w3.heap.size w3 (w3.alloc (.cells #[.int .i64 (gn : Int), .int .i64 o, .slice A n cap] 24)) := (Below.refl _ _).alloc (Nat.le_refl _) _
  have v0 := (HX3.out.below ba (Nat.le_refl _)).cell 0
  clear ba
  go_wp2
  have hz := Blk.new w3 #[.int .i64 gv, .int .i64 o, .slice A n cap] 24
  have ba : Below w3.heap.size w3 (w3.alloc (.cells #[.int .i64 gv, .int .i64 o, .slice A n cap] 24)) := (Below.refl _ _).alloc (Nat.le_refl _) _
  have HX4 := Lib.hid (HX3.out.below ba (Nat.le_refl _))
  have HY4 := Lib.hid (HY3.out.below ba (Nat.le_refl _))
  have HA4 := Lib.hid (HA3.out.below ba)
  have HD4 := Lib.hid (HD3.out.below ba)
  have HT4 := Lib.hid (HT3.out.below ba (Nat.le_refl _))
  have B4 := Lib.hid (B3.out.trans (ba.mono B3.out.size))
  clear ba v0 z0 z1 z2
  generalize w3.alloc (.cells #[.int .i64 gv, .int .i64 o, .slice A n cap] 24) = w4 at *
  have hrv : Tb.right ⟨gv, o, xs⟩ = true := by rw [← HGV.out]; exact Tb.right_iff.2 HRV.out
  have HPL := Lib.hid (show (Tb.put ⟨(gn : Int), o, xs⟩).length = 64 by rw [Tb.put_length, if_pos HR.out])
  have HQL := Lib.hid (show (Tb.put ⟨g2, o2, ys⟩).length = 64 by rw [Tb.put_length, if_pos HR2.out])
  have HVL := Lib.hid (show (Tb.put ⟨gv, o, xs⟩).length = 64 by rw [Tb.put_length, if_pos hrv])
  obtain ⟨R, hRR⟩ : ∃ R, decide ((⟨(gn : Int), o, xs⟩ : Tb.T) = ⟨g2, o2, ys⟩) = R := ⟨_, rfl⟩
  have HPQ := Lib.hid (show decide (Tb.put ⟨(gn : Int), o, xs⟩ = Tb.put ⟨g2, o2, ys⟩) = R by rw [← hRR, decide_eq_decide]; exact Tb.put_inj HR.out HR2.out)
  have HVP := Lib.hid (show Tb.put ⟨gv, o, xs⟩ ≠ Tb.put ⟨(gn : Int), o, xs⟩ from fun h => HNE.out (by simp only [HGV.out]; exact (Tb.put_inj hrv HR.out).1 h))
  have HX := Lib.hid (fun (W : World) (hW : Below w4.heap.size w4 W) => HX4.out.below hW (Nat.le_refl _))
  have HY := Lib.hid (fun (W : World) (hW : Below w4.heap.size w4 W) => HY4.out.below hW (Nat.le_refl _))
  have HZ := Lib.hid (fun (W : World) (hW : Below w4.heap.size w4 W) => hz.below hW (Nat.le_refl _))
  have HPW := Lib.hid (fun (W : World) (hW : Below w4.heap.size w4 W) => tput_lies (gn : Int) o A cap n 64 xs W HN.out hc HPL.out (HA4.out.below hW) (HT4.out.below hW (Nat.le_refl _)))
  have HQW := Lib.hid (fun (W : World) (hW : Below w4.heap.size w4 W) => tput_lies g2 o2 D dap m 64 ys W HM.out hdc HQL.out (HD4.out.below hW) (HT4.out.below hW (Nat.le_refl _)))
  have HVW := Lib.hid (fun (W : World) (hW : Below w4.heap.size w4 W) => tput_lies gv o A cap n 64 xs W HN.out hc HVL.out (HA4.out.below hW) (HT4.out.below hW (Nat.le_refl _)))
  have HSM := Lib.hid (fun (W : World) (hW : Below w4.heap.size w4 W) => rsame_is (gn : Int) o A cap n xs g2 o2 D dap m ys W R HN.out HM.out (by omega) (HA4.out.below hW) (HD4.out.below hW) hRR)
  generalize Tb.put ⟨(gn : Int), o, xs⟩ = P at *
  generalize Tb.put ⟨g2, o2, ys⟩ = Q at *
  generalize Tb.put ⟨gv, o, xs⟩ = V at *
  have HFIN := Lib.hid (fun (W : World) (hW : Below w4.heap.size w4 W) => show Below w.heap.size w W from B4.out.trans (hW.mono B4.out.size))
  clear hz hgv hrv hRR hn8 hg1 hg2
  generalize w3.heap.size = b2 at *
  generalize hb1 : w.heap.size + 1 = b1 at *
  have HB1 := Lib.hid hb1
  generalize hb0 : w.heap.size = b0 at *
  have HB0 := Lib.hid hb0
  clear hb0 hb1
  refine wp_softS (by kernel_rfl) 52 [(23, [5]), (24, [23]), (25, [2, 24]), (26, [25, 24]), (27, [26, 24]), (28, [3, 24]), (29, [28, 24]), (30, [29, 24]), (31, [27, 30, 24]), (32, [2, 24]), (33, [3, 24]), (34, [32, 33, 24]), (35, [31, 34, 24]), (36, [24, 35]), (37, [36]), (38, [6, 37]), (39, [38, 37]), (40, [39, 37]), (41, [2, 37]), (42, [41, 37]), (43, [42, 37]), (44, [40, 43, 37]), (45, [37, 44]), (46, [45]), (47, [6, 46]), (48, [47, 46]), (49, [48, 46]), (50, [49, 46]), (51, [46, 50]), (4, [51])]
    [Fact.is (.bool true), Fact.is (.bool true), Fact.is (tabV (gn : Int) o A n cap), Fact.lies P 64, Fact.is (.string (str P)), Fact.is (tabV g2 o2 D m dap), Fact.lies Q 64, Fact.is (.string (str Q)), Fact.is (.bool R), Fact.is (tabV (gn : Int) o A n cap), Fact.is (tabV g2 o2 D m dap), Fact.is (.bool R), Fact.is (.bool true), Fact.is (.bool true), Fact.is (.bool true), Fact.is (tabV gv o A n cap), Fact.lies V 64, Fact.is (.string (str V)), Fact.is (tabV (gn : Int) o A n cap), Fact.lies P 64, Fact.is (.string (str P)), Fact.is (.bool true), Fact.is (.bool true), Fact.is (.bool true), Fact.is (tabV gv o A n cap), Fact.lies V 64, Fact.is (.int .i64 64), Fact.is (.bool true), Fact.is (.bool true), Fact.is (.bool true)]
    (by kernel_rfl) rfl rfl ⟨?s0, ?s1, ?s2, ?s3, ?s4, ?s5, ?s6, ?s7, ?s8, ?s9, ?s10, ?s11, ?s12, ?s13, ?s14, ?s15, ?s16, ?s17, ?s18, ?s19, ?s20, ?s21, ?s22, ?s23, ?s24, ?s25, ?s26, ?s27, ?s28, ?s29, trivial⟩ ?fin
  case s0 =>
    intro ρ W hb hc hf hr
    obtain ⟨r5, -⟩ := hr
    have e5 : ρ (.tmp 5) = .bool true := r5
    clear r5
    refine under_none rfl ?_
    exact ⟨e5, Below.refl _ _⟩
  case s1 =>
    intro ρ W hb hc hf hr
    obtain ⟨r23, -⟩ := hr
    have e23 : ρ (.tmp 23) = .bool true := r23
    clear r23
    refine under_none rfl ?_
    exact ⟨e23, Below.refl _ _⟩
  case s2 =>
    intro ρ W hb hc hf hr
    obtain ⟨r2, r24, -⟩ := hr
    have e2 : ρ (.tmp 2) = .pointer (some ⟨b0, 0, none⟩) := r2
    clear r2
    have e24 : ρ (.tmp 24) = .bool true := r24
    clear r24
    refine ⟨24, rfl, .inl ⟨e24, ?_⟩⟩
    exact soft_load e2 (load_tab W b0 (gn : Int) o A n cap (HX.out W (undrew hb))) rfl
  case s3 =>
    intro ρ W hb hc hf hr
    obtain ⟨r25, r24, -⟩ := hr
    have e25 : ρ (.tmp 25) = tabV (gn : Int) o A n cap := r25
    clear r25
    have e24 : ρ (.tmp 24) = .bool true := r24
    clear r24
    refine ⟨24, rfl, .inl ⟨e24, ?_⟩⟩
    exact soft_call1 hf e25 (HPW.out W (undrew hb)) rfl (by kernel_rfl) lies_is
  case s4 =>
    intro ρ W hb hc hf hr
    obtain ⟨r26, r24, -⟩ := hr
    have e24 : ρ (.tmp 24) = .bool true := r24
    clear r24
    refine ⟨24, rfl, .inl ⟨e24, ?_⟩⟩
    exact soft_lies r26 HPL.out rfl rfl
  case s5 =>
    intro ρ W hb hc hf hr
    obtain ⟨r3, r24, -⟩ := hr
    have e3 : ρ (.tmp 3) = .pointer (some ⟨b1, 0, none⟩) := r3
    clear r3
    have e24 : ρ (.tmp 24) = .bool true := r24
    clear r24
    refine ⟨24, rfl, .inl ⟨e24, ?_⟩⟩
    exact soft_load e3 (load_tab W b1 g2 o2 D m dap (HY.out W (undrew hb))) rfl
  case s6 =>
    intro ρ W hb hc hf hr
    obtain ⟨r28, r24, -⟩ := hr
    have e28 : ρ (.tmp 28) = tabV g2 o2 D m dap := r28
    clear r28
    have e24 : ρ (.tmp 24) = .bool true := r24
    clear r24
    refine ⟨24, rfl, .inl ⟨e24, ?_⟩⟩
    exact soft_call1 hf e28 (HQW.out W (undrew hb)) rfl (by kernel_rfl) lies_is
  case s7 =>
    intro ρ W hb hc hf hr
    obtain ⟨r29, r24, -⟩ := hr
    have e24 : ρ (.tmp 24) = .bool true := r24
    clear r24
    refine ⟨24, rfl, .inl ⟨e24, ?_⟩⟩
    exact soft_lies r29 HQL.out rfl rfl
  case s8 =>
    intro ρ W hb hc hf hr
    obtain ⟨r27, r30, r24, -⟩ := hr
    have e27 : ρ (.tmp 27) = .string (str P) := r27
    clear r27
    have e30 : ρ (.tmp 30) = .string (str Q) := r30
    clear r30
    have e24 : ρ (.tmp 24) = .bool true := r24
    clear r24
    refine ⟨24, rfl, .inl ⟨e24, ?_⟩⟩
    exact soft_bin e27 e30 rfl rfl (eqt9 W P Q R HPQ.out)
  case s9 =>
    intro ρ W hb hc hf hr
    obtain ⟨r2, r24, -⟩ := hr
    have e2 : ρ (.tmp 2) = .pointer (some ⟨b0, 0, none⟩) := r2
    clear r2
    have e24 : ρ (.tmp 24) = .bool true := r24
    clear r24
    refine ⟨24, rfl, .inl ⟨e24, ?_⟩⟩
    exact soft_load e2 (load_tab W b0 (gn : Int) o A n cap (HX.out W (undrew hb))) rfl
  case s10 =>
    intro ρ W hb hc hf hr
    obtain ⟨r3, r24, -⟩ := hr
    have e3 : ρ (.tmp 3) = .pointer (some ⟨b1, 0, none⟩) := r3
    clear r3
    have e24 : ρ (.tmp 24) = .bool true := r24
    clear r24
    refine ⟨24, rfl, .inl ⟨e24, ?_⟩⟩
    exact soft_load e3 (load_tab W b1 g2 o2 D m dap (HY.out W (undrew hb))) rfl
  case s11 =>
    intro ρ W hb hc hf hr
    obtain ⟨r32, r33, r24, -⟩ := hr
    have e32 : ρ (.tmp 32) = tabV (gn : Int) o A n cap := r32
    clear r32
    have e33 : ρ (.tmp 33) = tabV g2 o2 D m dap := r33
    clear r33
    have e24 : ρ (.tmp 24) = .bool true := r24
    clear r24
    refine ⟨24, rfl, .inl ⟨e24, ?_⟩⟩
    exact soft_call2 hf e32 e33 (HSM.out W (undrew hb)) rfl (by kernel_rfl) below_is
  case s12 =>
    intro ρ W hb hc hf hr
    obtain ⟨r31, r34, r24, -⟩ := hr
    have e31 : ρ (.tmp 31) = .bool R := r31
    clear r31
    have e34 : ρ (.tmp 34) = .bool R := r34
    clear r34
    have e24 : ρ (.tmp 24) = .bool true := r24
    clear r24
    refine ⟨24, rfl, .inl ⟨e24, ?_⟩⟩
    exact soft_bin e31 e34 rfl rfl (eqb9 W R)
  case s13 =>
    intro ρ W hb hc hf hr
    obtain ⟨r24, r35, -⟩ := hr
    have e24 : ρ (.tmp 24) = .bool true := r24
    clear r24
    have e35 : ρ (.tmp 35) = .bool true := r35
    clear r35
    refine under_none rfl ?_
    simp [execOp, e24, e35, go_sem, softUpon, Fact.is, Below.refl]
  case s14 =>
    intro ρ W hb hc hf hr
    obtain ⟨r36, -⟩ := hr
    have e36 : ρ (.tmp 36) = .bool true := r36
    clear r36
    refine under_none rfl ?_
    exact ⟨e36, Below.refl _ _⟩
  case s15 =>
    intro ρ W hb hc hf hr
    obtain ⟨r6, r37, -⟩ := hr
    have e6 : ρ (.tmp 6) = .pointer (some ⟨b2, 0, none⟩) := r6
    clear r6
    have e37 : ρ (.tmp 37) = .bool true := r37
    clear r37
    refine ⟨37, rfl, .inl ⟨e37, ?_⟩⟩
    exact soft_load e6 (load_tab W b2 gv o A n cap (HZ.out W (undrew hb))) rfl
  case s16 =>
    intro ρ W hb hc hf hr
    obtain ⟨r38, r37, -⟩ := hr
    have e38 : ρ (.tmp 38) = tabV gv o A n cap := r38
    clear r38
    have e37 : ρ (.tmp 37) = .bool true := r37
    clear r37
    refine ⟨37, rfl, .inl ⟨e37, ?_⟩⟩
    exact soft_call1 hf e38 (HVW.out W (undrew hb)) rfl (by kernel_rfl) lies_is
  case s17 =>
    intro ρ W hb hc hf hr
    obtain ⟨r39, r37, -⟩ := hr
    have e37 : ρ (.tmp 37) = .bool true := r37
    clear r37
    refine ⟨37, rfl, .inl ⟨e37, ?_⟩⟩
    exact soft_lies r39 HVL.out rfl rfl
  case s18 =>
    intro ρ W hb hc hf hr
    obtain ⟨r2, r37, -⟩ := hr
    have e2 : ρ (.tmp 2) = .pointer (some ⟨b0, 0, none⟩) := r2
    clear r2
    have e37 : ρ (.tmp 37) = .bool true := r37
    clear r37
    refine ⟨37, rfl, .inl ⟨e37, ?_⟩⟩
    exact soft_load e2 (load_tab W b0 (gn : Int) o A n cap (HX.out W (undrew hb))) rfl
  case s19 =>
    intro ρ W hb hc hf hr
    obtain ⟨r41, r37, -⟩ := hr
    have e41 : ρ (.tmp 41) = tabV (gn : Int) o A n cap := r41
    clear r41
    have e37 : ρ (.tmp 37) = .bool true := r37
    clear r37
    refine ⟨37, rfl, .inl ⟨e37, ?_⟩⟩
    exact soft_call1 hf e41 (HPW.out W (undrew hb)) rfl (by kernel_rfl) lies_is
  case s20 =>
    intro ρ W hb hc hf hr
    obtain ⟨r42, r37, -⟩ := hr
    have e37 : ρ (.tmp 37) = .bool true := r37
    clear r37
    refine ⟨37, rfl, .inl ⟨e37, ?_⟩⟩
    exact soft_lies r42 HPL.out rfl rfl
  case s21 =>
    intro ρ W hb hc hf hr
    obtain ⟨r40, r43, r37, -⟩ := hr
    have e40 : ρ (.tmp 40) = .string (str V) := r40
    clear r40
    have e43 : ρ (.tmp 43) = .string (str P) := r43
    clear r43
    have e37 : ρ (.tmp 37) = .bool true := r37
    clear r37
    refine ⟨37, rfl, .inl ⟨e37, ?_⟩⟩
    exact soft_bin e40 e43 rfl rfl (net9 W V P HVP.out)
  case s22 =>
    intro ρ W hb hc hf hr
    obtain ⟨r37, r44, -⟩ := hr
    have e37 : ρ (.tmp 37) = .bool true := r37
    clear r37
    have e44 : ρ (.tmp 44) = .bool true := r44
    clear r44
    refine under_none rfl ?_
    simp [execOp, e37, e44, go_sem, softUpon, Fact.is, Below.refl]
  case s23 =>
    intro ρ W hb hc hf hr
    obtain ⟨r45, -⟩ := hr
    have e45 : ρ (.tmp 45) = .bool true := r45
    clear r45
    refine under_none rfl ?_
    exact ⟨e45, Below.refl _ _⟩
  case s24 =>
    intro ρ W hb hc hf hr
    obtain ⟨r6, r46, -⟩ := hr
    have e6 : ρ (.tmp 6) = .pointer (some ⟨b2, 0, none⟩) := r6
    clear r6
    have e46 : ρ (.tmp 46) = .bool true := r46
    clear r46
    refine ⟨46, rfl, .inl ⟨e46, ?_⟩⟩
    exact soft_load e6 (load_tab W b2 gv o A n cap (HZ.out W (undrew hb))) rfl
  case s25 =>
    intro ρ W hb hc hf hr
    obtain ⟨r47, r46, -⟩ := hr
    have e47 : ρ (.tmp 47) = tabV gv o A n cap := r47
    clear r47
    have e46 : ρ (.tmp 46) = .bool true := r46
    clear r46
    refine ⟨46, rfl, .inl ⟨e46, ?_⟩⟩
    exact soft_call1 hf e47 (HVW.out W (undrew hb)) rfl (by kernel_rfl) lies_is
  case s26 =>
    intro ρ W hb hc hf hr
    obtain ⟨r48, r46, -⟩ := hr
    have e46 : ρ (.tmp 46) = .bool true := r46
    clear r46
    refine ⟨46, rfl, .inl ⟨e46, ?_⟩⟩
    (obtain ⟨A9, c9, e9, -⟩ := r48; simp [e9, go_sem, softUpon, Fact.is, Below.refl])
  case s27 =>
    intro ρ W hb hc hf hr
    obtain ⟨r49, r46, -⟩ := hr
    have e49 : ρ (.tmp 49) = .int .i64 64 := r49
    clear r49
    have e46 : ρ (.tmp 46) = .bool true := r46
    clear r46
    refine ⟨46, rfl, .inl ⟨e46, ?_⟩⟩
    exact soft_bin e49 (hc _) rfl rfl (by go_simp)
  case s28 =>
    intro ρ W hb hc hf hr
    obtain ⟨r46, r50, -⟩ := hr
    have e46 : ρ (.tmp 46) = .bool true := r46
    clear r46
    have e50 : ρ (.tmp 50) = .bool true := r50
    clear r50
    refine under_none rfl ?_
    simp [execOp, e46, e50, go_sem, softUpon, Fact.is, Below.refl]
  case s29 =>
    intro ρ W hb hc hf hr
    obtain ⟨r51, -⟩ := hr
    have e51 : ρ (.tmp 51) = .bool true := r51
    clear r51
    refine under_none rfl ?_
    exact ⟨e51, Below.refl _ _⟩
  case fin =>
    intro a w1 hb hd hsz hk
    have ea := act_puts hd hsz rfl hk
    have k23 : a.tmps.getD 23 undef = .bool true := hk 23
    have k24 : a.tmps.getD 24 undef = .bool true := hk 24
    have k25 : a.tmps.getD 25 undef = tabV (gn : Int) o A n cap := hk 25
    have k26 : (Fact.lies P 64).φ (a.tmps.getD 26 undef) w1 := hk 26
    have k27 : a.tmps.getD 27 undef = .string (str P) := hk 27
    have k28 : a.tmps.getD 28 undef = tabV g2 o2 D m dap := hk 28
    have k29 : (Fact.lies Q 64).φ (a.tmps.getD 29 undef) w1 := hk 29
    have k30 : a.tmps.getD 30 undef = .string (str Q) := hk 30
    have k31 : a.tmps.getD 31 undef = .bool R := hk 31
    have k32 : a.tmps.getD 32 undef = tabV (gn : Int) o A n cap := hk 32
    have k33 : a.tmps.getD 33 undef = tabV g2 o2 D m dap := hk 33
    have k34 : a.tmps.getD 34 undef = .bool R := hk 34
    have k35 : a.tmps.getD 35 undef = .bool true := hk 35
    have k36 : a.tmps.getD 36 undef = .bool true := hk 36
    have k37 : a.tmps.getD 37 undef = .bool true := hk 37
    have k38 : a.tmps.getD 38 undef = tabV gv o A n cap := hk 38
    have k39 : (Fact.lies V 64).φ (a.tmps.getD 39 undef) w1 := hk 39
    have k40 : a.tmps.getD 40 undef = .string (str V) := hk 40
    have k41 : a.tmps.getD 41 undef = tabV (gn : Int) o A n cap := hk 41
    have k42 : (Fact.lies P 64).φ (a.tmps.getD 42 undef) w1 := hk 42
    have k43 : a.tmps.getD 43 undef = .string (str P) := hk 43
    have k44 : a.tmps.getD 44 undef = .bool true := hk 44
    have k45 : a.tmps.getD 45 undef = .bool true := hk 45
    have k46 : a.tmps.getD 46 undef = .bool true := hk 46
    have k47 : a.tmps.getD 47 undef = tabV gv o A n cap := hk 47
    have k48 : (Fact.lies V 64).φ (a.tmps.getD 48 undef) w1 := hk 48
    have k49 : a.tmps.getD 49 undef = .int .i64 64 := hk 49
    have k50 : a.tmps.getD 50 undef = .bool true := hk 50
    have k51 : a.tmps.getD 51 undef = .bool true := hk 51
    have k4 : a.tmps.getD 4 undef = .bool true := hk 4
    clear hk hd hsz
    simp only [List.map_cons, List.map_nil, List.foldl_cons, List.foldl_nil, k23, k24, k25, k27, k28, k30, k31, k32, k33, k34, k35, k36, k37, k38, k40, k41, k43, k44, k45, k46, k47, k49, k50, k51, k4] at ea
    clear k23 k24 k25 k27 k28 k30 k31 k32 k33 k34 k35 k36 k37 k38 k40 k41 k43 k44 k45 k46 k47 k49 k50 k51 k4
    generalize a.tmps.getD 26 undef = v26 at ea k26
    generalize a.tmps.getD 29 undef = v29 at ea k29
    generalize a.tmps.getD 39 undef = v39 at ea k39
    generalize a.tmps.getD 42 undef = v42 at ea k42
    generalize a.tmps.getD 48 undef = v48 at ea k48
    simp only [Act.put, List.setIfInBounds_toArray, List.set_cons_succ, List.set_cons_zero] at ea
    subst ea
    have c5 := HFIN.out w1 (undrew hb)
    go_wp2
    go_ret
    exact ⟨rfl, by first | exact c5 | (rw [HB0.out]; exact c5)⟩

theorem walk (w : World) (hT : Tab w) (g o : Int) (A : Option Addr) (cap : Nat) (xs : List Tb.Ext) (hl : xs.length ≤ cap) (_ : cap ≤ maxLen) (hA : Lies w A (flatX xs)) (g2 o2 : Int) (D : Option Addr) (dap : Nat) (ys : List Tb.Ext) (hs : ys.length ≤ dap) (_ : dap ≤ maxLen) (hD : Lies w D (flatX ys)) :
    Calls Tryd.prog 8 #[tabV g o A xs.length cap, tabV g2 o2 D ys.length dap] w fun e w' => e = .returned (.bool true) ∧ Below w.heap.size w w' :=
  walkN w hT g o A cap xs.length xs rfl hl hA g2 o2 D dap ys.length ys rfl hs hD


set_option maxRecDepth 100000 in
theorem lifted (os : Os) (started : os.Started) (H : Type) (enc : TypeId × Value → H) :
    ReturnsInHanded {} Tryd.checked os 8 .any (fun w args => (Rows.tableGensSpec.pre enc Tryd.prog Tryd.f8 [] false w args ∧ laidMetH Tryd.prog laidHere w) ∧ sizedMet enc Tryd.prog Tryd.f8 (OpenSpec.ofChange Rows.tableGensSpec) false w args) (Rows.tableGensSpec.post enc Tryd.prog Tryd.f8 false true false false) := by
  refine returnsInHanded_of_change_and (C := Tryd.checked) (X := fun w _ => laidMetH Tryd.prog laidHere w) (fun _ _ _ hh h => h.of_heap hh) own started (by kernel_rfl) Tryd.func8
    (ChangeSpec.witness_shaped (enc := enc) (C := Tryd.checked) (os := os) (X := fun w _ => laidMetH Tryd.prog laidHere w) false (World.doorLaid Tryd.prog doorSteps os) #[.agg #[.int .i64 0, .int .i64 0, .slice none 0 0], .agg #[.int .i64 0, .int .i64 0, .slice none 0 0]] 8 rfl (World.shaped_of_RefB (by kernel_rfl) (by kernel_rfl)) (by kernel_rfl) (by kernel_rfl) (by kernel_rfl) (door_met os _)) ?_
  intro W base args ds gs before hval0 hW _ _ hL _
  have hval : ∀ (j : Nat) t v, Tryd.f8.params[j]? = some t → args[j]? = some v → Value.okWide Tryd.prog W .any base t v := hval0
  have hfin := fun W' => law_post (enc := enc) (P := Tryd.prog) (f := Tryd.f8) (s := Rows.tableGensSpec) (tb := 4) (W := W) (W' := W') (args := args) (ds := ds) (gs := gs) (before := before) laidOut rfl (by kernel_rfl) Tryd.underlying4 (by kernel_rfl) (fun xs h => by rw [Tryd.params8] at h; match xs, h with | [_, _], _ => rfl) hW
  have hlt : ∀ x ∈ before, x.block < W.heap.size := fun x hx => hW.lt x hx
  obtain ⟨p, q, hA0, hV, rfl, hfz, hnd⟩ := hW
  have hA : DataW.TrodAll enc Tryd.prog W 0 (fun _ => true) true Tryd.f8.params.toList args.toList ds p := hA0
  rw [Tryd.params8] at hA hval
  obtain ⟨v0, vs0, d0, ds0, p0, q0, hargs, rfl, rfl, h0, r0⟩ := trodAll_cons hA
  obtain ⟨v1, vs1, d1, ds1, p1, q1, rfl, rfl, rfl, h1, r1⟩ := trodAll_cons r0
  obtain ⟨rfl, rfl, rfl⟩ := trodAll_nil r1
  obtain rfl : args = #[v0, v1] := by cases args; simp_all
  obtain ⟨g0, o0, A0, cap0, l0, rfl, hl0, hm0, hB0⟩ := open_table (hval 0 24 v0 rfl rfl) h0 (fun x hx => hlt x (by simp [hx]))
  obtain ⟨g1, o1, A1, cap1, l1, rfl, hl1, hm1, hB1⟩ := open_table (hval 1 24 v1 rfl rfl) h1 (fun x hx => hlt x (by simp [hx]))
  refine (walk W (of_laid hL) g0 o0 A0 cap0 l0 hl0 hm0 hB0 g1 o1 A1 cap1 l1 hl1 hm1 hB1).mono fun e W' ⟨he, hg⟩ => ?_
  subst he
  exact ⟨_, rfl, hfin W' hg⟩

theorem proved : Rows.TableGensSaid :=
  OpenClaim.holds_of_wide 8 Tryd.f8 rfl rfl rfl rfl rfl rfl rfl ⟨rfl, rfl, rfl, rfl, rfl⟩ rfl rfl rfl rfl rfl (by kernel_rfl) Tryd.func8 (by kernel_rfl)
    (of_decide_eq_true (by kernel_rfl)) (by unfold Func.isWrapper; first | (rw [if_pos (by decide +kernel)]; kernel_rfl) | (rw [if_neg (by decide +kernel)]; exact ⟨rfl, rfl⟩))
    (fun os started H enc _ => lifted os started H enc)

set_option maxRecDepth 100000 in
theorem card : Rows.TableGensCardSaid :=
  Claim7.holds_tied_plain_at .later [] laidKindsHere true _ false
    proved (fun _ h => by cases h) (by kernel_rfl) (fun _ h => by cases h) tableGens_row_tie rfl ⟨rfl, rfl⟩ (by kernel_rfl) rfl
    (fun f fn hf hfn => by
      obtain rfl : f = 8 := Option.some.inj ((show Tryd.prog.funcNamed "turntable/turntablelaw09.TableGens" = some 8 by kernel_rfl).symm.trans hf) |>.symm
      obtain rfl : fn = Tryd.f8 := (Option.some.inj (Tryd.func8.symm.trans hfn)).symm
      exact ⟨by kernel_rfl, fun j t ht => by
        rw [Tryd.params8] at ht
        have hm : t ∈ [24, 24] := Array.mem_def.1 (Array.mem_of_getElem? ht)
        have hall : ([24, 24].all fun u => !Tryd.prog.wantsStandIn u) = true := by kernel_rfl
        exact (show Tryd.prog.wantsStandIn t = false by simpa using List.all_eq_true.1 hall t hm)⟩)
    (by kernel_rfl)
#print axioms card
end Go.Proofs.YtbjaieopjkbijaaDoor.tableGens
