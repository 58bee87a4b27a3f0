/-
  P10.2, P10.3, SuperSwaps: for all tables, cuts, choices and bits that turn the law returns true: where a table of the next Gen is saved and power fails at any thing of it, one of the two is loaded; the new one, if Save was OK. No condition but that the program's table starts as its text lays it.
-/
import Derived.Test.YtehnhjnkbclnlaaDoorHd10
import Derived.Test.YtehnhjnkbclnlaaDoorSuA
import Derived.Test.YtehnhjnkbclnlaaDoorOpS
import Derived.Test.YtehnhjnkbclnlaaDoorOpD
import Derived.Test.YtehnhjnkbclnlaaDoorLaid2
namespace Go.Proofs.YtehnhjnkbclnlaaDoor.superSwaps
open Go.ChangeShapes Go.WideShapes Go.ChangeAt Go.RowKit
set_option maxRecDepth 100000

theorem wrap_few (c : Nat) (h : c < 1000) : wrap64 (c : Int) = (c : Int) ∧ IntKind.i64.wrap (c : Int) = (c : Int) ∧ IntKind.u8.wrap ((c % 256 : Nat) : Int) = ((c % 256 : Nat) : Int) := by
  refine ⟨by unfold wrap64; omega, by rw [IntKind.wrap_i64]; omega, ?_⟩
  simp [IntKind.wrap, IntKind.bits, IntKind.signed]
theorem rem_four (ka c : Nat) (h : ka % 4 = c) : (ka : Int).tmod 4 = (c : Int) := by rw [Int.tmod_eq_emod_of_nonneg (by omega)]; omega

set_option maxHeartbeats 8000000 in
theorem walkN (S : SuperOk) (w : World) (hT : Tab w) (x o : Int) (A : Option Addr) (cap n : Nat) (xs : List Tb.Ext) (hn : xs.length = n) (hc : n ≤ cap) (hA : Lies w A (flatX xs)) (x2 o2 : Int) (A2 : Option Addr) (cap2 n2 : Nat) (xs2 : List Tb.Ext) (hn2 : xs2.length = n2) (hc2 : n2 ≤ cap2) (hA2 : Lies w A2 (flatX xs2)) (ka : Nat)
    (Ak : Option Addr) (kcap kn : Nat) (keep : List Bool) (hkn : keep.length = kn) (hkc : kn ≤ maxLen) (hAk : Lies w Ak (bools keep)) (hw at0 : Int) (bits : Nat) (hb : bits < 4294967296) :
    Calls Tryd.prog 3 #[tabV x o A n cap, tabV x2 o2 A2 n2 cap2, .int .u8 (ka : Int), .slice Ak kn kcap, .agg #[.int .i64 hw, .int .i64 at0, .int .u32 (bits : Int)]] w fun e w' => e = .returned (.bool true) ∧ Below w.heap.size w w' := by
  have hs1 : (w.alloc (.cells #[.int .i64 x, .int .i64 o, .slice A n cap] 24)).heap.size = w.heap.size + 1 := by simp
  have hs2 : ((w.alloc (.cells #[.int .i64 x, .int .i64 o, .slice A n cap] 24)).alloc (.cells #[.int .i64 x2, .int .i64 o2, .slice A2 n2 cap2] 24)).heap.size = w.heap.size + 1 + 1 := by simp
  have ba : Below w.heap.size w (((w.alloc (.cells #[.int .i64 x, .int .i64 o, .slice A n cap] 24)).alloc (.cells #[.int .i64 x2, .int .i64 o2, .slice A2 n2 cap2] 24)).alloc (.cells #[.int .i64 hw, .int .i64 at0, .int .u32 (bits : Int)] 28)) := (((Below.refl _ _).alloc (Nat.le_refl _) _).alloc (by rw [hs1]; omega) _).alloc (by rw [hs2]; omega) _
  have XO := Blk.new w #[.int .i64 x, .int .i64 o, .slice A n cap] 24
  have XN := Blk.new (w.alloc (.cells #[.int .i64 x, .int .i64 o, .slice A n cap] 24)) #[.int .i64 x2, .int .i64 o2, .slice A2 n2 cap2] 24
  have XH := Blk.new ((w.alloc (.cells #[.int .i64 x, .int .i64 o, .slice A n cap] 24)).alloc (.cells #[.int .i64 x2, .int .i64 o2, .slice A2 n2 cap2] 24)) #[.int .i64 hw, .int .i64 at0, .int .u32 (bits : Int)] 28
  have XO := (XO.below ((Below.refl _ _).alloc (Nat.le_refl _) (.cells #[.int .i64 x2, .int .i64 o2, .slice A2 n2 cap2] 24)) (Nat.le_refl _)).below ((Below.refl _ _).alloc (Nat.le_refl _) (.cells #[.int .i64 hw, .int .i64 at0, .int .u32 (bits : Int)] 28)) (Nat.le_refl _)
  have XN := XN.below ((Below.refl _ _).alloc (Nat.le_refl _) (.cells #[.int .i64 hw, .int .i64 at0, .int .u32 (bits : Int)] 28)) (Nat.le_refl _)
  rw [hs1] at XN
  rw [hs2] at XH
  have HX0 := Lib.hid XO
  have HN0 := Lib.hid XN
  have HH0 := Lib.hid XH
  have B0 := Lib.hid ba
  have HT0 := Lib.hid (hT.below ba (Nat.le_refl _))
  have HTL := Lib.hid hT.1
  have LA0 := Lib.hid (Low.of hA ba)
  have LB0 := Lib.hid (Low.of hA2 ba)
  have LK0 := Lib.hid (Low.of hAk ba)
  have HN := Lib.hid hn
  have HN2 := Lib.hid hn2
  have HKN := Lib.hid hkn
  have HKC := Lib.hid hkc
  clear hT hA hA2 hAk hn hn2 hkn hkc XO XN XH ba hs1 hs2
  go_enter Tryd.func3, Tryd.ntmps3
  go_wp2_with fail
  generalize ((w.alloc (.cells #[.int .i64 x, .int .i64 o, .slice A n cap] 24)).alloc (.cells #[.int .i64 x2, .int .i64 o2, .slice A2 n2 cap2] 24)).alloc (.cells #[.int .i64 hw, .int .i64 at0, .int .u32 (bits : Int)] 28) = w0 at *
  refine (head10_any S w0 HT0.out).mono ?_
  rintro e w1 ⟨rfl, b1⟩
  have HT1 := Lib.hid (HT0.out.below b1 (Nat.le_refl _))
  have HX1 := Lib.hid (HX0.out.below b1 (Nat.le_refl _))
  have HN1 := Lib.hid (HN0.out.below b1 (Nat.le_refl _))
  have HH1 := Lib.hid (HH0.out.below b1 (Nat.le_refl _))
  have LA1 := Lib.hid (LA0.out.below b1)
  have LB1 := Lib.hid (LB0.out.below b1)
  have LK1 := Lib.hid (LK0.out.below b1)
  have B1 := Lib.hid (B0.out.trans (b1.mono B0.out.size))
  have HQ := Lib.hid (show w.heap.size + 1 + 1 < w1.heap.size from HH1.out.lt)
  clear b1 HX0 HN0 HH0 B0 HT0 LA0 LB0 LK0
  go_wp2_with fail
  refine (fr_new 4 w1 (by omega) (by omega) HT1.out).mono ?_
  rintro e w2 ⟨rfl, f2, b2⟩
  have F2 := Lib.hid f2
  have X2 := Lib.hid (HX1.out.below b2 (Nat.le_refl _))
  have N2 := Lib.hid (HN1.out.below b2 (Nat.le_refl _))
  have H2 := Lib.hid (HH1.out.below b2 (Nat.le_refl _))
  have LA2 := Lib.hid (LA1.out.below b2)
  have LB2 := Lib.hid (LB1.out.below b2)
  have LK2 := Lib.hid (LK1.out.below b2)
  have B2 := Lib.hid (B1.out.trans (b2.mono B1.out.size))
  clear f2 b2 HX1 HN1 HH1 B1 HT1 LA1 LB1 LK1
  generalize w1.heap.size = q at *
  by_cases h9 : 900 < kn
  · have hd : decide ((900 : Int) < (kn : Int)) = true := by simp; omega
    clear h9
    go_wp2
    go_ret
    exact ⟨rfl, B2.out⟩
  have hd : decide ((900 : Int) < (kn : Int)) = false := by simp; omega
  clear h9
  have HQ3 := Lib.hid (show ∀ s ∈ [q, q + 1, q + 2], w.heap.size ≤ s from fun s hs => by have := HQ.out; simp at hs; omega)
  have HB0 := Lib.hid (show w.heap.size ∉ [q, q + 1, q + 2] by have := HQ.out; simp; omega)
  have HB1 := Lib.hid (show w.heap.size + 1 ∉ [q, q + 1, q + 2] by have := HQ.out; simp; omega)
  have HB2 := Lib.hid (show w.heap.size + 1 + 1 ∉ [q, q + 1, q + 2] by have := HQ.out; simp; omega)
  have HWQ := Lib.hid (show w.heap.size ≤ q by have := HQ.out; omega)
  have hsv := Su.save_iff (Su.new_free 4 (by omega) (by omega)) (show 2 ≤ (Plain.Dv.new 4).n by show 2 ≤ 4; omega) ⟨x, o, xs⟩
  have HSV := Lib.hid (S.save q (Plain.Dv.new 4) x o A cap n xs w2 HN.out hc (LA2.out.far HWQ.out) (by show (0 : Nat) < _; omega) F2.out)
  have hd1n := Su.save_done (Plain.Dv.new 4) ⟨x, o, xs⟩
  obtain ⟨d1, h1⟩ : ∃ d1, (Su.save (Plain.Dv.new 4) ⟨x, o, xs⟩).1 = d1 := ⟨_, rfl⟩
  obtain ⟨E1, hE1⟩ : ∃ E1, (Su.save (Plain.Dv.new 4) ⟨x, o, xs⟩).2 = E1 := ⟨_, rfl⟩
  rw [h1] at hd1n
  have hd1n : d1.done ≤ 3 := hd1n
  rw [hE1] at hsv
  rw [hE1, h1] at HSV
  have HD1 := Lib.hid h1
  clear h1 hE1
  obtain ⟨z0, z1, z2⟩ := X2.out.three
  go_wp2_with fail
  refine HSV.out.mono ?_
  rintro e w4 ⟨rfl, f4, k4⟩
  have F4 := Lib.hid f4
  have X4 := Lib.hid (k4.blk X2.out HB0.out)
  have N4 := Lib.hid (k4.blk N2.out HB1.out)
  have H4 := Lib.hid (k4.blk H2.out HB2.out)
  have LA4 := Lib.hid (LA2.out.on k4 HQ3.out)
  have LB4 := Lib.hid (LB2.out.on k4 HQ3.out)
  have LK4 := Lib.hid (LK2.out.on k4 HQ3.out)
  have B4 := Lib.hid (Kept.below B2.out k4 HQ3.out)
  clear f4 k4 z0 z1 z2 HSV F2 X2 N2 H2 LA2 LB2 LK2 B2 hd
  by_cases hr : Tb.right ⟨x, o, xs⟩ = true
  rotate_left
  · have he : E1 ≠ 0 := fun h => hr (hsv.1 h)
    have heb : ((E1 : Int) != 0) = true := by simp; omega
    clear hsv hr he
    go_wp2
    go_ret
    exact ⟨rfl, B4.out⟩
  obtain rfl : E1 = 0 := hsv.2 hr
  have hR := Tb.right_iff.1 hr
  have hg1 : 1 ≤ x := hR.g1
  have hg2 : x ≤ 2147483648 := hR.g2
  have HR8 := Lib.hid (show n ≤ 8 by rw [← HN.out]; exact hR.n2)
  have HR := Lib.hid hr
  clear hsv hr hR
  have hgw : IntKind.i64.wrap (x + 1) = x + 1 := by rw [IntKind.wrap_i64]; omega
  have y0 : w4.cell? ⟨w.heap.size, 0, none⟩ = some (.int .i64 x) := X4.out.cell 0
  have n0 : w4.cell? ⟨w.heap.size + 1, 0, none⟩ = some (.int .i64 x2) := N4.out.cell 0
  have nf0 := N4.out.frozen 0
  have kk := (Kept.refl [w.heap.size + 1] w4).setCell (p := ⟨w.heap.size + 1, 0, none⟩) (by simp) (.int .i64 (x + 1))
  have hkk : ∀ s ∈ [w.heap.size + 1], w.heap.size ≤ s := fun s hs => by simp at hs; omega
  have F5 := Lib.hid (F4.out.side kk (fun s hs => by have := HQ.out; simp at hs; omega) (fun hm => by have := HTL.out; simp only [List.mem_singleton] at hm; omega))
  have X5 := Lib.hid (kk.blk X4.out (by simp))
  have N5 := Lib.hid (N4.out.set 0 (.int .i64 (x + 1)))
  have H5 := Lib.hid (kk.blk H4.out (by simp))
  have LA5 := Lib.hid (LA4.out.on kk hkk)
  have LB5 := Lib.hid (LB4.out.on kk hkk)
  have LK5 := Lib.hid (LK4.out.on kk hkk)
  have B5 := Lib.hid (Kept.below B4.out kk hkk)
  clear kk hkk F4 X4 N4 H4 LA4 LB4 LK4 B4
  have N5 := Lib.hid (show Blk _ (w.heap.size + 1) #[.int .i64 (x + 1), .int .i64 o2, .slice A2 n2 cap2] 24 from N5.out)
  obtain ⟨c, hcc⟩ : ∃ c, ka % 4 = c := ⟨_, rfl⟩
  have hc4 : c < 4 := by omega
  have htm := rem_four ka c hcc
  obtain ⟨hcv, hcv2, -⟩ := wrap_few c (by omega)
  clear hcc
  go_wp2_with fail
  generalize w4.setCell ⟨w.heap.size + 1, 0, none⟩ (.int .i64 (x + 1)) = w5 at *
  clear y0 n0 nf0 hgw htm hcv hcv2
  refine (fr_cut q d1 (c : Int) w5 (by omega) F5.out).mono ?_
  rintro e w6 ⟨rfl, f6, k6⟩
  have F6 := Lib.hid f6
  have X6 := Lib.hid (k6.blk X5.out HB0.out)
  have N6 := Lib.hid (k6.blk N5.out HB1.out)
  have H6 := Lib.hid (k6.blk H5.out HB2.out)
  have LA6 := Lib.hid (LA5.out.on k6 HQ3.out)
  have LB6 := Lib.hid (LB5.out.on k6 HQ3.out)
  have LK6 := Lib.hid (LK5.out.on k6 HQ3.out)
  have B6 := Lib.hid (Kept.below B5.out k6 HQ3.out)
  clear f6 k6 F5 X5 N5 H5 LA5 LB5 LK5 B5
  have hd2n : (d1.cutAt (c : Int)).done ≤ 3 := by unfold Plain.Dv.cutAt; split <;> exact hd1n
  obtain ⟨d2, h2⟩ : ∃ d2, d1.cutAt (c : Int) = d2 := ⟨_, rfl⟩
  rw [h2] at F6 hd2n
  have HD2 := Lib.hid h2
  clear h2 hc4
  have HSV := Lib.hid (S.save q d2 (x + 1) o2 A2 cap2 n2 xs2 w6 HN2.out hc2 (LB6.out.far HWQ.out) (by omega) F6.out)
  obtain ⟨d3, E2, h3⟩ : ∃ d3 E2, Su.save d2 ⟨x + 1, o2, xs2⟩ = (d3, E2) := ⟨_, _, rfl⟩
  rw [h3] at HSV
  have HD3 := Lib.hid h3
  clear h3 hd1n hd2n
  obtain ⟨n0, n1, n2'⟩ := N6.out.three
  go_wp2_with fail
  refine HSV.out.mono ?_
  rintro e w7 ⟨rfl, f7, k7⟩
  have F7 := Lib.hid (show Fr w7 q d3 from f7)
  have X7 := Lib.hid (k7.blk X6.out HB0.out)
  have N7 := Lib.hid (k7.blk N6.out HB1.out)
  have H7 := Lib.hid (k7.blk H6.out HB2.out)
  have LA7 := Lib.hid (LA6.out.on k7 HQ3.out)
  have LB7 := Lib.hid (LB6.out.on k7 HQ3.out)
  have LK7 := Lib.hid (LK6.out.on k7 HQ3.out)
  have B7 := Lib.hid (Kept.below B6.out k7 HQ3.out)
  clear f7 k7 n0 n1 n2' HSV F6 X6 N6 H6 LA6 LB6 LK6 B6
  have h0 : w7.cell? ⟨w.heap.size + 1 + 1, 0, none⟩ = some (.int .i64 hw) := H7.out.cell 0
  have h1 : w7.cell? ⟨w.heap.size + 1 + 1, 1, none⟩ = some (.int .i64 at0) := H7.out.cell 1
  have h2 : w7.cell? ⟨w.heap.size + 1 + 1, 2, none⟩ = some (.int .u32 (bits : Int)) := H7.out.cell 2
  have hf1 := H7.out.frozen 1
  have HGW := Lib.hid (fun (at1 : Int) (ha1 : 40 ≤ at1) (ha2 : at1 ≤ 480) => Su.swaps_new HR.out (t := ⟨x + 1, o2, xs2⟩) rfl HD1.out HD2.out HD3.out keep ⟨hw, at1, bits⟩ ha1 ha2 hb)
  by_cases c1 : at0 < 40
  · have hd : decide (at0 < 40) = true := by simp; omega
    clear c1
    have kk := (Kept.refl [w.heap.size + 1 + 1] w7).setCell (p := ⟨w.heap.size + 1 + 1, 1, none⟩) (by simp) (.int .i64 40)
    obtain ⟨xx, hl, hx0, hxx⟩ := HGW.out 40 (by omega) (by omega)
    have hkk : ∀ s ∈ [w.heap.size + 1 + 1], w.heap.size ≤ s := fun s hs => by simp at hs; omega
    have F8 := Lib.hid (F7.out.side kk (fun s hs => by have := HQ.out; simp at hs; omega) (fun hm => by have := HTL.out; simp only [List.mem_singleton] at hm; omega))
    have X8 := Lib.hid (kk.blk X7.out (by simp only [List.mem_singleton]; omega))
    have N8 := Lib.hid (kk.blk N7.out (by simp only [List.mem_singleton]; omega))
    have H8 := Lib.hid (show Blk _ (w.heap.size + 1 + 1) #[.int .i64 hw, .int .i64 40, .int .u32 (bits : Int)] 28 from H7.out.set 1 (.int .i64 40))
    have LA8 := Lib.hid (LA7.out.on kk hkk)
    have LB8 := Lib.hid (LB7.out.on kk hkk)
    have LK8 := Lib.hid (LK7.out.on kk hkk)
    have B8 := Lib.hid (Kept.below B7.out kk hkk)
    clear kk hkk HGW F7 X7 N7 H7 LA7 LB7 LK7 B7
    have HSZ := Lib.hid (show (w7.setCell ⟨w.heap.size + 1 + 1, 1, none⟩ (.int .i64 40)).heap.size = w7.heap.size by simp)
    go_wp2_with fail
    generalize w7.setCell ⟨w.heap.size + 1 + 1, 1, none⟩ (.int .i64 40) = wq at *
    generalize w7.heap.size = p7 at *
    have ba : Below wq.heap.size wq (wq.alloc (.cells #[.int .i64 hw, .int .i64 40, .int .u32 (bits : Int)] 28)) := (Below.refl _ _).alloc (Nat.le_refl _) _
    have OH := Lib.hid (show Old (wq.alloc (.cells #[.int .i64 hw, .int .i64 40, .int .u32 (bits : Int)] 28)) q (some ⟨p7, 0, none⟩) (flatH [⟨hw, 40, bits⟩]) from by
      have bn := Blk.new wq #[.int .i64 hw, .int .i64 40, .int .u32 (bits : Int)] 28
      have bl := F8.out.dev.lt
      rw [HSZ.out] at bn bl
      exact Old.blk bn bl)
    have F9 := Lib.hid (F8.out.below ba)
    have X9 := Lib.hid (X8.out.below ba (Nat.le_refl _))
    have N9 := Lib.hid (N8.out.below ba (Nat.le_refl _))
    have LA9 := Lib.hid (LA8.out.below ba)
    have LB9 := Lib.hid (LB8.out.below ba)
    have LK9 := Lib.hid (LK8.out.below ba)
    have B9 := Lib.hid (B8.out.trans (ba.mono B8.out.size))
    clear ba F8 X8 N8 H8 LA8 LB8 LK8 B8
    refine (fr_boot q d3 keep [⟨hw, 40, bits⟩] Ak (some ⟨p7, 0, none⟩) kn kcap 1 1 _ HKN.out rfl HKC.out (by unfold maxLen; omega) (LK9.out.far HWQ.out) OH.out (fun h hm => by simp at hm; subst hm; exact hb) F9.out).mono ?_
    rintro e wb ⟨rfl, fb, kb⟩
    have FB := Lib.hid fb
    have XB := Lib.hid (kb.blk X9.out HB0.out)
    have NB := Lib.hid (kb.blk N9.out HB1.out)
    have LAB := Lib.hid (LA9.out.on kb HQ3.out)
    have LBB := Lib.hid (LB9.out.on kb HQ3.out)
    have BB := Lib.hid (Kept.below B9.out kb HQ3.out)
    clear fb kb F9 X9 N9 LA9 LB9 LK9 B9 OH h0 h1 h2 hf1 hd
    generalize d3.boot keep [⟨hw, 40, bits⟩] = d4 at *
    rcases hxx with rfl | rfl
    · have he : E2 ≠ 0 := fun h => by have := congrArg Tb.T.gen (hx0 h); simp only at this; omega
      have heb : ((E2 : Int) == 0) = false := by simp; omega
      clear hx0 he
      go_wp2_with fail
      refine (S.load q d4 x o xs n true 0 wb FB.out hl HN.out).mono ?_
      rintro e wc ⟨AX, cx, rfl, -, hx, -, bc⟩
      have ba : Below wc.heap.size wc (wc.alloc (.cells #[.int .i64 x, .int .i64 o, .slice AX n cx] 24)) := (Below.refl _ _).alloc (Nat.le_refl _) _
      have bb := bc.trans (ba.mono bc.size)
      have XC := Lib.hid (XB.out.below bb (Nat.le_refl _))
      have LC := Lib.hid (LAB.out.below bb)
      have XL := Lib.hid (hx.below ba)
      have XX := Lib.hid (Blk.new wc #[.int .i64 x, .int .i64 o, .slice AX n cx] 24)
      have BC := Lib.hid (BB.out.trans (bb.mono BB.out.size))
      clear ba bb bc hx
      obtain ⟨z0, z1, z2⟩ := XX.out.three
      obtain ⟨y0, y1, y2⟩ := XC.out.three
      go_wp2_with fail
      refine (rsame_is x o AX cx n xs x o A cap n xs _ true HN.out HN.out (by have := HR8.out; omega) XL.out LC.out.lies (decide_eq_true rfl)).mono ?_
      rintro e wd ⟨rfl, bd⟩
      have BD := Lib.hid (BC.out.trans (bd.mono BC.out.size))
      clear bd z0 z1 z2 y0 y1 y2
      go_wp2
      go_ret
      exact ⟨rfl, BD.out⟩
    · have hrt := Su.load_right hl
      have HT8 := Lib.hid (show n2 ≤ 8 by rw [← HN2.out]; exact (Tb.right_iff.1 hrt).n2)
      clear hx0 hrt
      by_cases he : E2 = 0
      · have heb : ((E2 : Int) == 0) = true := by simp [he]
        clear he
        go_wp2_with fail
        refine (S.load q d4 (x + 1) o2 xs2 n2 true 0 wb FB.out hl HN2.out).mono ?_
        rintro e wc ⟨AX, cx, rfl, -, hx, -, bc⟩
        have ba : Below wc.heap.size wc (wc.alloc (.cells #[.int .i64 (x + 1), .int .i64 o2, .slice AX n2 cx] 24)) := (Below.refl _ _).alloc (Nat.le_refl _) _
        have bb := bc.trans (ba.mono bc.size)
        have XC := Lib.hid (NB.out.below bb (Nat.le_refl _))
        have LC := Lib.hid (LBB.out.below bb)
        have XL := Lib.hid (hx.below ba)
        have XX := Lib.hid (Blk.new wc #[.int .i64 (x + 1), .int .i64 o2, .slice AX n2 cx] 24)
        have BC := Lib.hid (BB.out.trans (bb.mono BB.out.size))
        clear ba bb bc hx
        obtain ⟨z0, z1, z2⟩ := XX.out.three
        obtain ⟨y0, y1, y2⟩ := XC.out.three
        go_wp2_with fail
        refine (rsame_is (x + 1) o2 AX cx n2 xs2 (x + 1) o2 A2 cap2 n2 xs2 _ true HN2.out HN2.out (by have := HT8.out; omega) XL.out LC.out.lies (decide_eq_true rfl)).mono ?_
        rintro e wd ⟨rfl, bd⟩
        have BD := Lib.hid (BC.out.trans (bd.mono BC.out.size))
        clear bd z0 z1 z2 y0 y1 y2
        go_wp2
        go_ret
        exact ⟨rfl, BD.out⟩
      · have heb : ((E2 : Int) == 0) = false := by simp; omega
        clear he
        go_wp2_with fail
        refine (S.load q d4 (x + 1) o2 xs2 n2 true 0 wb FB.out hl HN2.out).mono ?_
        rintro e wc ⟨AX, cx, rfl, -, hx, -, bc⟩
        have ba : Below wc.heap.size wc (wc.alloc (.cells #[.int .i64 (x + 1), .int .i64 o2, .slice AX n2 cx] 24)) := (Below.refl _ _).alloc (Nat.le_refl _) _
        have bb := bc.trans (ba.mono bc.size)
        have XC := Lib.hid (XB.out.below bb (Nat.le_refl _))
        have NC := Lib.hid (NB.out.below bb (Nat.le_refl _))
        have LAC := Lib.hid (LAB.out.below bb)
        have LC := Lib.hid (LBB.out.below bb)
        have XL := Lib.hid (hx.below ba)
        have XX := Lib.hid (Blk.new wc #[.int .i64 (x + 1), .int .i64 o2, .slice AX n2 cx] 24)
        have BC := Lib.hid (BB.out.trans (bb.mono BB.out.size))
        clear ba bb bc hx
        obtain ⟨z0, z1, z2⟩ := XX.out.three
        obtain ⟨y0, y1, y2⟩ := XC.out.three
        go_wp2_with fail
        generalize wc.alloc (.cells #[.int .i64 (x + 1), .int .i64 o2, .slice AX n2 cx] 24) = wd at *
        refine (rsame_is (x + 1) o2 AX cx n2 xs2 x o A cap n xs wd false HN2.out HN.out (by have := HT8.out; omega) XL.out LAC.out.lies (decide_eq_false (fun h => by have := congrArg Tb.T.gen h; simp only at this; omega))).mono ?_
        rintro e we ⟨rfl, be⟩
        have XXE := Lib.hid (XX.out.below be (Nat.le_refl _))
        have NE := Lib.hid (NC.out.below be (Nat.le_refl _))
        have XLE := Lib.hid (XL.out.below be)
        have LCE := Lib.hid (LC.out.below be)
        have BE := Lib.hid (BC.out.trans (be.mono BC.out.size))
        clear be z0 z1 z2 y0 y1 y2
        obtain ⟨z0, z1, z2⟩ := XXE.out.three
        obtain ⟨y0, y1, y2⟩ := NE.out.three
        go_wp2_with fail
        refine (rsame_is (x + 1) o2 AX cx n2 xs2 (x + 1) o2 A2 cap2 n2 xs2 we true HN2.out HN2.out (by have := HT8.out; omega) XLE.out LCE.out.lies (decide_eq_true rfl)).mono ?_
        rintro e wf ⟨rfl, bf⟩
        have BF := Lib.hid (BE.out.trans (bf.mono BE.out.size))
        clear bf z0 z1 z2 y0 y1 y2
        go_wp2
        go_ret
        exact ⟨rfl, BF.out⟩
  have hd : decide (at0 < 40) = false := by simp; omega
  by_cases c2 : 480 < at0
  · have hd2 : decide ((480 : Int) < at0) = true := by simp; omega
    clear c1 c2
    have kk := (Kept.refl [w.heap.size + 1 + 1] w7).setCell (p := ⟨w.heap.size + 1 + 1, 1, none⟩) (by simp) (.int .i64 480)
    obtain ⟨xx, hl, hx0, hxx⟩ := HGW.out 480 (by omega) (by omega)
    have hkk : ∀ s ∈ [w.heap.size + 1 + 1], w.heap.size ≤ s := fun s hs => by simp at hs; omega
    have F8 := Lib.hid (F7.out.side kk (fun s hs => by have := HQ.out; simp at hs; omega) (fun hm => by have := HTL.out; simp only [List.mem_singleton] at hm; omega))
    have X8 := Lib.hid (kk.blk X7.out (by simp only [List.mem_singleton]; omega))
    have N8 := Lib.hid (kk.blk N7.out (by simp only [List.mem_singleton]; omega))
    have H8 := Lib.hid (show Blk _ (w.heap.size + 1 + 1) #[.int .i64 hw, .int .i64 480, .int .u32 (bits : Int)] 28 from H7.out.set 1 (.int .i64 480))
    have LA8 := Lib.hid (LA7.out.on kk hkk)
    have LB8 := Lib.hid (LB7.out.on kk hkk)
    have LK8 := Lib.hid (LK7.out.on kk hkk)
    have B8 := Lib.hid (Kept.below B7.out kk hkk)
    clear kk hkk HGW F7 X7 N7 H7 LA7 LB7 LK7 B7
    have HSZ := Lib.hid (show (w7.setCell ⟨w.heap.size + 1 + 1, 1, none⟩ (.int .i64 480)).heap.size = w7.heap.size by simp)
    go_wp2_with fail
    generalize w7.setCell ⟨w.heap.size + 1 + 1, 1, none⟩ (.int .i64 480) = wq at *
    generalize w7.heap.size = p7 at *
    have ba : Below wq.heap.size wq (wq.alloc (.cells #[.int .i64 hw, .int .i64 480, .int .u32 (bits : Int)] 28)) := (Below.refl _ _).alloc (Nat.le_refl _) _
    have OH := Lib.hid (show Old (wq.alloc (.cells #[.int .i64 hw, .int .i64 480, .int .u32 (bits : Int)] 28)) q (some ⟨p7, 0, none⟩) (flatH [⟨hw, 480, bits⟩]) from by
      have bn := Blk.new wq #[.int .i64 hw, .int .i64 480, .int .u32 (bits : Int)] 28
      have bl := F8.out.dev.lt
      rw [HSZ.out] at bn bl
      exact Old.blk bn bl)
    have F9 := Lib.hid (F8.out.below ba)
    have X9 := Lib.hid (X8.out.below ba (Nat.le_refl _))
    have N9 := Lib.hid (N8.out.below ba (Nat.le_refl _))
    have LA9 := Lib.hid (LA8.out.below ba)
    have LB9 := Lib.hid (LB8.out.below ba)
    have LK9 := Lib.hid (LK8.out.below ba)
    have B9 := Lib.hid (B8.out.trans (ba.mono B8.out.size))
    clear ba F8 X8 N8 H8 LA8 LB8 LK8 B8
    refine (fr_boot q d3 keep [⟨hw, 480, bits⟩] Ak (some ⟨p7, 0, none⟩) kn kcap 1 1 _ HKN.out rfl HKC.out (by unfold maxLen; omega) (LK9.out.far HWQ.out) OH.out (fun h hm => by simp at hm; subst hm; exact hb) F9.out).mono ?_
    rintro e wb ⟨rfl, fb, kb⟩
    have FB := Lib.hid fb
    have XB := Lib.hid (kb.blk X9.out HB0.out)
    have NB := Lib.hid (kb.blk N9.out HB1.out)
    have LAB := Lib.hid (LA9.out.on kb HQ3.out)
    have LBB := Lib.hid (LB9.out.on kb HQ3.out)
    have BB := Lib.hid (Kept.below B9.out kb HQ3.out)
    clear fb kb F9 X9 N9 LA9 LB9 LK9 B9 OH h0 h1 h2 hf1 hd
    generalize d3.boot keep [⟨hw, 480, bits⟩] = d4 at *
    rcases hxx with rfl | rfl
    · have he : E2 ≠ 0 := fun h => by have := congrArg Tb.T.gen (hx0 h); simp only at this; omega
      have heb : ((E2 : Int) == 0) = false := by simp; omega
      clear hx0 he
      go_wp2_with fail
      refine (S.load q d4 x o xs n true 0 wb FB.out hl HN.out).mono ?_
      rintro e wc ⟨AX, cx, rfl, -, hx, -, bc⟩
      have ba : Below wc.heap.size wc (wc.alloc (.cells #[.int .i64 x, .int .i64 o, .slice AX n cx] 24)) := (Below.refl _ _).alloc (Nat.le_refl _) _
      have bb := bc.trans (ba.mono bc.size)
      have XC := Lib.hid (XB.out.below bb (Nat.le_refl _))
      have LC := Lib.hid (LAB.out.below bb)
      have XL := Lib.hid (hx.below ba)
      have XX := Lib.hid (Blk.new wc #[.int .i64 x, .int .i64 o, .slice AX n cx] 24)
      have BC := Lib.hid (BB.out.trans (bb.mono BB.out.size))
      clear ba bb bc hx
      obtain ⟨z0, z1, z2⟩ := XX.out.three
      obtain ⟨y0, y1, y2⟩ := XC.out.three
      go_wp2_with fail
      refine (rsame_is x o AX cx n xs x o A cap n xs _ true HN.out HN.out (by have := HR8.out; omega) XL.out LC.out.lies (decide_eq_true rfl)).mono ?_
      rintro e wd ⟨rfl, bd⟩
      have BD := Lib.hid (BC.out.trans (bd.mono BC.out.size))
      clear bd z0 z1 z2 y0 y1 y2
      go_wp2
      go_ret
      exact ⟨rfl, BD.out⟩
    · have hrt := Su.load_right hl
      have HT8 := Lib.hid (show n2 ≤ 8 by rw [← HN2.out]; exact (Tb.right_iff.1 hrt).n2)
      clear hx0 hrt
      by_cases he : E2 = 0
      · have heb : ((E2 : Int) == 0) = true := by simp [he]
        clear he
        go_wp2_with fail
        refine (S.load q d4 (x + 1) o2 xs2 n2 true 0 wb FB.out hl HN2.out).mono ?_
        rintro e wc ⟨AX, cx, rfl, -, hx, -, bc⟩
        have ba : Below wc.heap.size wc (wc.alloc (.cells #[.int .i64 (x + 1), .int .i64 o2, .slice AX n2 cx] 24)) := (Below.refl _ _).alloc (Nat.le_refl _) _
        have bb := bc.trans (ba.mono bc.size)
        have XC := Lib.hid (NB.out.below bb (Nat.le_refl _))
        have LC := Lib.hid (LBB.out.below bb)
        have XL := Lib.hid (hx.below ba)
        have XX := Lib.hid (Blk.new wc #[.int .i64 (x + 1), .int .i64 o2, .slice AX n2 cx] 24)
        have BC := Lib.hid (BB.out.trans (bb.mono BB.out.size))
        clear ba bb bc hx
        obtain ⟨z0, z1, z2⟩ := XX.out.three
        obtain ⟨y0, y1, y2⟩ := XC.out.three
        go_wp2_with fail
        refine (rsame_is (x + 1) o2 AX cx n2 xs2 (x + 1) o2 A2 cap2 n2 xs2 _ true HN2.out HN2.out (by have := HT8.out; omega) XL.out LC.out.lies (decide_eq_true rfl)).mono ?_
        rintro e wd ⟨rfl, bd⟩
        have BD := Lib.hid (BC.out.trans (bd.mono BC.out.size))
        clear bd z0 z1 z2 y0 y1 y2
        go_wp2
        go_ret
        exact ⟨rfl, BD.out⟩
      · have heb : ((E2 : Int) == 0) = false := by simp; omega
        clear he
        go_wp2_with fail
        refine (S.load q d4 (x + 1) o2 xs2 n2 true 0 wb FB.out hl HN2.out).mono ?_
        rintro e wc ⟨AX, cx, rfl, -, hx, -, bc⟩
        have ba : Below wc.heap.size wc (wc.alloc (.cells #[.int .i64 (x + 1), .int .i64 o2, .slice AX n2 cx] 24)) := (Below.refl _ _).alloc (Nat.le_refl _) _
        have bb := bc.trans (ba.mono bc.size)
        have XC := Lib.hid (XB.out.below bb (Nat.le_refl _))
        have NC := Lib.hid (NB.out.below bb (Nat.le_refl _))
        have LAC := Lib.hid (LAB.out.below bb)
        have LC := Lib.hid (LBB.out.below bb)
        have XL := Lib.hid (hx.below ba)
        have XX := Lib.hid (Blk.new wc #[.int .i64 (x + 1), .int .i64 o2, .slice AX n2 cx] 24)
        have BC := Lib.hid (BB.out.trans (bb.mono BB.out.size))
        clear ba bb bc hx
        obtain ⟨z0, z1, z2⟩ := XX.out.three
        obtain ⟨y0, y1, y2⟩ := XC.out.three
        go_wp2_with fail
        generalize wc.alloc (.cells #[.int .i64 (x + 1), .int .i64 o2, .slice AX n2 cx] 24) = wd at *
        refine (rsame_is (x + 1) o2 AX cx n2 xs2 x o A cap n xs wd false HN2.out HN.out (by have := HT8.out; omega) XL.out LAC.out.lies (decide_eq_false (fun h => by have := congrArg Tb.T.gen h; simp only at this; omega))).mono ?_
        rintro e we ⟨rfl, be⟩
        have XXE := Lib.hid (XX.out.below be (Nat.le_refl _))
        have NE := Lib.hid (NC.out.below be (Nat.le_refl _))
        have XLE := Lib.hid (XL.out.below be)
        have LCE := Lib.hid (LC.out.below be)
        have BE := Lib.hid (BC.out.trans (be.mono BC.out.size))
        clear be z0 z1 z2 y0 y1 y2
        obtain ⟨z0, z1, z2⟩ := XXE.out.three
        obtain ⟨y0, y1, y2⟩ := NE.out.three
        go_wp2_with fail
        refine (rsame_is (x + 1) o2 AX cx n2 xs2 (x + 1) o2 A2 cap2 n2 xs2 we true HN2.out HN2.out (by have := HT8.out; omega) XLE.out LCE.out.lies (decide_eq_true rfl)).mono ?_
        rintro e wf ⟨rfl, bf⟩
        have BF := Lib.hid (BE.out.trans (bf.mono BE.out.size))
        clear bf z0 z1 z2 y0 y1 y2
        go_wp2
        go_ret
        exact ⟨rfl, BF.out⟩
  · have hd2 : decide ((480 : Int) < at0) = false := by simp; omega
    obtain ⟨xx, hl, hx0, hxx⟩ := HGW.out at0 (by omega) (by omega)
    have F8 := F7
    have X8 := X7
    have N8 := N7
    have H8 := H7
    have LA8 := LA7
    have LB8 := LB7
    have LK8 := LK7
    have B8 := B7
    clear c1 c2 HGW F7 X7 N7 H7 LA7 LB7 LK7 B7
    go_wp2_with fail
    generalize hp7 : w7.heap.size = p7 at *
    have HSZ := Lib.hid hp7
    clear hp7
    generalize w7 = wq at *
    have ba : Below wq.heap.size wq (wq.alloc (.cells #[.int .i64 hw, .int .i64 at0, .int .u32 (bits : Int)] 28)) := (Below.refl _ _).alloc (Nat.le_refl _) _
    have OH := Lib.hid (show Old (wq.alloc (.cells #[.int .i64 hw, .int .i64 at0, .int .u32 (bits : Int)] 28)) q (some ⟨p7, 0, none⟩) (flatH [⟨hw, at0, bits⟩]) from by
      have bn := Blk.new wq #[.int .i64 hw, .int .i64 at0, .int .u32 (bits : Int)] 28
      have bl := F8.out.dev.lt
      rw [HSZ.out] at bn bl
      exact Old.blk bn bl)
    have F9 := Lib.hid (F8.out.below ba)
    have X9 := Lib.hid (X8.out.below ba (Nat.le_refl _))
    have N9 := Lib.hid (N8.out.below ba (Nat.le_refl _))
    have LA9 := Lib.hid (LA8.out.below ba)
    have LB9 := Lib.hid (LB8.out.below ba)
    have LK9 := Lib.hid (LK8.out.below ba)
    have B9 := Lib.hid (B8.out.trans (ba.mono B8.out.size))
    clear ba F8 X8 N8 H8 LA8 LB8 LK8 B8
    refine (fr_boot q d3 keep [⟨hw, at0, bits⟩] Ak (some ⟨p7, 0, none⟩) kn kcap 1 1 _ HKN.out rfl HKC.out (by unfold maxLen; omega) (LK9.out.far HWQ.out) OH.out (fun h hm => by simp at hm; subst hm; exact hb) F9.out).mono ?_
    rintro e wb ⟨rfl, fb, kb⟩
    have FB := Lib.hid fb
    have XB := Lib.hid (kb.blk X9.out HB0.out)
    have NB := Lib.hid (kb.blk N9.out HB1.out)
    have LAB := Lib.hid (LA9.out.on kb HQ3.out)
    have LBB := Lib.hid (LB9.out.on kb HQ3.out)
    have BB := Lib.hid (Kept.below B9.out kb HQ3.out)
    clear fb kb F9 X9 N9 LA9 LB9 LK9 B9 OH h0 h1 h2 hf1 hd
    generalize d3.boot keep [⟨hw, at0, bits⟩] = d4 at *
    rcases hxx with rfl | rfl
    · have he : E2 ≠ 0 := fun h => by have := congrArg Tb.T.gen (hx0 h); simp only at this; omega
      have heb : ((E2 : Int) == 0) = false := by simp; omega
      clear hx0 he
      go_wp2_with fail
      refine (S.load q d4 x o xs n true 0 wb FB.out hl HN.out).mono ?_
      rintro e wc ⟨AX, cx, rfl, -, hx, -, bc⟩
      have ba : Below wc.heap.size wc (wc.alloc (.cells #[.int .i64 x, .int .i64 o, .slice AX n cx] 24)) := (Below.refl _ _).alloc (Nat.le_refl _) _
      have bb := bc.trans (ba.mono bc.size)
      have XC := Lib.hid (XB.out.below bb (Nat.le_refl _))
      have LC := Lib.hid (LAB.out.below bb)
      have XL := Lib.hid (hx.below ba)
      have XX := Lib.hid (Blk.new wc #[.int .i64 x, .int .i64 o, .slice AX n cx] 24)
      have BC := Lib.hid (BB.out.trans (bb.mono BB.out.size))
      clear ba bb bc hx
      obtain ⟨z0, z1, z2⟩ := XX.out.three
      obtain ⟨y0, y1, y2⟩ := XC.out.three
      go_wp2_with fail
      refine (rsame_is x o AX cx n xs x o A cap n xs _ true HN.out HN.out (by have := HR8.out; omega) XL.out LC.out.lies (decide_eq_true rfl)).mono ?_
      rintro e wd ⟨rfl, bd⟩
      have BD := Lib.hid (BC.out.trans (bd.mono BC.out.size))
      clear bd z0 z1 z2 y0 y1 y2
      go_wp2
      go_ret
      exact ⟨rfl, BD.out⟩
    · have hrt := Su.load_right hl
      have HT8 := Lib.hid (show n2 ≤ 8 by rw [← HN2.out]; exact (Tb.right_iff.1 hrt).n2)
      clear hx0 hrt
      by_cases he : E2 = 0
      · have heb : ((E2 : Int) == 0) = true := by simp [he]
        clear he
        go_wp2_with fail
        refine (S.load q d4 (x + 1) o2 xs2 n2 true 0 wb FB.out hl HN2.out).mono ?_
        rintro e wc ⟨AX, cx, rfl, -, hx, -, bc⟩
        have ba : Below wc.heap.size wc (wc.alloc (.cells #[.int .i64 (x + 1), .int .i64 o2, .slice AX n2 cx] 24)) := (Below.refl _ _).alloc (Nat.le_refl _) _
        have bb := bc.trans (ba.mono bc.size)
        have XC := Lib.hid (NB.out.below bb (Nat.le_refl _))
        have LC := Lib.hid (LBB.out.below bb)
        have XL := Lib.hid (hx.below ba)
        have XX := Lib.hid (Blk.new wc #[.int .i64 (x + 1), .int .i64 o2, .slice AX n2 cx] 24)
        have BC := Lib.hid (BB.out.trans (bb.mono BB.out.size))
        clear ba bb bc hx
        obtain ⟨z0, z1, z2⟩ := XX.out.three
        obtain ⟨y0, y1, y2⟩ := XC.out.three
        go_wp2_with fail
        refine (rsame_is (x + 1) o2 AX cx n2 xs2 (x + 1) o2 A2 cap2 n2 xs2 _ true HN2.out HN2.out (by have := HT8.out; omega) XL.out LC.out.lies (decide_eq_true rfl)).mono ?_
        rintro e wd ⟨rfl, bd⟩
        have BD := Lib.hid (BC.out.trans (bd.mono BC.out.size))
        clear bd z0 z1 z2 y0 y1 y2
        go_wp2
        go_ret
        exact ⟨rfl, BD.out⟩
      · have heb : ((E2 : Int) == 0) = false := by simp; omega
        clear he
        go_wp2_with fail
        refine (S.load q d4 (x + 1) o2 xs2 n2 true 0 wb FB.out hl HN2.out).mono ?_
        rintro e wc ⟨AX, cx, rfl, -, hx, -, bc⟩
        have ba : Below wc.heap.size wc (wc.alloc (.cells #[.int .i64 (x + 1), .int .i64 o2, .slice AX n2 cx] 24)) := (Below.refl _ _).alloc (Nat.le_refl _) _
        have bb := bc.trans (ba.mono bc.size)
        have XC := Lib.hid (XB.out.below bb (Nat.le_refl _))
        have NC := Lib.hid (NB.out.below bb (Nat.le_refl _))
        have LAC := Lib.hid (LAB.out.below bb)
        have LC := Lib.hid (LBB.out.below bb)
        have XL := Lib.hid (hx.below ba)
        have XX := Lib.hid (Blk.new wc #[.int .i64 (x + 1), .int .i64 o2, .slice AX n2 cx] 24)
        have BC := Lib.hid (BB.out.trans (bb.mono BB.out.size))
        clear ba bb bc hx
        obtain ⟨z0, z1, z2⟩ := XX.out.three
        obtain ⟨y0, y1, y2⟩ := XC.out.three
        go_wp2_with fail
        generalize wc.alloc (.cells #[.int .i64 (x + 1), .int .i64 o2, .slice AX n2 cx] 24) = wd at *
        refine (rsame_is (x + 1) o2 AX cx n2 xs2 x o A cap n xs wd false HN2.out HN.out (by have := HT8.out; omega) XL.out LAC.out.lies (decide_eq_false (fun h => by have := congrArg Tb.T.gen h; simp only at this; omega))).mono ?_
        rintro e we ⟨rfl, be⟩
        have XXE := Lib.hid (XX.out.below be (Nat.le_refl _))
        have NE := Lib.hid (NC.out.below be (Nat.le_refl _))
        have XLE := Lib.hid (XL.out.below be)
        have LCE := Lib.hid (LC.out.below be)
        have BE := Lib.hid (BC.out.trans (be.mono BC.out.size))
        clear be z0 z1 z2 y0 y1 y2
        obtain ⟨z0, z1, z2⟩ := XXE.out.three
        obtain ⟨y0, y1, y2⟩ := NE.out.three
        go_wp2_with fail
        refine (rsame_is (x + 1) o2 AX cx n2 xs2 (x + 1) o2 A2 cap2 n2 xs2 we true HN2.out HN2.out (by have := HT8.out; omega) XLE.out LCE.out.lies (decide_eq_true rfl)).mono ?_
        rintro e wf ⟨rfl, bf⟩
        have BF := Lib.hid (BE.out.trans (bf.mono BE.out.size))
        clear bf z0 z1 z2 y0 y1 y2
        go_wp2
        go_ret
        exact ⟨rfl, BF.out⟩

theorem walk (w : World) (hT : Tab w) (g o : Int) (A : Option Addr) (cap : Nat) (xs : List Tb.Ext) (hl : xs.length ≤ cap) (_ : cap ≤ maxLen) (hA : Lies w A (flatX xs)) (g2 o2 : Int) (A2 : Option Addr) (cap2 : Nat) (xs2 : List Tb.Ext) (hl2 : xs2.length ≤ cap2) (_ : cap2 ≤ maxLen) (hA2 : Lies w A2 (flatX xs2)) (a : Int) (ha : 0 ≤ a ∧ a ≤ 255)
    (Ak : Option Addr) (kcap : Nat) (keep : List Bool) (hk : keep.length ≤ kcap) (hkm : kcap ≤ maxLen) (hAk : Lies w Ak (bools keep)) (u : Plain.Hu) (hb : u.bits < 4294967296) (_ : -9223372036854775808 ≤ u.at_) (_ : u.at_ ≤ 9223372036854775807) :
    Calls Tryd.prog 3 #[tabV g o A xs.length cap, tabV g2 o2 A2 xs2.length cap2, .int .u8 a, .slice Ak keep.length kcap, .agg #[.int .i64 u.which, .int .i64 u.at_, .int .u32 (u.bits : Int)]] w fun e w' => e = .returned (.bool true) ∧ Below w.heap.size w w' := by
  obtain ⟨a, rfl⟩ := Int.eq_ofNat_of_zero_le ha.1
  exact walkN superOk w hT g o A cap xs.length xs rfl hl hA g2 o2 A2 cap2 xs2.length xs2 rfl hl2 hA2 a Ak kcap keep.length keep rfl (Nat.le_trans hk hkm) hAk u.which u.at_ u.bits hb


set_option maxRecDepth 100000 in
theorem lifted (os : Os) (started : os.Started) (H : Type) (enc : TypeId × Value → H) :
    ReturnsInHanded {} Tryd.checked os 3 .any (fun w args => (Rows.superSwapsSpec.pre enc Tryd.prog Tryd.f3 [] false w args ∧ laidMetH Tryd.prog laidHere w) ∧ sizedMet enc Tryd.prog Tryd.f3 (OpenSpec.ofChange Rows.superSwapsSpec) false w args) (Rows.superSwapsSpec.post enc Tryd.prog Tryd.f3 false true false false) := by
  refine returnsInHanded_of_change_and (C := Tryd.checked) (X := fun w _ => laidMetH Tryd.prog laidHere w) (fun _ _ _ hh h => h.of_heap hh) own started (by kernel_rfl) Tryd.func3
    (ChangeSpec.witness_shaped (enc := enc) (C := Tryd.checked) (os := os) (X := fun w _ => laidMetH Tryd.prog laidHere w) false (World.doorLaid Tryd.prog doorSteps os) #[.agg #[.int .i64 0, .int .i64 0, .slice none 0 0], .agg #[.int .i64 0, .int .i64 0, .slice none 0 0], .int .u8 0, .slice none 0 0, .agg #[.int .i64 0, .int .i64 0, .int .u32 0]] 8 rfl (World.shaped_of_RefB (by kernel_rfl) (by kernel_rfl)) (by kernel_rfl) (by kernel_rfl) (by kernel_rfl) (door_met os _)) ?_
  intro W base args ds gs before hval0 hW _ _ hL _
  have hval : ∀ (j : Nat) t v, Tryd.f3.params[j]? = some t → args[j]? = some v → Value.okWide Tryd.prog W .any base t v := hval0
  have hfin := fun W' => law_post (enc := enc) (P := Tryd.prog) (f := Tryd.f3) (s := Rows.superSwapsSpec) (tb := 4) (W := W) (W' := W') (args := args) (ds := ds) (gs := gs) (before := before) laidOut rfl (by kernel_rfl) Tryd.underlying4 (by kernel_rfl) (fun xs h => by rw [Tryd.params3] at h; match xs, h with | [_, _, _, _, _], _ => rfl) hW
  have hlt : ∀ x ∈ before, x.block < W.heap.size := fun x hx => hW.lt x hx
  obtain ⟨p, q, hA0, hV, rfl, hfz, hnd⟩ := hW
  have hA : DataW.TrodAll enc Tryd.prog W 0 (fun _ => true) true Tryd.f3.params.toList args.toList ds p := hA0
  rw [Tryd.params3] at hA hval
  obtain ⟨v0, vs0, d0, ds0, p0, q0, hargs, rfl, rfl, h0, r0⟩ := trodAll_cons hA
  obtain ⟨v1, vs1, d1, ds1, p1, q1, rfl, rfl, rfl, h1, r1⟩ := trodAll_cons r0
  obtain ⟨v2, vs2, d2, ds2, p2, q2, rfl, rfl, rfl, h2, r2⟩ := trodAll_cons r1
  obtain ⟨v3, vs3, d3, ds3, p3, q3, rfl, rfl, rfl, h3, r3⟩ := trodAll_cons r2
  obtain ⟨v4, vs4, d4, ds4, p4, q4, rfl, rfl, rfl, h4, r4⟩ := trodAll_cons r3
  obtain ⟨rfl, rfl, rfl⟩ := trodAll_nil r4
  obtain rfl : args = #[v0, v1, v2, v3, v4] := by cases args; simp_all
  obtain ⟨g0, o0, A0, cap0, l0, rfl, hl0, hm0, hB0⟩ := open_table (hval 0 24 v0 rfl rfl) h0 (fun x hx => hlt x (by simp [hx]))
  obtain ⟨g1, o1, A1, cap1, l1, rfl, hl1, hm1, hB1⟩ := open_table (hval 1 24 v1 rfl rfl) h1 (fun x hx => hlt x (by simp [hx]))
  obtain ⟨a2, rfl, rfl, rfl, w2⟩ := open_int Tryd.underlying5 (hval 2 5 v2 rfl rfl) h2
  obtain ⟨A3, cap3, l3, rfl, hl3, hm3, hB3⟩ := open_bools (hval 3 25 v3 rfl rfl) h3 (fun x hx => hlt x (by simp [hx]))
  obtain ⟨x4, rfl, hb4, ht4, hu4⟩ := open_hurt (hval 4 28 v4 rfl rfl) h4
  refine (walk W (of_laid hL) g0 o0 A0 cap0 l0 hl0 hm0 hB0 g1 o1 A1 cap1 l1 hl1 hm1 hB1 a2 (bounds_u8 w2) A3 cap3 l3 hl3 hm3 hB3 x4 hb4 ht4 hu4).mono fun e W' ⟨he, hg⟩ => ?_
  subst he
  exact ⟨_, rfl, hfin W' hg⟩

theorem proved : Rows.SuperSwapsSaid :=
  OpenClaim.holds_of_wide 3 Tryd.f3 rfl rfl rfl rfl rfl rfl rfl ⟨rfl, rfl, rfl, rfl, rfl⟩ rfl rfl rfl rfl rfl (by kernel_rfl) Tryd.func3 (by kernel_rfl)
    (of_decide_eq_true (by kernel_rfl)) (by unfold Func.isWrapper; first | (rw [if_pos (by decide +kernel)]; kernel_rfl) | (rw [if_neg (by decide +kernel)]; exact ⟨rfl, rfl⟩))
    (fun os started H enc _ => lifted os started H enc)

set_option maxRecDepth 100000 in
theorem card : Rows.SuperSwapsCardSaid :=
  Claim7.holds_tied_plain_at .later [] laidKindsHere true _ false
    proved (fun _ h => by cases h) (by kernel_rfl) (fun _ h => by cases h) superSwaps_row_tie rfl ⟨rfl, rfl⟩ (by kernel_rfl) rfl
    (fun f fn hf hfn => by
      obtain rfl : f = 3 := Option.some.inj ((show Tryd.prog.funcNamed "turntable/turntablelaw10.SuperSwaps" = some 3 by kernel_rfl).symm.trans hf) |>.symm
      obtain rfl : fn = Tryd.f3 := (Option.some.inj (Tryd.func3.symm.trans hfn)).symm
      exact ⟨by kernel_rfl, fun j t ht => by
        rw [Tryd.params3] at ht
        have hm : t ∈ [24, 24, 5, 25, 28] := Array.mem_def.1 (Array.mem_of_getElem? ht)
        have hall : ([24, 24, 5, 25, 28].all fun u => !Tryd.prog.wantsStandIn u) = true := by kernel_rfl
        exact (show Tryd.prog.wantsStandIn t = false by simpa using List.all_eq_true.1 hall t hm)⟩)
    (by kernel_rfl)
#print axioms card
end Go.Proofs.YtehnhjnkbclnlaaDoor.superSwaps
