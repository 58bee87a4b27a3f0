/-
  P9.2, TableBack: for all tables and bytes the law returns true: a right table is got of its sector as it was; what is got of any bytes is right, and has them. No condition but that the program's table starts as its text lays it.
-/
import Derived.Test.YtbjaieopjkbijaaDoorL9S
import Derived.Test.YtbjaieopjkbijaaDoorLaid2
namespace Go.Proofs.YtbjaieopjkbijaaDoor.tableBack
open Go.ChangeShapes Go.WideShapes Go.ChangeAt Go.RowKit

set_option maxHeartbeats 4000000 in
set_option maxRecDepth 100000 in
theorem walkN (w : World) (hT : Tab w) (g o : Int) (A : Option Addr) (cap n : Nat) (xs : List Tb.Ext) (hn : xs.length = n) (hc : n ≤ cap) (hA : Lies w A (flatX xs)) (D : Option Addr) (dap m : Nat) (s : List UInt8) (hm : s.length = m) (hdc : m ≤ dap) (hD : Lies w D (cells s)) :
    Calls Tryd.prog 4 #[tabV g o A n cap, .slice D m dap] w fun e w' => e = .returned (.bool true) ∧ Below w.heap.size w w' := by
  have HX0 := Lib.hid (Blk.new w #[.int .i64 g, .int .i64 o, .slice A n cap] 24)
  have B0 := Lib.hid ((Below.refl w.heap.size w).alloc (Nat.le_refl _) (.cells #[.int .i64 g, .int .i64 o, .slice A n cap] 24))
  have HA0 := Lib.hid (hA.below B0.out)
  have HD0 := Lib.hid (hD.below B0.out)
  have HT0 := Lib.hid (hT.below B0.out (Nat.le_refl _))
  have HN := Lib.hid hn
  have HM := Lib.hid hm
  have HCD0 := Lib.hid (fun (W : World) (h : Lies W D (cells s)) => conv_at h m dap hm)
  obtain ⟨SS, hSS⟩ : ∃ SS, str s = SS := ⟨_, rfl⟩
  have HSS := Lib.hid hSS
  rw [hSS] at HCD0
  clear hA hT hn hm hD hSS
  go_enter Tryd.func4, Tryd.ntmps4
  go_wp2_with fail
  generalize w.alloc (.cells #[.int .i64 g, .int .i64 o, .slice A n cap] 24) = w0 at *
  refine (head_any w0 HT0.out).mono ?_
  rintro e w1 ⟨rfl, b1⟩
  have HX1 := Lib.hid (HX0.out.below b1 (Nat.le_refl _))
  have HA1 := Lib.hid (HA0.out.below b1)
  have HD1 := Lib.hid (HD0.out.below b1)
  have HT1 := Lib.hid (HT0.out.below b1 (Nat.le_refl _))
  have B1 := Lib.hid (B0.out.trans (b1.mono B0.out.size))
  clear b1
  obtain ⟨z0, z1, z2⟩ := HX1.out.three
  by_cases h3 : 300 < n
  · have hd1 : decide ((300 : Int) < (n : Int)) = true := by simp; omega
    clear h3
    go_wp2
    go_ret
    exact ⟨rfl, B1.out⟩
  have hd1 : decide ((300 : Int) < (n : Int)) = false := by simp; omega
  by_cases h9 : 900 < m
  · have hd2 : decide ((900 : Int) < (m : Int)) = true := by simp; omega
    clear h3 h9
    go_wp2
    go_ret
    exact ⟨rfl, B1.out⟩
  have hd2 : decide ((900 : Int) < (m : Int)) = false := by simp; omega
  have hn1000 : n ≤ 1000 := by omega
  clear h3 h9
  by_cases hr : Tb.right ⟨g, o, xs⟩ = true
  · have HR := Lib.hid hr
    have HPL := Lib.hid (show (Tb.put ⟨g, o, xs⟩).length = 64 by rw [Tb.put_length, if_pos hr])
    have HGT := Lib.hid (Tb.got_put hr)
    have HOK := Lib.hid (Tb.ok_put hr)
    have HPT := Lib.hid (tput_yes0 g o A cap n xs w1 HN.out hc HA1.out HT1.out hr)
    generalize Tb.put ⟨g, o, xs⟩ = P at *
    clear hr
    go_wp2_with fail
    refine HPT.out.mono ?_
    rintro e w2 ⟨gs, rfl, -, hb2, b2⟩
    have HX2 := Lib.hid (HX1.out.below b2 (Nat.le_refl _))
    have HA2 := Lib.hid (HA1.out.below b2)
    have HD2 := Lib.hid (HD1.out.below b2)
    have HT2 := Lib.hid (HT1.out.below b2 (Nat.le_refl _))
    have B2 := Lib.hid (B1.out.trans (b2.mono B1.out.size))
    have HP2 := Lib.hid hb2
    clear b2 hb2 z0 z1 z2 hd1 hd2 HPT
    obtain ⟨z0, z1, z2⟩ := HX2.out.three
    go_wp2_with fail
    refine (tright_is g o A cap n xs w2 true HN.out hc HA2.out HR.out).mono ?_
    rintro e w3 ⟨rfl, b3⟩
    have HX3 := Lib.hid (HX2.out.below b3 (Nat.le_refl _))
    have HA3 := Lib.hid (HA2.out.below b3)
    have HD3 := Lib.hid (HD2.out.below b3)
    have HT3 := Lib.hid (HT2.out.below b3 (Nat.le_refl _))
    have B3 := Lib.hid (B2.out.trans (b3.mono B2.out.size))
    have HP3 := Lib.hid (HP2.out.below b3 (Nat.le_refl _))
    clear b3 z0 z1 z2
    go_wp2_with fail
    refine (tget_is _ 64 64 n P g o xs true w3 HPL.out (Nat.le_refl _) HP3.out.liesAll HT3.out HGT.out HOK.out HN.out).mono ?_
    rintro e w4 ⟨A4, c4, rfl, hc4, hA4, b4⟩
    have hx4 := Blk.new w4 #[.int .i64 g, .int .i64 o, .slice A4 n c4] 24
    have ba : Below w4.heap.size w4 (w4.alloc (.cells #[.int .i64 g, .int .i64 o, .slice A4 n c4] 24)) := (Below.refl _ _).alloc (Nat.le_refl _) _
    have bb := b4.trans (ba.mono b4.size)
    have HX4 := Lib.hid (HX3.out.below bb (Nat.le_refl _))
    have HA4 := Lib.hid (HA3.out.below bb)
    have HD4 := Lib.hid (HD3.out.below bb)
    have HT4 := Lib.hid (HT3.out.below bb (Nat.le_refl _))
    have B4 := Lib.hid (B3.out.trans (bb.mono B3.out.size))
    have HY4 := Lib.hid hx4
    have HAY4 := Lib.hid (hA4.below ba)
    clear hx4 ba bb b4 hA4 hc4
    obtain ⟨z0, z1, z2⟩ := HX4.out.three
    obtain ⟨y0, y1, y2⟩ := HY4.out.three
    go_wp2_with fail
    generalize w4.alloc (.cells #[.int .i64 g, .int .i64 o, .slice A4 n c4] 24) = w5 at *
    refine (rsame_is g o A4 c4 n xs g o A cap n xs w5 true HN.out HN.out hn1000 HAY4.out HA4.out (decide_eq_true rfl)).mono ?_
    rintro e w6 ⟨rfl, b6⟩
    have HD6 := Lib.hid (HD4.out.below b6)
    have HT6 := Lib.hid (HT4.out.below b6 (Nat.le_refl _))
    have B6 := Lib.hid (B4.out.trans (b6.mono B4.out.size))
    clear b6 z0 z1 z2 y0 y1 y2
    by_cases hok : Tb.ok s = true
    · obtain ⟨yg, yo, ys, hgs⟩ : ∃ yg yo ys, Tb.got s = ⟨yg, yo, ys⟩ := ⟨_, _, _, rfl⟩
      obtain ⟨yn, hyn⟩ : ∃ yn, ys.length = yn := ⟨_, rfl⟩
      have hts : Tb.told s = ⟨yg, yo, ys⟩ := by rw [← hgs]; unfold Tb.got; rw [if_pos hok]
      obtain ⟨hyr, hyp⟩ := Tb.ok_back hok
      rw [hts] at hyr hyp
      have HG := Lib.hid (tget_is D dap m yn s yg yo ys true w6 HM.out hdc HD6.out HT6.out hgs hok hyn)
      clear hok hgs hts
      go_wp2_with fail
      refine HG.out.mono ?_
      rintro e wA ⟨YA, yc, rfl, hyc, hya, b5⟩
      have ba : Below wA.heap.size wA (wA.alloc (.cells #[.int .i64 yg, .int .i64 yo, .slice YA yn yc] 24)) := (Below.refl _ _).alloc (Nat.le_refl _) _
      have bx := Blk.new wA #[.int .i64 yg, .int .i64 yo, .slice YA yn yc] 24
      have bb := b5.trans (ba.mono b5.size)
      have BB := Lib.hid (B6.out.trans (bb.mono B6.out.size))
      have HYB := Lib.hid (fun (W : World) (hW : Below (wA.alloc (.cells #[.int .i64 yg, .int .i64 yo, .slice YA yn yc] 24)).heap.size (wA.alloc (.cells #[.int .i64 yg, .int .i64 yo, .slice YA yn yc] 24)) W) => bx.below hW (Nat.le_refl _))
      have HYR := Lib.hid (fun (W : World) (hW : Below (wA.alloc (.cells #[.int .i64 yg, .int .i64 yo, .slice YA yn yc] 24)).heap.size (wA.alloc (.cells #[.int .i64 yg, .int .i64 yo, .slice YA yn yc] 24)) W) => tright_is yg yo YA yc yn ys W true hyn hyc ((hya.below ba).below hW) hyr)
      have HYP := Lib.hid (fun (W : World) (hW : Below (wA.alloc (.cells #[.int .i64 yg, .int .i64 yo, .slice YA yn yc] 24)).heap.size (wA.alloc (.cells #[.int .i64 yg, .int .i64 yo, .slice YA yn yc] 24)) W) => tput_lies yg yo YA yc yn m ys W hyn hyc (by rw [hyp]; exact HM.out) ((hya.below ba).below hW) ((HT6.out.below bb (Nat.le_refl _)).below hW (Nat.le_refl _)))
      have HCD := Lib.hid (fun (W : World) (hW : Below (wA.alloc (.cells #[.int .i64 yg, .int .i64 yo, .slice YA yn yc] 24)).heap.size (wA.alloc (.cells #[.int .i64 yg, .int .i64 yo, .slice YA yn yc] 24)) W) => HCD0.out W ((HD6.out.below bb).below hW))
      rw [hyp] at HYP
      clear bx ba bb b5 hya hyc hyp hyr hyn HG
      go_wp2
      generalize wA.alloc (.cells #[.int .i64 yg, .int .i64 yo, .slice YA yn yc] 24) = wB at *
      generalize wA.heap.size = YB at *
      refine wp_softS (by kernel_rfl) 86 [(61, [5]), (62, [61]), (63, [10, 62]), (64, [63, 62]), (65, [64, 62]), (66, [9, 65]), (67, [65]), (68, [66, 67, 65]), (69, [65, 68, 62]), (70, [69, 62]), (71, [10, 70]), (72, [71, 70]), (73, [9, 72]), (74, [73, 72]), (75, [72, 74, 70]), (76, [75, 70]), (77, [9, 76]), (78, [77, 76]), (79, [78, 76]), (80, [1, 76]), (81, [80, 76]), (82, [79, 81, 76]), (83, [76, 82, 70]), (84, [70, 83, 62]), (85, [62, 84]), (4, [85])]
        [Fact.is (.bool true), Fact.is (.bool true), Fact.is (.bool true), Fact.is (.bool false), Fact.is (.bool false), Fact.is (undef), Fact.is (undef), Fact.is (undef), Fact.is (.bool false), Fact.is (.bool false), Fact.is (.bool true), Fact.is (.bool true), Fact.is (tabV yg yo YA yn yc), Fact.is (.bool true), Fact.is (.bool true), Fact.is (.bool true), Fact.is (tabV yg yo YA yn yc), Fact.lies s m, Fact.is (.string SS), Fact.is (.slice D m dap), Fact.is (.string SS), Fact.is (.bool true), Fact.is (.bool true), Fact.is (.bool true), Fact.is (.bool true), Fact.is (.bool true)]
        (by kernel_rfl) rfl rfl ⟨?s0, ?s1, ?s2, ?s3, ?s4, ?s5, ?s6, ?s7, ?s8, ?s9, ?s10, ?s11, ?s12, ?s13, ?s14, ?s15, ?s16, ?s17, ?s18, ?s19, ?s20, ?s21, ?s22, ?s23, ?s24, ?s25, trivial⟩ ?fin
      case s0 =>
        intro ρ W hb hc hf hr
        obtain ⟨r5, -⟩ := hr
        have e5 : ρ (.tmp 5) = .bool true := r5
        clear r5
        refine under_none rfl ?_
        exact ⟨e5, Below.refl _ _⟩
      case s1 =>
        intro ρ W hb hc hf hr
        obtain ⟨r61, -⟩ := hr
        have e61 : ρ (.tmp 61) = .bool true := r61
        clear r61
        refine under_none rfl ?_
        exact ⟨e61, Below.refl _ _⟩
      case s2 =>
        intro ρ W hb hc hf hr
        obtain ⟨r10, r62, -⟩ := hr
        have e10 : ρ (.tmp 10) = .bool true := r10
        clear r10
        have e62 : ρ (.tmp 62) = .bool true := r62
        clear r62
        refine ⟨62, rfl, .inl ⟨e62, ?_⟩⟩
        exact ⟨e10, Below.refl _ _⟩
      case s3 =>
        intro ρ W hb hc hf hr
        obtain ⟨r63, r62, -⟩ := hr
        have e63 : ρ (.tmp 63) = .bool true := r63
        clear r63
        have e62 : ρ (.tmp 62) = .bool true := r62
        clear r62
        refine ⟨62, rfl, .inl ⟨e62, ?_⟩⟩
        simp [execOp, e63, go_sem, softUpon, Fact.is, Below.refl]
      case s4 =>
        intro ρ W hb hc hf hr
        obtain ⟨r64, r62, -⟩ := hr
        have e64 : ρ (.tmp 64) = .bool false := r64
        clear r64
        have e62 : ρ (.tmp 62) = .bool true := r62
        clear r62
        refine ⟨62, rfl, .inl ⟨e62, ?_⟩⟩
        exact ⟨e64, Below.refl _ _⟩
      case s5 =>
        intro ρ W hb hc hf hr
        obtain ⟨r9, r65, -⟩ := hr
        have e9 : ρ (.tmp 9) = .pointer (some ⟨YB, 0, none⟩) := r9
        clear r9
        have e65 : ρ (.tmp 65) = .bool false := r65
        clear r65
        exact ⟨65, rfl, .inr (.inl ⟨e65, rfl⟩)⟩
      case s6 =>
        intro ρ W hb hc hf hr
        obtain ⟨r65, -⟩ := hr
        have e65 : ρ (.tmp 65) = .bool false := r65
        clear r65
        exact ⟨65, rfl, .inr (.inl ⟨e65, rfl⟩)⟩
      case s7 =>
        intro ρ W hb hc hf hr
        obtain ⟨r66, r67, r65, -⟩ := hr
        have e66 : ρ (.tmp 66) = undef := r66
        clear r66
        have e67 : ρ (.tmp 67) = undef := r67
        clear r67
        have e65 : ρ (.tmp 65) = .bool false := r65
        clear r65
        exact ⟨65, rfl, .inr (.inl ⟨e65, rfl⟩)⟩
      case s8 =>
        intro ρ W hb hc hf hr
        obtain ⟨r65, r68, r62, -⟩ := hr
        have e65 : ρ (.tmp 65) = .bool false := r65
        clear r65
        have e68 : ρ (.tmp 68) = undef := r68
        clear r68
        have e62 : ρ (.tmp 62) = .bool true := r62
        clear r62
        refine ⟨62, rfl, .inl ⟨e62, ?_⟩⟩
        simp [execOp, e65, hc, go_sem, softUpon, Fact.is, Below.refl]
      case s9 =>
        intro ρ W hb hc hf hr
        obtain ⟨r69, r62, -⟩ := hr
        have e69 : ρ (.tmp 69) = .bool false := r69
        clear r69
        have e62 : ρ (.tmp 62) = .bool true := r62
        clear r62
        refine ⟨62, rfl, .inl ⟨e62, ?_⟩⟩
        exact ⟨e69, Below.refl _ _⟩
      case s10 =>
        intro ρ W hb hc hf hr
        obtain ⟨r10, r70, -⟩ := hr
        have e10 : ρ (.tmp 10) = .bool true := r10
        clear r10
        have e70 : ρ (.tmp 70) = .bool false := r70
        clear r70
        refine ⟨70, rfl, .inl ⟨e70, ?_⟩⟩
        exact ⟨e10, Below.refl _ _⟩
      case s11 =>
        intro ρ W hb hc hf hr
        obtain ⟨r71, r70, -⟩ := hr
        have e71 : ρ (.tmp 71) = .bool true := r71
        clear r71
        have e70 : ρ (.tmp 70) = .bool false := r70
        clear r70
        refine ⟨70, rfl, .inl ⟨e70, ?_⟩⟩
        exact ⟨e71, Below.refl _ _⟩
      case s12 =>
        intro ρ W hb hc hf hr
        obtain ⟨r9, r72, -⟩ := hr
        have e9 : ρ (.tmp 9) = .pointer (some ⟨YB, 0, none⟩) := r9
        clear r9
        have e72 : ρ (.tmp 72) = .bool true := r72
        clear r72
        refine ⟨72, rfl, .inl ⟨e72, ?_⟩⟩
        exact soft_load e9 (load_tab W YB yg yo YA yn yc (HYB.out W (undrew hb))) rfl
      case s13 =>
        intro ρ W hb hc hf hr
        obtain ⟨r73, r72, -⟩ := hr
        have e73 : ρ (.tmp 73) = tabV yg yo YA yn yc := r73
        clear r73
        have e72 : ρ (.tmp 72) = .bool true := r72
        clear r72
        refine ⟨72, rfl, .inl ⟨e72, ?_⟩⟩
        exact soft_call1 hf e73 (HYR.out W (undrew hb)) rfl (by kernel_rfl) below_is
      case s14 =>
        intro ρ W hb hc hf hr
        obtain ⟨r72, r74, r70, -⟩ := hr
        have e72 : ρ (.tmp 72) = .bool true := r72
        clear r72
        have e74 : ρ (.tmp 74) = .bool true := r74
        clear r74
        have e70 : ρ (.tmp 70) = .bool false := r70
        clear r70
        refine ⟨70, rfl, .inl ⟨e70, ?_⟩⟩
        simp [execOp, e72, e74, go_sem, softUpon, Fact.is, Below.refl]
      case s15 =>
        intro ρ W hb hc hf hr
        obtain ⟨r75, r70, -⟩ := hr
        have e75 : ρ (.tmp 75) = .bool true := r75
        clear r75
        have e70 : ρ (.tmp 70) = .bool false := r70
        clear r70
        refine ⟨70, rfl, .inl ⟨e70, ?_⟩⟩
        exact ⟨e75, Below.refl _ _⟩
      case s16 =>
        intro ρ W hb hc hf hr
        obtain ⟨r9, r76, -⟩ := hr
        have e9 : ρ (.tmp 9) = .pointer (some ⟨YB, 0, none⟩) := r9
        clear r9
        have e76 : ρ (.tmp 76) = .bool true := r76
        clear r76
        refine ⟨76, rfl, .inl ⟨e76, ?_⟩⟩
        exact soft_load e9 (load_tab W YB yg yo YA yn yc (HYB.out W (undrew hb))) rfl
      case s17 =>
        intro ρ W hb hc hf hr
        obtain ⟨r77, r76, -⟩ := hr
        have e77 : ρ (.tmp 77) = tabV yg yo YA yn yc := r77
        clear r77
        have e76 : ρ (.tmp 76) = .bool true := r76
        clear r76
        refine ⟨76, rfl, .inl ⟨e76, ?_⟩⟩
        exact soft_call1 hf e77 (HYP.out W (undrew hb)) rfl (by kernel_rfl) lies_is
      case s18 =>
        intro ρ W hb hc hf hr
        obtain ⟨r78, r76, -⟩ := hr
        have e76 : ρ (.tmp 76) = .bool true := r76
        clear r76
        refine ⟨76, rfl, .inl ⟨e76, ?_⟩⟩
        exact soft_lies r78 HM.out HSS.out rfl
      case s19 =>
        intro ρ W hb hc hf hr
        obtain ⟨r1, r76, -⟩ := hr
        have e1 : ρ (.tmp 1) = .slice D m dap := r1
        clear r1
        have e76 : ρ (.tmp 76) = .bool true := r76
        clear r76
        refine ⟨76, rfl, .inl ⟨e76, ?_⟩⟩
        exact ⟨e1, Below.refl _ _⟩
      case s20 =>
        intro ρ W hb hc hf hr
        obtain ⟨r80, r76, -⟩ := hr
        have e80 : ρ (.tmp 80) = .slice D m dap := r80
        clear r80
        have e76 : ρ (.tmp 76) = .bool true := r76
        clear r76
        refine ⟨76, rfl, .inl ⟨e76, ?_⟩⟩
        exact soft_conv e80 (HCD.out W (undrew hb)) rfl
      case s21 =>
        intro ρ W hb hc hf hr
        obtain ⟨r79, r81, r76, -⟩ := hr
        have e79 : ρ (.tmp 79) = .string SS := r79
        clear r79
        have e81 : ρ (.tmp 81) = .string SS := r81
        clear r81
        have e76 : ρ (.tmp 76) = .bool true := r76
        clear r76
        refine ⟨76, rfl, .inl ⟨e76, ?_⟩⟩
        exact soft_bin e79 e81 rfl rfl (eqs9 W SS)
      case s22 =>
        intro ρ W hb hc hf hr
        obtain ⟨r76, r82, r70, -⟩ := hr
        have e76 : ρ (.tmp 76) = .bool true := r76
        clear r76
        have e82 : ρ (.tmp 82) = .bool true := r82
        clear r82
        have e70 : ρ (.tmp 70) = .bool false := r70
        clear r70
        refine ⟨70, rfl, .inl ⟨e70, ?_⟩⟩
        simp [execOp, e76, e82, go_sem, softUpon, Fact.is, Below.refl]
      case s23 =>
        intro ρ W hb hc hf hr
        obtain ⟨r70, r83, r62, -⟩ := hr
        have e70 : ρ (.tmp 70) = .bool false := r70
        clear r70
        have e83 : ρ (.tmp 83) = .bool true := r83
        clear r83
        have e62 : ρ (.tmp 62) = .bool true := r62
        clear r62
        refine ⟨62, rfl, .inl ⟨e62, ?_⟩⟩
        simp [execOp, e70, e83, go_sem, softUpon, Fact.is, Below.refl]
      case s24 =>
        intro ρ W hb hc hf hr
        obtain ⟨r62, r84, -⟩ := hr
        have e62 : ρ (.tmp 62) = .bool true := r62
        clear r62
        have e84 : ρ (.tmp 84) = .bool true := r84
        clear r84
        refine under_none rfl ?_
        simp [execOp, e62, e84, go_sem, softUpon, Fact.is, Below.refl]
      case s25 =>
        intro ρ W hb hc hf hr
        obtain ⟨r85, -⟩ := hr
        have e85 : ρ (.tmp 85) = .bool true := r85
        clear r85
        refine under_none rfl ?_
        exact ⟨e85, Below.refl _ _⟩
      case fin =>
        intro a w1 hb hd hsz hk
        have ea := act_puts hd hsz rfl hk
        have k61 : a.tmps.getD 61 undef = .bool true := hk 61
        have k62 : a.tmps.getD 62 undef = .bool true := hk 62
        have k63 : a.tmps.getD 63 undef = .bool true := hk 63
        have k64 : a.tmps.getD 64 undef = .bool false := hk 64
        have k65 : a.tmps.getD 65 undef = .bool false := hk 65
        have k66 : a.tmps.getD 66 undef = undef := hk 66
        have k67 : a.tmps.getD 67 undef = undef := hk 67
        have k68 : a.tmps.getD 68 undef = undef := hk 68
        have k69 : a.tmps.getD 69 undef = .bool false := hk 69
        have k70 : a.tmps.getD 70 undef = .bool false := hk 70
        have k71 : a.tmps.getD 71 undef = .bool true := hk 71
        have k72 : a.tmps.getD 72 undef = .bool true := hk 72
        have k73 : a.tmps.getD 73 undef = tabV yg yo YA yn yc := hk 73
        have k74 : a.tmps.getD 74 undef = .bool true := hk 74
        have k75 : a.tmps.getD 75 undef = .bool true := hk 75
        have k76 : a.tmps.getD 76 undef = .bool true := hk 76
        have k77 : a.tmps.getD 77 undef = tabV yg yo YA yn yc := hk 77
        have k78 : (Fact.lies s m).φ (a.tmps.getD 78 undef) w1 := hk 78
        have k79 : a.tmps.getD 79 undef = .string SS := hk 79
        have k80 : a.tmps.getD 80 undef = .slice D m dap := hk 80
        have k81 : a.tmps.getD 81 undef = .string SS := hk 81
        have k82 : a.tmps.getD 82 undef = .bool true := hk 82
        have k83 : a.tmps.getD 83 undef = .bool true := hk 83
        have k84 : a.tmps.getD 84 undef = .bool true := hk 84
        have k85 : a.tmps.getD 85 undef = .bool true := hk 85
        have k4 : a.tmps.getD 4 undef = .bool true := hk 4
        clear hk hd hsz
        simp only [List.map_cons, List.map_nil, List.foldl_cons, List.foldl_nil, k61, k62, k63, k64, k65, k66, k67, k68, k69, k70, k71, k72, k73, k74, k75, k76, k77, k79, k80, k81, k82, k83, k84, k85, k4] at ea
        clear k61 k62 k63 k64 k65 k66 k67 k68 k69 k70 k71 k72 k73 k74 k75 k76 k77 k79 k80 k81 k82 k83 k84 k85 k4
        generalize a.tmps.getD 78 undef = v78 at ea k78
        simp only [Act.put, List.setIfInBounds_toArray, List.set_cons_succ, List.set_cons_zero] at ea
        subst ea
        have c5 := BB.out.trans ((undrew hb).mono BB.out.size)
        go_wp2
        go_ret
        exact ⟨rfl, c5⟩
    · have HOK := Lib.hid (show Tb.ok s = false by simpa using hok)
      have HG := Lib.hid (tget_is D dap m 0 s 0 0 [] false w6 HM.out hdc HD6.out HT6.out (by unfold Tb.got; rw [if_neg (by rw [HOK.out]; simp)]; rfl) HOK.out rfl)
      clear hok
      go_wp2_with fail
      refine HG.out.mono ?_
      rintro e wA ⟨YA, yc, rfl, hyc, -, b5⟩
      have ba : Below wA.heap.size wA (wA.alloc (.cells #[.int .i64 0, .int .i64 0, .slice YA 0 yc] 24)) := (Below.refl _ _).alloc (Nat.le_refl _) _
      have bx := Blk.new wA #[.int .i64 0, .int .i64 0, .slice YA 0 yc] 24
      have bb := b5.trans (ba.mono b5.size)
      have BB := Lib.hid (B6.out.trans (bb.mono B6.out.size))
      have HYB := Lib.hid (fun (W : World) (hW : Below (wA.alloc (.cells #[.int .i64 0, .int .i64 0, .slice YA 0 yc] 24)).heap.size (wA.alloc (.cells #[.int .i64 0, .int .i64 0, .slice YA 0 yc] 24)) W) => bx.below hW (Nat.le_refl _))
      have HSM := Lib.hid (fun (W : World) => rsame_is 0 0 YA yc 0 [] 0 0 none 0 0 [] W true rfl rfl (by omega) Lies.nil Lies.nil (decide_eq_true rfl))
      clear bx ba bb b5 hyc HG
      go_wp2
      generalize wA.alloc (.cells #[.int .i64 0, .int .i64 0, .slice YA 0 yc] 24) = wB at *
      generalize wA.heap.size = YB at *
      refine wp_softS (by kernel_rfl) 86 [(61, [5]), (62, [61]), (63, [10, 62]), (64, [63, 62]), (65, [64, 62]), (66, [9, 65]), (67, [65]), (68, [66, 67, 65]), (69, [65, 68, 62]), (70, [69, 62]), (71, [10, 70]), (72, [71, 70]), (73, [9, 72]), (74, [73, 72]), (75, [72, 74, 70]), (76, [75, 70]), (77, [9, 76]), (78, [77, 76]), (79, [78, 76]), (80, [1, 76]), (81, [80, 76]), (82, [79, 81, 76]), (83, [76, 82, 70]), (84, [70, 83, 62]), (85, [62, 84]), (4, [85])]
        [Fact.is (.bool true), Fact.is (.bool true), Fact.is (.bool false), Fact.is (.bool true), Fact.is (.bool true), Fact.is (tabV 0 0 YA 0 yc), Fact.is (tabV 0 0 none 0 0), Fact.is (.bool true), Fact.is (.bool true), Fact.is (.bool true), Fact.is (undef), Fact.is (undef), Fact.is (undef), Fact.is (undef), Fact.is (undef), Fact.is (undef), Fact.is (undef), Fact.is (undef), Fact.is (undef), Fact.is (undef), Fact.is (undef), Fact.is (undef), Fact.is (undef), Fact.is (.bool true), Fact.is (.bool true), Fact.is (.bool true)]
        (by kernel_rfl) rfl rfl ⟨?s0, ?s1, ?s2, ?s3, ?s4, ?s5, ?s6, ?s7, ?s8, ?s9, ?s10, ?s11, ?s12, ?s13, ?s14, ?s15, ?s16, ?s17, ?s18, ?s19, ?s20, ?s21, ?s22, ?s23, ?s24, ?s25, trivial⟩ ?fin
      case s0 =>
        intro ρ W hb hc hf hr
        obtain ⟨r5, -⟩ := hr
        have e5 : ρ (.tmp 5) = .bool true := r5
        clear r5
        refine under_none rfl ?_
        exact ⟨e5, Below.refl _ _⟩
      case s1 =>
        intro ρ W hb hc hf hr
        obtain ⟨r61, -⟩ := hr
        have e61 : ρ (.tmp 61) = .bool true := r61
        clear r61
        refine under_none rfl ?_
        exact ⟨e61, Below.refl _ _⟩
      case s2 =>
        intro ρ W hb hc hf hr
        obtain ⟨r10, r62, -⟩ := hr
        have e10 : ρ (.tmp 10) = .bool false := r10
        clear r10
        have e62 : ρ (.tmp 62) = .bool true := r62
        clear r62
        refine ⟨62, rfl, .inl ⟨e62, ?_⟩⟩
        exact ⟨e10, Below.refl _ _⟩
      case s3 =>
        intro ρ W hb hc hf hr
        obtain ⟨r63, r62, -⟩ := hr
        have e63 : ρ (.tmp 63) = .bool false := r63
        clear r63
        have e62 : ρ (.tmp 62) = .bool true := r62
        clear r62
        refine ⟨62, rfl, .inl ⟨e62, ?_⟩⟩
        simp [execOp, e63, go_sem, softUpon, Fact.is, Below.refl]
      case s4 =>
        intro ρ W hb hc hf hr
        obtain ⟨r64, r62, -⟩ := hr
        have e64 : ρ (.tmp 64) = .bool true := r64
        clear r64
        have e62 : ρ (.tmp 62) = .bool true := r62
        clear r62
        refine ⟨62, rfl, .inl ⟨e62, ?_⟩⟩
        exact ⟨e64, Below.refl _ _⟩
      case s5 =>
        intro ρ W hb hc hf hr
        obtain ⟨r9, r65, -⟩ := hr
        have e9 : ρ (.tmp 9) = .pointer (some ⟨YB, 0, none⟩) := r9
        clear r9
        have e65 : ρ (.tmp 65) = .bool true := r65
        clear r65
        refine ⟨65, rfl, .inl ⟨e65, ?_⟩⟩
        exact soft_load e9 (load_tab W YB 0 0 YA 0 yc (HYB.out W (undrew hb))) rfl
      case s6 =>
        intro ρ W hb hc hf hr
        obtain ⟨r65, -⟩ := hr
        have e65 : ρ (.tmp 65) = .bool true := r65
        clear r65
        refine ⟨65, rfl, .inl ⟨e65, ?_⟩⟩
        exact zeroT_build rfl
      case s7 =>
        intro ρ W hb hc hf hr
        obtain ⟨r66, r67, r65, -⟩ := hr
        have e66 : ρ (.tmp 66) = tabV 0 0 YA 0 yc := r66
        clear r66
        have e67 : ρ (.tmp 67) = tabV 0 0 none 0 0 := r67
        clear r67
        have e65 : ρ (.tmp 65) = .bool true := r65
        clear r65
        refine ⟨65, rfl, .inl ⟨e65, ?_⟩⟩
        exact soft_call2 hf e66 e67 (HSM.out W) rfl (by kernel_rfl) below_is
      case s8 =>
        intro ρ W hb hc hf hr
        obtain ⟨r65, r68, r62, -⟩ := hr
        have e65 : ρ (.tmp 65) = .bool true := r65
        clear r65
        have e68 : ρ (.tmp 68) = .bool true := r68
        clear r68
        have e62 : ρ (.tmp 62) = .bool true := r62
        clear r62
        refine ⟨62, rfl, .inl ⟨e62, ?_⟩⟩
        simp [execOp, e65, e68, go_sem, softUpon, Fact.is, Below.refl]
      case s9 =>
        intro ρ W hb hc hf hr
        obtain ⟨r69, r62, -⟩ := hr
        have e69 : ρ (.tmp 69) = .bool true := r69
        clear r69
        have e62 : ρ (.tmp 62) = .bool true := r62
        clear r62
        refine ⟨62, rfl, .inl ⟨e62, ?_⟩⟩
        exact ⟨e69, Below.refl _ _⟩
      case s10 =>
        intro ρ W hb hc hf hr
        obtain ⟨r10, r70, -⟩ := hr
        have e10 : ρ (.tmp 10) = .bool false := r10
        clear r10
        have e70 : ρ (.tmp 70) = .bool true := r70
        clear r70
        exact ⟨70, rfl, .inr (.inl ⟨e70, rfl⟩)⟩
      case s11 =>
        intro ρ W hb hc hf hr
        obtain ⟨r71, r70, -⟩ := hr
        have e71 : ρ (.tmp 71) = undef := r71
        clear r71
        have e70 : ρ (.tmp 70) = .bool true := r70
        clear r70
        exact ⟨70, rfl, .inr (.inl ⟨e70, rfl⟩)⟩
      case s12 =>
        intro ρ W hb hc hf hr
        obtain ⟨r9, r72, -⟩ := hr
        have e9 : ρ (.tmp 9) = .pointer (some ⟨YB, 0, none⟩) := r9
        clear r9
        have e72 : ρ (.tmp 72) = undef := r72
        clear r72
        exact ⟨72, rfl, .inr (.inr ⟨e72, rfl⟩)⟩
      case s13 =>
        intro ρ W hb hc hf hr
        obtain ⟨r73, r72, -⟩ := hr
        have e73 : ρ (.tmp 73) = undef := r73
        clear r73
        have e72 : ρ (.tmp 72) = undef := r72
        clear r72
        exact ⟨72, rfl, .inr (.inr ⟨e72, rfl⟩)⟩
      case s14 =>
        intro ρ W hb hc hf hr
        obtain ⟨r72, r74, r70, -⟩ := hr
        have e72 : ρ (.tmp 72) = undef := r72
        clear r72
        have e74 : ρ (.tmp 74) = undef := r74
        clear r74
        have e70 : ρ (.tmp 70) = .bool true := r70
        clear r70
        exact ⟨70, rfl, .inr (.inl ⟨e70, rfl⟩)⟩
      case s15 =>
        intro ρ W hb hc hf hr
        obtain ⟨r75, r70, -⟩ := hr
        have e75 : ρ (.tmp 75) = undef := r75
        clear r75
        have e70 : ρ (.tmp 70) = .bool true := r70
        clear r70
        exact ⟨70, rfl, .inr (.inl ⟨e70, rfl⟩)⟩
      case s16 =>
        intro ρ W hb hc hf hr
        obtain ⟨r9, r76, -⟩ := hr
        have e9 : ρ (.tmp 9) = .pointer (some ⟨YB, 0, none⟩) := r9
        clear r9
        have e76 : ρ (.tmp 76) = undef := r76
        clear r76
        exact ⟨76, rfl, .inr (.inr ⟨e76, rfl⟩)⟩
      case s17 =>
        intro ρ W hb hc hf hr
        obtain ⟨r77, r76, -⟩ := hr
        have e77 : ρ (.tmp 77) = undef := r77
        clear r77
        have e76 : ρ (.tmp 76) = undef := r76
        clear r76
        exact ⟨76, rfl, .inr (.inr ⟨e76, rfl⟩)⟩
      case s18 =>
        intro ρ W hb hc hf hr
        obtain ⟨r78, r76, -⟩ := hr
        have e78 : ρ (.tmp 78) = undef := r78
        clear r78
        have e76 : ρ (.tmp 76) = undef := r76
        clear r76
        exact ⟨76, rfl, .inr (.inr ⟨e76, rfl⟩)⟩
      case s19 =>
        intro ρ W hb hc hf hr
        obtain ⟨r1, r76, -⟩ := hr
        have e1 : ρ (.tmp 1) = .slice D m dap := r1
        clear r1
        have e76 : ρ (.tmp 76) = undef := r76
        clear r76
        exact ⟨76, rfl, .inr (.inr ⟨e76, rfl⟩)⟩
      case s20 =>
        intro ρ W hb hc hf hr
        obtain ⟨r80, r76, -⟩ := hr
        have e80 : ρ (.tmp 80) = undef := r80
        clear r80
        have e76 : ρ (.tmp 76) = undef := r76
        clear r76
        exact ⟨76, rfl, .inr (.inr ⟨e76, rfl⟩)⟩
      case s21 =>
        intro ρ W hb hc hf hr
        obtain ⟨r79, r81, r76, -⟩ := hr
        have e79 : ρ (.tmp 79) = undef := r79
        clear r79
        have e81 : ρ (.tmp 81) = undef := r81
        clear r81
        have e76 : ρ (.tmp 76) = undef := r76
        clear r76
        exact ⟨76, rfl, .inr (.inr ⟨e76, rfl⟩)⟩
      case s22 =>
        intro ρ W hb hc hf hr
        obtain ⟨r76, r82, r70, -⟩ := hr
        have e76 : ρ (.tmp 76) = undef := r76
        clear r76
        have e82 : ρ (.tmp 82) = undef := r82
        clear r82
        have e70 : ρ (.tmp 70) = .bool true := r70
        clear r70
        exact ⟨70, rfl, .inr (.inl ⟨e70, rfl⟩)⟩
      case s23 =>
        intro ρ W hb hc hf hr
        obtain ⟨r70, r83, r62, -⟩ := hr
        have e70 : ρ (.tmp 70) = .bool true := r70
        clear r70
        have e83 : ρ (.tmp 83) = undef := r83
        clear r83
        have e62 : ρ (.tmp 62) = .bool true := r62
        clear r62
        refine ⟨62, rfl, .inl ⟨e62, ?_⟩⟩
        simp [execOp, e70, hc, go_sem, softUpon, Fact.is, Below.refl]
      case s24 =>
        intro ρ W hb hc hf hr
        obtain ⟨r62, r84, -⟩ := hr
        have e62 : ρ (.tmp 62) = .bool true := r62
        clear r62
        have e84 : ρ (.tmp 84) = .bool true := r84
        clear r84
        refine under_none rfl ?_
        simp [execOp, e62, e84, go_sem, softUpon, Fact.is, Below.refl]
      case s25 =>
        intro ρ W hb hc hf hr
        obtain ⟨r85, -⟩ := hr
        have e85 : ρ (.tmp 85) = .bool true := r85
        clear r85
        refine under_none rfl ?_
        exact ⟨e85, Below.refl _ _⟩
      case fin =>
        intro a w1 hb hd hsz hk
        have ea := act_puts hd hsz rfl hk
        have k61 : a.tmps.getD 61 undef = .bool true := hk 61
        have k62 : a.tmps.getD 62 undef = .bool true := hk 62
        have k63 : a.tmps.getD 63 undef = .bool false := hk 63
        have k64 : a.tmps.getD 64 undef = .bool true := hk 64
        have k65 : a.tmps.getD 65 undef = .bool true := hk 65
        have k66 : a.tmps.getD 66 undef = tabV 0 0 YA 0 yc := hk 66
        have k67 : a.tmps.getD 67 undef = tabV 0 0 none 0 0 := hk 67
        have k68 : a.tmps.getD 68 undef = .bool true := hk 68
        have k69 : a.tmps.getD 69 undef = .bool true := hk 69
        have k70 : a.tmps.getD 70 undef = .bool true := hk 70
        have k71 : a.tmps.getD 71 undef = undef := hk 71
        have k72 : a.tmps.getD 72 undef = undef := hk 72
        have k73 : a.tmps.getD 73 undef = undef := hk 73
        have k74 : a.tmps.getD 74 undef = undef := hk 74
        have k75 : a.tmps.getD 75 undef = undef := hk 75
        have k76 : a.tmps.getD 76 undef = undef := hk 76
        have k77 : a.tmps.getD 77 undef = undef := hk 77
        have k78 : a.tmps.getD 78 undef = undef := hk 78
        have k79 : a.tmps.getD 79 undef = undef := hk 79
        have k80 : a.tmps.getD 80 undef = undef := hk 80
        have k81 : a.tmps.getD 81 undef = undef := hk 81
        have k82 : a.tmps.getD 82 undef = undef := hk 82
        have k83 : a.tmps.getD 83 undef = undef := hk 83
        have k84 : a.tmps.getD 84 undef = .bool true := hk 84
        have k85 : a.tmps.getD 85 undef = .bool true := hk 85
        have k4 : a.tmps.getD 4 undef = .bool true := hk 4
        clear hk hd hsz
        simp only [List.map_cons, List.map_nil, List.foldl_cons, List.foldl_nil, k61, k62, k63, k64, k65, k66, k67, k68, k69, k70, k71, k72, k73, k74, k75, k76, k77, k78, k79, k80, k81, k82, k83, k84, k85, k4] at ea
        clear k61 k62 k63 k64 k65 k66 k67 k68 k69 k70 k71 k72 k73 k74 k75 k76 k77 k78 k79 k80 k81 k82 k83 k84 k85 k4
        simp only [Act.put, List.setIfInBounds_toArray, List.set_cons_succ, List.set_cons_zero] at ea
        subst ea
        have c5 := BB.out.trans ((undrew hb).mono BB.out.size)
        go_wp2
        go_ret
        exact ⟨rfl, c5⟩
  · have HR := Lib.hid (show Tb.right ⟨g, o, xs⟩ = false by simpa using hr)
    clear hr
    go_wp2_with fail
    refine (tput_no0 g o A cap n xs w1 HN.out hc HA1.out HT1.out HR.out).mono ?_
    rintro e w2 ⟨rfl, b2⟩
    have HX2 := Lib.hid (HX1.out.below b2 (Nat.le_refl _))
    have HA2 := Lib.hid (HA1.out.below b2)
    have HD2 := Lib.hid (HD1.out.below b2)
    have HT2 := Lib.hid (HT1.out.below b2 (Nat.le_refl _))
    have B2 := Lib.hid (B1.out.trans (b2.mono B1.out.size))
    clear b2 z0 z1 z2 hd1 hd2
    obtain ⟨z0, z1, z2⟩ := HX2.out.three
    go_wp2_with fail
    refine (tright_is g o A cap n xs w2 false HN.out hc HA2.out HR.out).mono ?_
    rintro e w3 ⟨rfl, b3⟩
    have HX3 := Lib.hid (HX2.out.below b3 (Nat.le_refl _))
    have HA3 := Lib.hid (HA2.out.below b3)
    have HD3 := Lib.hid (HD2.out.below b3)
    have HT3 := Lib.hid (HT2.out.below b3 (Nat.le_refl _))
    have B3 := Lib.hid (B2.out.trans (b3.mono B2.out.size))
    clear b3 z0 z1 z2
    by_cases hok : Tb.ok s = true
    · obtain ⟨yg, yo, ys, hgs⟩ : ∃ yg yo ys, Tb.got s = ⟨yg, yo, ys⟩ := ⟨_, _, _, rfl⟩
      obtain ⟨yn, hyn⟩ : ∃ yn, ys.length = yn := ⟨_, rfl⟩
      have hts : Tb.told s = ⟨yg, yo, ys⟩ := by rw [← hgs]; unfold Tb.got; rw [if_pos hok]
      obtain ⟨hyr, hyp⟩ := Tb.ok_back hok
      rw [hts] at hyr hyp
      have HG := Lib.hid (tget_is D dap m yn s yg yo ys true w3 HM.out hdc HD3.out HT3.out hgs hok hyn)
      clear hok hgs hts
      go_wp2_with fail
      refine HG.out.mono ?_
      rintro e wA ⟨YA, yc, rfl, hyc, hya, b5⟩
      have ba : Below wA.heap.size wA (wA.alloc (.cells #[.int .i64 yg, .int .i64 yo, .slice YA yn yc] 24)) := (Below.refl _ _).alloc (Nat.le_refl _) _
      have bx := Blk.new wA #[.int .i64 yg, .int .i64 yo, .slice YA yn yc] 24
      have bb := b5.trans (ba.mono b5.size)
      have BB := Lib.hid (B3.out.trans (bb.mono B3.out.size))
      have HYB := Lib.hid (fun (W : World) (hW : Below (wA.alloc (.cells #[.int .i64 yg, .int .i64 yo, .slice YA yn yc] 24)).heap.size (wA.alloc (.cells #[.int .i64 yg, .int .i64 yo, .slice YA yn yc] 24)) W) => bx.below hW (Nat.le_refl _))
      have HYR := Lib.hid (fun (W : World) (hW : Below (wA.alloc (.cells #[.int .i64 yg, .int .i64 yo, .slice YA yn yc] 24)).heap.size (wA.alloc (.cells #[.int .i64 yg, .int .i64 yo, .slice YA yn yc] 24)) W) => tright_is yg yo YA yc yn ys W true hyn hyc ((hya.below ba).below hW) hyr)
      have HYP := Lib.hid (fun (W : World) (hW : Below (wA.alloc (.cells #[.int .i64 yg, .int .i64 yo, .slice YA yn yc] 24)).heap.size (wA.alloc (.cells #[.int .i64 yg, .int .i64 yo, .slice YA yn yc] 24)) W) => tput_lies yg yo YA yc yn m ys W hyn hyc (by rw [hyp]; exact HM.out) ((hya.below ba).below hW) ((HT3.out.below bb (Nat.le_refl _)).below hW (Nat.le_refl _)))
      have HCD := Lib.hid (fun (W : World) (hW : Below (wA.alloc (.cells #[.int .i64 yg, .int .i64 yo, .slice YA yn yc] 24)).heap.size (wA.alloc (.cells #[.int .i64 yg, .int .i64 yo, .slice YA yn yc] 24)) W) => HCD0.out W ((HD3.out.below bb).below hW))
      rw [hyp] at HYP
      clear bx ba bb b5 hya hyc hyp hyr hyn HG
      go_wp2
      generalize wA.alloc (.cells #[.int .i64 yg, .int .i64 yo, .slice YA yn yc] 24) = wB at *
      generalize wA.heap.size = YB at *
      refine wp_softS (by kernel_rfl) 86 [(61, [5]), (62, [61]), (63, [10, 62]), (64, [63, 62]), (65, [64, 62]), (66, [9, 65]), (67, [65]), (68, [66, 67, 65]), (69, [65, 68, 62]), (70, [69, 62]), (71, [10, 70]), (72, [71, 70]), (73, [9, 72]), (74, [73, 72]), (75, [72, 74, 70]), (76, [75, 70]), (77, [9, 76]), (78, [77, 76]), (79, [78, 76]), (80, [1, 76]), (81, [80, 76]), (82, [79, 81, 76]), (83, [76, 82, 70]), (84, [70, 83, 62]), (85, [62, 84]), (4, [85])]
        [Fact.is (.bool true), Fact.is (.bool true), Fact.is (.bool true), Fact.is (.bool false), Fact.is (.bool false), Fact.is (undef), Fact.is (undef), Fact.is (undef), Fact.is (.bool false), Fact.is (.bool false), Fact.is (.bool true), Fact.is (.bool true), Fact.is (tabV yg yo YA yn yc), Fact.is (.bool true), Fact.is (.bool true), Fact.is (.bool true), Fact.is (tabV yg yo YA yn yc), Fact.lies s m, Fact.is (.string SS), Fact.is (.slice D m dap), Fact.is (.string SS), Fact.is (.bool true), Fact.is (.bool true), Fact.is (.bool true), Fact.is (.bool true), Fact.is (.bool true)]
        (by kernel_rfl) rfl rfl ⟨?s0, ?s1, ?s2, ?s3, ?s4, ?s5, ?s6, ?s7, ?s8, ?s9, ?s10, ?s11, ?s12, ?s13, ?s14, ?s15, ?s16, ?s17, ?s18, ?s19, ?s20, ?s21, ?s22, ?s23, ?s24, ?s25, trivial⟩ ?fin
      case s0 =>
        intro ρ W hb hc hf hr
        obtain ⟨r5, -⟩ := hr
        have e5 : ρ (.tmp 5) = .bool true := r5
        clear r5
        refine under_none rfl ?_
        exact ⟨e5, Below.refl _ _⟩
      case s1 =>
        intro ρ W hb hc hf hr
        obtain ⟨r61, -⟩ := hr
        have e61 : ρ (.tmp 61) = .bool true := r61
        clear r61
        refine under_none rfl ?_
        exact ⟨e61, Below.refl _ _⟩
      case s2 =>
        intro ρ W hb hc hf hr
        obtain ⟨r10, r62, -⟩ := hr
        have e10 : ρ (.tmp 10) = .bool true := r10
        clear r10
        have e62 : ρ (.tmp 62) = .bool true := r62
        clear r62
        refine ⟨62, rfl, .inl ⟨e62, ?_⟩⟩
        exact ⟨e10, Below.refl _ _⟩
      case s3 =>
        intro ρ W hb hc hf hr
        obtain ⟨r63, r62, -⟩ := hr
        have e63 : ρ (.tmp 63) = .bool true := r63
        clear r63
        have e62 : ρ (.tmp 62) = .bool true := r62
        clear r62
        refine ⟨62, rfl, .inl ⟨e62, ?_⟩⟩
        simp [execOp, e63, go_sem, softUpon, Fact.is, Below.refl]
      case s4 =>
        intro ρ W hb hc hf hr
        obtain ⟨r64, r62, -⟩ := hr
        have e64 : ρ (.tmp 64) = .bool false := r64
        clear r64
        have e62 : ρ (.tmp 62) = .bool true := r62
        clear r62
        refine ⟨62, rfl, .inl ⟨e62, ?_⟩⟩
        exact ⟨e64, Below.refl _ _⟩
      case s5 =>
        intro ρ W hb hc hf hr
        obtain ⟨r9, r65, -⟩ := hr
        have e9 : ρ (.tmp 9) = .pointer (some ⟨YB, 0, none⟩) := r9
        clear r9
        have e65 : ρ (.tmp 65) = .bool false := r65
        clear r65
        exact ⟨65, rfl, .inr (.inl ⟨e65, rfl⟩)⟩
      case s6 =>
        intro ρ W hb hc hf hr
        obtain ⟨r65, -⟩ := hr
        have e65 : ρ (.tmp 65) = .bool false := r65
        clear r65
        exact ⟨65, rfl, .inr (.inl ⟨e65, rfl⟩)⟩
      case s7 =>
        intro ρ W hb hc hf hr
        obtain ⟨r66, r67, r65, -⟩ := hr
        have e66 : ρ (.tmp 66) = undef := r66
        clear r66
        have e67 : ρ (.tmp 67) = undef := r67
        clear r67
        have e65 : ρ (.tmp 65) = .bool false := r65
        clear r65
        exact ⟨65, rfl, .inr (.inl ⟨e65, rfl⟩)⟩
      case s8 =>
        intro ρ W hb hc hf hr
        obtain ⟨r65, r68, r62, -⟩ := hr
        have e65 : ρ (.tmp 65) = .bool false := r65
        clear r65
        have e68 : ρ (.tmp 68) = undef := r68
        clear r68
        have e62 : ρ (.tmp 62) = .bool true := r62
        clear r62
        refine ⟨62, rfl, .inl ⟨e62, ?_⟩⟩
        simp [execOp, e65, hc, go_sem, softUpon, Fact.is, Below.refl]
      case s9 =>
        intro ρ W hb hc hf hr
        obtain ⟨r69, r62, -⟩ := hr
        have e69 : ρ (.tmp 69) = .bool false := r69
        clear r69
        have e62 : ρ (.tmp 62) = .bool true := r62
        clear r62
        refine ⟨62, rfl, .inl ⟨e62, ?_⟩⟩
        exact ⟨e69, Below.refl _ _⟩
      case s10 =>
        intro ρ W hb hc hf hr
        obtain ⟨r10, r70, -⟩ := hr
        have e10 : ρ (.tmp 10) = .bool true := r10
        clear r10
        have e70 : ρ (.tmp 70) = .bool false := r70
        clear r70
        refine ⟨70, rfl, .inl ⟨e70, ?_⟩⟩
        exact ⟨e10, Below.refl _ _⟩
      case s11 =>
        intro ρ W hb hc hf hr
        obtain ⟨r71, r70, -⟩ := hr
        have e71 : ρ (.tmp 71) = .bool true := r71
        clear r71
        have e70 : ρ (.tmp 70) = .bool false := r70
        clear r70
        refine ⟨70, rfl, .inl ⟨e70, ?_⟩⟩
        exact ⟨e71, Below.refl _ _⟩
      case s12 =>
        intro ρ W hb hc hf hr
        obtain ⟨r9, r72, -⟩ := hr
        have e9 : ρ (.tmp 9) = .pointer (some ⟨YB, 0, none⟩) := r9
        clear r9
        have e72 : ρ (.tmp 72) = .bool true := r72
        clear r72
        refine ⟨72, rfl, .inl ⟨e72, ?_⟩⟩
        exact soft_load e9 (load_tab W YB yg yo YA yn yc (HYB.out W (undrew hb))) rfl
      case s13 =>
        intro ρ W hb hc hf hr
        obtain ⟨r73, r72, -⟩ := hr
        have e73 : ρ (.tmp 73) = tabV yg yo YA yn yc := r73
        clear r73
        have e72 : ρ (.tmp 72) = .bool true := r72
        clear r72
        refine ⟨72, rfl, .inl ⟨e72, ?_⟩⟩
        exact soft_call1 hf e73 (HYR.out W (undrew hb)) rfl (by kernel_rfl) below_is
      case s14 =>
        intro ρ W hb hc hf hr
        obtain ⟨r72, r74, r70, -⟩ := hr
        have e72 : ρ (.tmp 72) = .bool true := r72
        clear r72
        have e74 : ρ (.tmp 74) = .bool true := r74
        clear r74
        have e70 : ρ (.tmp 70) = .bool false := r70
        clear r70
        refine ⟨70, rfl, .inl ⟨e70, ?_⟩⟩
        simp [execOp, e72, e74, go_sem, softUpon, Fact.is, Below.refl]
      case s15 =>
        intro ρ W hb hc hf hr
        obtain ⟨r75, r70, -⟩ := hr
        have e75 : ρ (.tmp 75) = .bool true := r75
        clear r75
        have e70 : ρ (.tmp 70) = .bool false := r70
        clear r70
        refine ⟨70, rfl, .inl ⟨e70, ?_⟩⟩
        exact ⟨e75, Below.refl _ _⟩
      case s16 =>
        intro ρ W hb hc hf hr
        obtain ⟨r9, r76, -⟩ := hr
        have e9 : ρ (.tmp 9) = .pointer (some ⟨YB, 0, none⟩) := r9
        clear r9
        have e76 : ρ (.tmp 76) = .bool true := r76
        clear r76
        refine ⟨76, rfl, .inl ⟨e76, ?_⟩⟩
        exact soft_load e9 (load_tab W YB yg yo YA yn yc (HYB.out W (undrew hb))) rfl
      case s17 =>
        intro ρ W hb hc hf hr
        obtain ⟨r77, r76, -⟩ := hr
        have e77 : ρ (.tmp 77) = tabV yg yo YA yn yc := r77
        clear r77
        have e76 : ρ (.tmp 76) = .bool true := r76
        clear r76
        refine ⟨76, rfl, .inl ⟨e76, ?_⟩⟩
        exact soft_call1 hf e77 (HYP.out W (undrew hb)) rfl (by kernel_rfl) lies_is
      case s18 =>
        intro ρ W hb hc hf hr
        obtain ⟨r78, r76, -⟩ := hr
        have e76 : ρ (.tmp 76) = .bool true := r76
        clear r76
        refine ⟨76, rfl, .inl ⟨e76, ?_⟩⟩
        exact soft_lies r78 HM.out HSS.out rfl
      case s19 =>
        intro ρ W hb hc hf hr
        obtain ⟨r1, r76, -⟩ := hr
        have e1 : ρ (.tmp 1) = .slice D m dap := r1
        clear r1
        have e76 : ρ (.tmp 76) = .bool true := r76
        clear r76
        refine ⟨76, rfl, .inl ⟨e76, ?_⟩⟩
        exact ⟨e1, Below.refl _ _⟩
      case s20 =>
        intro ρ W hb hc hf hr
        obtain ⟨r80, r76, -⟩ := hr
        have e80 : ρ (.tmp 80) = .slice D m dap := r80
        clear r80
        have e76 : ρ (.tmp 76) = .bool true := r76
        clear r76
        refine ⟨76, rfl, .inl ⟨e76, ?_⟩⟩
        exact soft_conv e80 (HCD.out W (undrew hb)) rfl
      case s21 =>
        intro ρ W hb hc hf hr
        obtain ⟨r79, r81, r76, -⟩ := hr
        have e79 : ρ (.tmp 79) = .string SS := r79
        clear r79
        have e81 : ρ (.tmp 81) = .string SS := r81
        clear r81
        have e76 : ρ (.tmp 76) = .bool true := r76
        clear r76
        refine ⟨76, rfl, .inl ⟨e76, ?_⟩⟩
        exact soft_bin e79 e81 rfl rfl (eqs9 W SS)
      case s22 =>
        intro ρ W hb hc hf hr
        obtain ⟨r76, r82, r70, -⟩ := hr
        have e76 : ρ (.tmp 76) = .bool true := r76
        clear r76
        have e82 : ρ (.tmp 82) = .bool true := r82
        clear r82
        have e70 : ρ (.tmp 70) = .bool false := r70
        clear r70
        refine ⟨70, rfl, .inl ⟨e70, ?_⟩⟩
        simp [execOp, e76, e82, go_sem, softUpon, Fact.is, Below.refl]
      case s23 =>
        intro ρ W hb hc hf hr
        obtain ⟨r70, r83, r62, -⟩ := hr
        have e70 : ρ (.tmp 70) = .bool false := r70
        clear r70
        have e83 : ρ (.tmp 83) = .bool true := r83
        clear r83
        have e62 : ρ (.tmp 62) = .bool true := r62
        clear r62
        refine ⟨62, rfl, .inl ⟨e62, ?_⟩⟩
        simp [execOp, e70, e83, go_sem, softUpon, Fact.is, Below.refl]
      case s24 =>
        intro ρ W hb hc hf hr
        obtain ⟨r62, r84, -⟩ := hr
        have e62 : ρ (.tmp 62) = .bool true := r62
        clear r62
        have e84 : ρ (.tmp 84) = .bool true := r84
        clear r84
        refine under_none rfl ?_
        simp [execOp, e62, e84, go_sem, softUpon, Fact.is, Below.refl]
      case s25 =>
        intro ρ W hb hc hf hr
        obtain ⟨r85, -⟩ := hr
        have e85 : ρ (.tmp 85) = .bool true := r85
        clear r85
        refine under_none rfl ?_
        exact ⟨e85, Below.refl _ _⟩
      case fin =>
        intro a w1 hb hd hsz hk
        have ea := act_puts hd hsz rfl hk
        have k61 : a.tmps.getD 61 undef = .bool true := hk 61
        have k62 : a.tmps.getD 62 undef = .bool true := hk 62
        have k63 : a.tmps.getD 63 undef = .bool true := hk 63
        have k64 : a.tmps.getD 64 undef = .bool false := hk 64
        have k65 : a.tmps.getD 65 undef = .bool false := hk 65
        have k66 : a.tmps.getD 66 undef = undef := hk 66
        have k67 : a.tmps.getD 67 undef = undef := hk 67
        have k68 : a.tmps.getD 68 undef = undef := hk 68
        have k69 : a.tmps.getD 69 undef = .bool false := hk 69
        have k70 : a.tmps.getD 70 undef = .bool false := hk 70
        have k71 : a.tmps.getD 71 undef = .bool true := hk 71
        have k72 : a.tmps.getD 72 undef = .bool true := hk 72
        have k73 : a.tmps.getD 73 undef = tabV yg yo YA yn yc := hk 73
        have k74 : a.tmps.getD 74 undef = .bool true := hk 74
        have k75 : a.tmps.getD 75 undef = .bool true := hk 75
        have k76 : a.tmps.getD 76 undef = .bool true := hk 76
        have k77 : a.tmps.getD 77 undef = tabV yg yo YA yn yc := hk 77
        have k78 : (Fact.lies s m).φ (a.tmps.getD 78 undef) w1 := hk 78
        have k79 : a.tmps.getD 79 undef = .string SS := hk 79
        have k80 : a.tmps.getD 80 undef = .slice D m dap := hk 80
        have k81 : a.tmps.getD 81 undef = .string SS := hk 81
        have k82 : a.tmps.getD 82 undef = .bool true := hk 82
        have k83 : a.tmps.getD 83 undef = .bool true := hk 83
        have k84 : a.tmps.getD 84 undef = .bool true := hk 84
        have k85 : a.tmps.getD 85 undef = .bool true := hk 85
        have k4 : a.tmps.getD 4 undef = .bool true := hk 4
        clear hk hd hsz
        simp only [List.map_cons, List.map_nil, List.foldl_cons, List.foldl_nil, k61, k62, k63, k64, k65, k66, k67, k68, k69, k70, k71, k72, k73, k74, k75, k76, k77, k79, k80, k81, k82, k83, k84, k85, k4] at ea
        clear k61 k62 k63 k64 k65 k66 k67 k68 k69 k70 k71 k72 k73 k74 k75 k76 k77 k79 k80 k81 k82 k83 k84 k85 k4
        generalize a.tmps.getD 78 undef = v78 at ea k78
        simp only [Act.put, List.setIfInBounds_toArray, List.set_cons_succ, List.set_cons_zero] at ea
        subst ea
        have c5 := BB.out.trans ((undrew hb).mono BB.out.size)
        go_wp2
        go_ret
        exact ⟨rfl, c5⟩
    · have HOK := Lib.hid (show Tb.ok s = false by simpa using hok)
      have HG := Lib.hid (tget_is D dap m 0 s 0 0 [] false w3 HM.out hdc HD3.out HT3.out (by unfold Tb.got; rw [if_neg (by rw [HOK.out]; simp)]; rfl) HOK.out rfl)
      clear hok
      go_wp2_with fail
      refine HG.out.mono ?_
      rintro e wA ⟨YA, yc, rfl, hyc, -, b5⟩
      have ba : Below wA.heap.size wA (wA.alloc (.cells #[.int .i64 0, .int .i64 0, .slice YA 0 yc] 24)) := (Below.refl _ _).alloc (Nat.le_refl _) _
      have bx := Blk.new wA #[.int .i64 0, .int .i64 0, .slice YA 0 yc] 24
      have bb := b5.trans (ba.mono b5.size)
      have BB := Lib.hid (B3.out.trans (bb.mono B3.out.size))
      have HYB := Lib.hid (fun (W : World) (hW : Below (wA.alloc (.cells #[.int .i64 0, .int .i64 0, .slice YA 0 yc] 24)).heap.size (wA.alloc (.cells #[.int .i64 0, .int .i64 0, .slice YA 0 yc] 24)) W) => bx.below hW (Nat.le_refl _))
      have HSM := Lib.hid (fun (W : World) => rsame_is 0 0 YA yc 0 [] 0 0 none 0 0 [] W true rfl rfl (by omega) Lies.nil Lies.nil (decide_eq_true rfl))
      clear bx ba bb b5 hyc HG
      go_wp2
      generalize wA.alloc (.cells #[.int .i64 0, .int .i64 0, .slice YA 0 yc] 24) = wB at *
      generalize wA.heap.size = YB at *
      refine wp_softS (by kernel_rfl) 86 [(61, [5]), (62, [61]), (63, [10, 62]), (64, [63, 62]), (65, [64, 62]), (66, [9, 65]), (67, [65]), (68, [66, 67, 65]), (69, [65, 68, 62]), (70, [69, 62]), (71, [10, 70]), (72, [71, 70]), (73, [9, 72]), (74, [73, 72]), (75, [72, 74, 70]), (76, [75, 70]), (77, [9, 76]), (78, [77, 76]), (79, [78, 76]), (80, [1, 76]), (81, [80, 76]), (82, [79, 81, 76]), (83, [76, 82, 70]), (84, [70, 83, 62]), (85, [62, 84]), (4, [85])]
        [Fact.is (.bool true), Fact.is (.bool true), Fact.is (.bool false), Fact.is (.bool true), Fact.is (.bool true), Fact.is (tabV 0 0 YA 0 yc), Fact.is (tabV 0 0 none 0 0), Fact.is (.bool true), Fact.is (.bool true), Fact.is (.bool true), Fact.is (undef), Fact.is (undef), Fact.is (undef), Fact.is (undef), Fact.is (undef), Fact.is (undef), Fact.is (undef), Fact.is (undef), Fact.is (undef), Fact.is (undef), Fact.is (undef), Fact.is (undef), Fact.is (undef), Fact.is (.bool true), Fact.is (.bool true), Fact.is (.bool true)]
        (by kernel_rfl) rfl rfl ⟨?s0, ?s1, ?s2, ?s3, ?s4, ?s5, ?s6, ?s7, ?s8, ?s9, ?s10, ?s11, ?s12, ?s13, ?s14, ?s15, ?s16, ?s17, ?s18, ?s19, ?s20, ?s21, ?s22, ?s23, ?s24, ?s25, trivial⟩ ?fin
      case s0 =>
        intro ρ W hb hc hf hr
        obtain ⟨r5, -⟩ := hr
        have e5 : ρ (.tmp 5) = .bool true := r5
        clear r5
        refine under_none rfl ?_
        exact ⟨e5, Below.refl _ _⟩
      case s1 =>
        intro ρ W hb hc hf hr
        obtain ⟨r61, -⟩ := hr
        have e61 : ρ (.tmp 61) = .bool true := r61
        clear r61
        refine under_none rfl ?_
        exact ⟨e61, Below.refl _ _⟩
      case s2 =>
        intro ρ W hb hc hf hr
        obtain ⟨r10, r62, -⟩ := hr
        have e10 : ρ (.tmp 10) = .bool false := r10
        clear r10
        have e62 : ρ (.tmp 62) = .bool true := r62
        clear r62
        refine ⟨62, rfl, .inl ⟨e62, ?_⟩⟩
        exact ⟨e10, Below.refl _ _⟩
      case s3 =>
        intro ρ W hb hc hf hr
        obtain ⟨r63, r62, -⟩ := hr
        have e63 : ρ (.tmp 63) = .bool false := r63
        clear r63
        have e62 : ρ (.tmp 62) = .bool true := r62
        clear r62
        refine ⟨62, rfl, .inl ⟨e62, ?_⟩⟩
        simp [execOp, e63, go_sem, softUpon, Fact.is, Below.refl]
      case s4 =>
        intro ρ W hb hc hf hr
        obtain ⟨r64, r62, -⟩ := hr
        have e64 : ρ (.tmp 64) = .bool true := r64
        clear r64
        have e62 : ρ (.tmp 62) = .bool true := r62
        clear r62
        refine ⟨62, rfl, .inl ⟨e62, ?_⟩⟩
        exact ⟨e64, Below.refl _ _⟩
      case s5 =>
        intro ρ W hb hc hf hr
        obtain ⟨r9, r65, -⟩ := hr
        have e9 : ρ (.tmp 9) = .pointer (some ⟨YB, 0, none⟩) := r9
        clear r9
        have e65 : ρ (.tmp 65) = .bool true := r65
        clear r65
        refine ⟨65, rfl, .inl ⟨e65, ?_⟩⟩
        exact soft_load e9 (load_tab W YB 0 0 YA 0 yc (HYB.out W (undrew hb))) rfl
      case s6 =>
        intro ρ W hb hc hf hr
        obtain ⟨r65, -⟩ := hr
        have e65 : ρ (.tmp 65) = .bool true := r65
        clear r65
        refine ⟨65, rfl, .inl ⟨e65, ?_⟩⟩
        exact zeroT_build rfl
      case s7 =>
        intro ρ W hb hc hf hr
        obtain ⟨r66, r67, r65, -⟩ := hr
        have e66 : ρ (.tmp 66) = tabV 0 0 YA 0 yc := r66
        clear r66
        have e67 : ρ (.tmp 67) = tabV 0 0 none 0 0 := r67
        clear r67
        have e65 : ρ (.tmp 65) = .bool true := r65
        clear r65
        refine ⟨65, rfl, .inl ⟨e65, ?_⟩⟩
        exact soft_call2 hf e66 e67 (HSM.out W) rfl (by kernel_rfl) below_is
      case s8 =>
        intro ρ W hb hc hf hr
        obtain ⟨r65, r68, r62, -⟩ := hr
        have e65 : ρ (.tmp 65) = .bool true := r65
        clear r65
        have e68 : ρ (.tmp 68) = .bool true := r68
        clear r68
        have e62 : ρ (.tmp 62) = .bool true := r62
        clear r62
        refine ⟨62, rfl, .inl ⟨e62, ?_⟩⟩
        simp [execOp, e65, e68, go_sem, softUpon, Fact.is, Below.refl]
      case s9 =>
        intro ρ W hb hc hf hr
        obtain ⟨r69, r62, -⟩ := hr
        have e69 : ρ (.tmp 69) = .bool true := r69
        clear r69
        have e62 : ρ (.tmp 62) = .bool true := r62
        clear r62
        refine ⟨62, rfl, .inl ⟨e62, ?_⟩⟩
        exact ⟨e69, Below.refl _ _⟩
      case s10 =>
        intro ρ W hb hc hf hr
        obtain ⟨r10, r70, -⟩ := hr
        have e10 : ρ (.tmp 10) = .bool false := r10
        clear r10
        have e70 : ρ (.tmp 70) = .bool true := r70
        clear r70
        exact ⟨70, rfl, .inr (.inl ⟨e70, rfl⟩)⟩
      case s11 =>
        intro ρ W hb hc hf hr
        obtain ⟨r71, r70, -⟩ := hr
        have e71 : ρ (.tmp 71) = undef := r71
        clear r71
        have e70 : ρ (.tmp 70) = .bool true := r70
        clear r70
        exact ⟨70, rfl, .inr (.inl ⟨e70, rfl⟩)⟩
      case s12 =>
        intro ρ W hb hc hf hr
        obtain ⟨r9, r72, -⟩ := hr
        have e9 : ρ (.tmp 9) = .pointer (some ⟨YB, 0, none⟩) := r9
        clear r9
        have e72 : ρ (.tmp 72) = undef := r72
        clear r72
        exact ⟨72, rfl, .inr (.inr ⟨e72, rfl⟩)⟩
      case s13 =>
        intro ρ W hb hc hf hr
        obtain ⟨r73, r72, -⟩ := hr
        have e73 : ρ (.tmp 73) = undef := r73
        clear r73
        have e72 : ρ (.tmp 72) = undef := r72
        clear r72
        exact ⟨72, rfl, .inr (.inr ⟨e72, rfl⟩)⟩
      case s14 =>
        intro ρ W hb hc hf hr
        obtain ⟨r72, r74, r70, -⟩ := hr
        have e72 : ρ (.tmp 72) = undef := r72
        clear r72
        have e74 : ρ (.tmp 74) = undef := r74
        clear r74
        have e70 : ρ (.tmp 70) = .bool true := r70
        clear r70
        exact ⟨70, rfl, .inr (.inl ⟨e70, rfl⟩)⟩
      case s15 =>
        intro ρ W hb hc hf hr
        obtain ⟨r75, r70, -⟩ := hr
        have e75 : ρ (.tmp 75) = undef := r75
        clear r75
        have e70 : ρ (.tmp 70) = .bool true := r70
        clear r70
        exact ⟨70, rfl, .inr (.inl ⟨e70, rfl⟩)⟩
      case s16 =>
        intro ρ W hb hc hf hr
        obtain ⟨r9, r76, -⟩ := hr
        have e9 : ρ (.tmp 9) = .pointer (some ⟨YB, 0, none⟩) := r9
        clear r9
        have e76 : ρ (.tmp 76) = undef := r76
        clear r76
        exact ⟨76, rfl, .inr (.inr ⟨e76, rfl⟩)⟩
      case s17 =>
        intro ρ W hb hc hf hr
        obtain ⟨r77, r76, -⟩ := hr
        have e77 : ρ (.tmp 77) = undef := r77
        clear r77
        have e76 : ρ (.tmp 76) = undef := r76
        clear r76
        exact ⟨76, rfl, .inr (.inr ⟨e76, rfl⟩)⟩
      case s18 =>
        intro ρ W hb hc hf hr
        obtain ⟨r78, r76, -⟩ := hr
        have e78 : ρ (.tmp 78) = undef := r78
        clear r78
        have e76 : ρ (.tmp 76) = undef := r76
        clear r76
        exact ⟨76, rfl, .inr (.inr ⟨e76, rfl⟩)⟩
      case s19 =>
        intro ρ W hb hc hf hr
        obtain ⟨r1, r76, -⟩ := hr
        have e1 : ρ (.tmp 1) = .slice D m dap := r1
        clear r1
        have e76 : ρ (.tmp 76) = undef := r76
        clear r76
        exact ⟨76, rfl, .inr (.inr ⟨e76, rfl⟩)⟩
      case s20 =>
        intro ρ W hb hc hf hr
        obtain ⟨r80, r76, -⟩ := hr
        have e80 : ρ (.tmp 80) = undef := r80
        clear r80
        have e76 : ρ (.tmp 76) = undef := r76
        clear r76
        exact ⟨76, rfl, .inr (.inr ⟨e76, rfl⟩)⟩
      case s21 =>
        intro ρ W hb hc hf hr
        obtain ⟨r79, r81, r76, -⟩ := hr
        have e79 : ρ (.tmp 79) = undef := r79
        clear r79
        have e81 : ρ (.tmp 81) = undef := r81
        clear r81
        have e76 : ρ (.tmp 76) = undef := r76
        clear r76
        exact ⟨76, rfl, .inr (.inr ⟨e76, rfl⟩)⟩
      case s22 =>
        intro ρ W hb hc hf hr
        obtain ⟨r76, r82, r70, -⟩ := hr
        have e76 : ρ (.tmp 76) = undef := r76
        clear r76
        have e82 : ρ (.tmp 82) = undef := r82
        clear r82
        have e70 : ρ (.tmp 70) = .bool true := r70
        clear r70
        exact ⟨70, rfl, .inr (.inl ⟨e70, rfl⟩)⟩
      case s23 =>
        intro ρ W hb hc hf hr
        obtain ⟨r70, r83, r62, -⟩ := hr
        have e70 : ρ (.tmp 70) = .bool true := r70
        clear r70
        have e83 : ρ (.tmp 83) = undef := r83
        clear r83
        have e62 : ρ (.tmp 62) = .bool true := r62
        clear r62
        refine ⟨62, rfl, .inl ⟨e62, ?_⟩⟩
        simp [execOp, e70, hc, go_sem, softUpon, Fact.is, Below.refl]
      case s24 =>
        intro ρ W hb hc hf hr
        obtain ⟨r62, r84, -⟩ := hr
        have e62 : ρ (.tmp 62) = .bool true := r62
        clear r62
        have e84 : ρ (.tmp 84) = .bool true := r84
        clear r84
        refine under_none rfl ?_
        simp [execOp, e62, e84, go_sem, softUpon, Fact.is, Below.refl]
      case s25 =>
        intro ρ W hb hc hf hr
        obtain ⟨r85, -⟩ := hr
        have e85 : ρ (.tmp 85) = .bool true := r85
        clear r85
        refine under_none rfl ?_
        exact ⟨e85, Below.refl _ _⟩
      case fin =>
        intro a w1 hb hd hsz hk
        have ea := act_puts hd hsz rfl hk
        have k61 : a.tmps.getD 61 undef = .bool true := hk 61
        have k62 : a.tmps.getD 62 undef = .bool true := hk 62
        have k63 : a.tmps.getD 63 undef = .bool false := hk 63
        have k64 : a.tmps.getD 64 undef = .bool true := hk 64
        have k65 : a.tmps.getD 65 undef = .bool true := hk 65
        have k66 : a.tmps.getD 66 undef = tabV 0 0 YA 0 yc := hk 66
        have k67 : a.tmps.getD 67 undef = tabV 0 0 none 0 0 := hk 67
        have k68 : a.tmps.getD 68 undef = .bool true := hk 68
        have k69 : a.tmps.getD 69 undef = .bool true := hk 69
        have k70 : a.tmps.getD 70 undef = .bool true := hk 70
        have k71 : a.tmps.getD 71 undef = undef := hk 71
        have k72 : a.tmps.getD 72 undef = undef := hk 72
        have k73 : a.tmps.getD 73 undef = undef := hk 73
        have k74 : a.tmps.getD 74 undef = undef := hk 74
        have k75 : a.tmps.getD 75 undef = undef := hk 75
        have k76 : a.tmps.getD 76 undef = undef := hk 76
        have k77 : a.tmps.getD 77 undef = undef := hk 77
        have k78 : a.tmps.getD 78 undef = undef := hk 78
        have k79 : a.tmps.getD 79 undef = undef := hk 79
        have k80 : a.tmps.getD 80 undef = undef := hk 80
        have k81 : a.tmps.getD 81 undef = undef := hk 81
        have k82 : a.tmps.getD 82 undef = undef := hk 82
        have k83 : a.tmps.getD 83 undef = undef := hk 83
        have k84 : a.tmps.getD 84 undef = .bool true := hk 84
        have k85 : a.tmps.getD 85 undef = .bool true := hk 85
        have k4 : a.tmps.getD 4 undef = .bool true := hk 4
        clear hk hd hsz
        simp only [List.map_cons, List.map_nil, List.foldl_cons, List.foldl_nil, k61, k62, k63, k64, k65, k66, k67, k68, k69, k70, k71, k72, k73, k74, k75, k76, k77, k78, k79, k80, k81, k82, k83, k84, k85, k4] at ea
        clear k61 k62 k63 k64 k65 k66 k67 k68 k69 k70 k71 k72 k73 k74 k75 k76 k77 k78 k79 k80 k81 k82 k83 k84 k85 k4
        simp only [Act.put, List.setIfInBounds_toArray, List.set_cons_succ, List.set_cons_zero] at ea
        subst ea
        have c5 := BB.out.trans ((undrew hb).mono BB.out.size)
        go_wp2
        go_ret
        exact ⟨rfl, c5⟩

theorem walk (w : World) (hT : Tab w) (g o : Int) (A : Option Addr) (cap : Nat) (xs : List Tb.Ext) (hl : xs.length ≤ cap) (_ : cap ≤ maxLen) (hA : Lies w A (flatX xs)) (D : Option Addr) (dap : Nat) (s : List UInt8) (hs : s.length ≤ dap) (_ : dap ≤ maxLen) (hD : Lies w D (cells s)) :
    Calls Tryd.prog 4 #[tabV g o A xs.length cap, .slice D s.length dap] w fun e w' => e = .returned (.bool true) ∧ Below w.heap.size w w' :=
  walkN w hT g o A cap xs.length xs rfl hl hA D dap s.length s rfl hs hD


set_option maxRecDepth 100000 in
theorem lifted (os : Os) (started : os.Started) (H : Type) (enc : TypeId × Value → H) :
    ReturnsInHanded {} Tryd.checked os 4 .any (fun w args => (Rows.tableBackSpec.pre enc Tryd.prog Tryd.f4 [] false w args ∧ laidMetH Tryd.prog laidHere w) ∧ sizedMet enc Tryd.prog Tryd.f4 (OpenSpec.ofChange Rows.tableBackSpec) false w args) (Rows.tableBackSpec.post enc Tryd.prog Tryd.f4 false true false false) := by
  refine returnsInHanded_of_change_and (C := Tryd.checked) (X := fun w _ => laidMetH Tryd.prog laidHere w) (fun _ _ _ hh h => h.of_heap hh) own started (by kernel_rfl) Tryd.func4
    (ChangeSpec.witness_shaped (enc := enc) (C := Tryd.checked) (os := os) (X := fun w _ => laidMetH Tryd.prog laidHere w) false (World.doorLaid Tryd.prog doorSteps os) #[.agg #[.int .i64 0, .int .i64 0, .slice none 0 0], .slice none 0 0] 8 rfl (World.shaped_of_RefB (by kernel_rfl) (by kernel_rfl)) (by kernel_rfl) (by kernel_rfl) (by kernel_rfl) (door_met os _)) ?_
  intro W base args ds gs before hval0 hW _ _ hL _
  have hval : ∀ (j : Nat) t v, Tryd.f4.params[j]? = some t → args[j]? = some v → Value.okWide Tryd.prog W .any base t v := hval0
  have hfin := fun W' => law_post (enc := enc) (P := Tryd.prog) (f := Tryd.f4) (s := Rows.tableBackSpec) (tb := 4) (W := W) (W' := W') (args := args) (ds := ds) (gs := gs) (before := before) laidOut rfl (by kernel_rfl) Tryd.underlying4 (by kernel_rfl) (fun xs h => by rw [Tryd.params4] at h; match xs, h with | [_, _], _ => rfl) hW
  have hlt : ∀ x ∈ before, x.block < W.heap.size := fun x hx => hW.lt x hx
  obtain ⟨p, q, hA0, hV, rfl, hfz, hnd⟩ := hW
  have hA : DataW.TrodAll enc Tryd.prog W 0 (fun _ => true) true Tryd.f4.params.toList args.toList ds p := hA0
  rw [Tryd.params4] at hA hval
  obtain ⟨v0, vs0, d0, ds0, p0, q0, hargs, rfl, rfl, h0, r0⟩ := trodAll_cons hA
  obtain ⟨v1, vs1, d1, ds1, p1, q1, rfl, rfl, rfl, h1, r1⟩ := trodAll_cons r0
  obtain ⟨rfl, rfl, rfl⟩ := trodAll_nil r1
  obtain rfl : args = #[v0, v1] := by cases args; simp_all
  obtain ⟨g0, o0, A0, cap0, l0, rfl, hl0, hm0, hB0⟩ := open_table (hval 0 24 v0 rfl rfl) h0 (fun x hx => hlt x (by simp [hx]))
  obtain ⟨A1, cap1, b1, rfl, hl1, hm1, hB1⟩ := open_bytes (hval 1 25 v1 rfl rfl) h1 (fun x hx => hlt x (by simp [hx]))
  refine (walk W (of_laid hL) g0 o0 A0 cap0 l0 hl0 hm0 hB0 A1 cap1 b1 hl1 hm1 hB1).mono fun e W' ⟨he, hg⟩ => ?_
  subst he
  exact ⟨_, rfl, hfin W' hg⟩

theorem proved : Rows.TableBackSaid :=
  OpenClaim.holds_of_wide 4 Tryd.f4 rfl rfl rfl rfl rfl rfl rfl ⟨rfl, rfl, rfl, rfl, rfl⟩ rfl rfl rfl rfl rfl (by kernel_rfl) Tryd.func4 (by kernel_rfl)
    (of_decide_eq_true (by kernel_rfl)) (by unfold Func.isWrapper; first | (rw [if_pos (by decide +kernel)]; kernel_rfl) | (rw [if_neg (by decide +kernel)]; exact ⟨rfl, rfl⟩))
    (fun os started H enc _ => lifted os started H enc)

set_option maxRecDepth 100000 in
theorem card : Rows.TableBackCardSaid :=
  Claim7.holds_tied_plain_at .later [] laidKindsHere true _ false
    proved (fun _ h => by cases h) (by kernel_rfl) (fun _ h => by cases h) tableBack_row_tie rfl ⟨rfl, rfl⟩ (by kernel_rfl) rfl
    (fun f fn hf hfn => by
      obtain rfl : f = 4 := Option.some.inj ((show Tryd.prog.funcNamed "turntable/turntablelaw09.TableBack" = some 4 by kernel_rfl).symm.trans hf) |>.symm
      obtain rfl : fn = Tryd.f4 := (Option.some.inj (Tryd.func4.symm.trans hfn)).symm
      exact ⟨by kernel_rfl, fun j t ht => by
        rw [Tryd.params4] at ht
        have hm : t ∈ [24, 25] := Array.mem_def.1 (Array.mem_of_getElem? ht)
        have hall : ([24, 25].all fun u => !Tryd.prog.wantsStandIn u) = true := by kernel_rfl
        exact (show Tryd.prog.wantsStandIn t = false by simpa using List.all_eq_true.1 hall t hm)⟩)
    (by kernel_rfl)
#print axioms card
end Go.Proofs.YtbjaieopjkbijaaDoor.tableBack
