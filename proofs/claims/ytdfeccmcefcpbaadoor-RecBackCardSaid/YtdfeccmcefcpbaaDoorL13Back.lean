/-
  P13.2, RecBack: for all records and bytes the law returns true: a right record is got of its bytes; what is got of any bytes is right, and has them; where something is wrong, nothing is got. No condition; what the row lists is tied to the program's text.
-/
import Derived.Test.YtdfeccmcefcpbaaDoorL13U
namespace Go.Proofs.YtdfeccmcefcpbaaDoor.recBack
open Go.ChangeShapes Go.WideShapes Go.ChangeAt Go.RowKit
set_option maxRecDepth 100000

set_option maxHeartbeats 16000000 in
theorem walkN (w : World) (hH : Handle w) (q : Rc.R) (A B : Option Addr) (n m2 cap cap2 : Nat) (x : List UInt8) (hn : q.sp.length = n) (hl : n ≤ cap) (hm : cap ≤ maxLen) (hA : Lies w A (flat q.sp)) (hS : Fine q.sp) (hx : x.length = m2) (hl2 : m2 ≤ cap2) (hm2 : cap2 ≤ maxLen) (hB : Lies w B (cells x)) :
    Calls Tryd.prog 4 #[recV q A n cap, .slice B m2 cap2] w fun e w' => e = .returned (.bool true) ∧ Below w.heap.size w w' := by
  obtain ⟨P, hP⟩ : ∃ P, Rc.rput q = P := ⟨_, rfl⟩
  obtain ⟨m1, hP1⟩ : ∃ m1, P.length = m1 := ⟨_, rfl⟩
  have hmx := Rc.rput_max q
  have HPOS := Lib.hid (Rc.rput_pos q)
  have HGQ := Lib.hid (fun (h : Rc.right q = true) => Rc.rget_put h)
  have HG := Lib.hid (fun (W : World) (h : Below w.heap.size w W) => great_any A n cap q.sp W hn hl hm (hA.below h))
  have HR := Lib.hid (fun (W : World) (h : Below w.heap.size w W) => dright13_any q A n cap W hn (by omega) (hA.below h) hS)
  have HPU := Lib.hid (fun (W : World) (h : Below w.heap.size w W) => put13_any q A n cap W P m1 hP hP1 hn (by omega) (hA.below h) hS)
  have HSQ := Lib.hid (fun (A6 : Option Addr) (c6 : Nat) (W : World) (h1 : n ≤ c6) (h2 : c6 ≤ maxLen) (h5 : Lies W A6 (flat q.sp)) (h : Below w.heap.size w W) => same13_true (rsame13_any q q A6 A n n c6 cap W hn hn h1 hl h2 hm h5 (hA.below h)))
  have HGP := Lib.hid (fun (h : Rc.rget P = (q, 0)) (A4 : Option Addr) (c4 : Nat) (W : World) (hW : Below w.heap.size w W) (h1 : m1 ≤ c4) (h2 : c4 ≤ maxLen) (h3 : m1 ≤ 1099511627776) (h4 : Lies W A4 (cells P)) => get13 h (dget13_any A4 m1 c4 P W (handle13_below hH hW) hP1 h1 h2 h3 h4))
  have HGD := Lib.hid (fun (h9 : m2 ≤ 9000) (W : World) (h : Below w.heap.size w W) => dget13_any B m2 cap2 x W (handle13_below hH h) hx hl2 hm2 (by omega) (hB.below h))
  have HCB := Lib.hid (fun (W : World) (h : Below w.heap.size w W) => str13 (c := cap2) hB hx W h)
  rw [hP, hP1] at hmx HPOS
  rw [hP] at HGQ
  rw [hn] at HGP
  obtain ⟨RR, hRR⟩ : ∃ RR, Rc.right q = RR := ⟨_, rfl⟩
  rw [hRR] at HPOS HGQ HR
  have hrc := Rc.rget_code x
  have hrb := Rc.rget_back (b := x)
  obtain ⟨G, hG⟩ : ∃ G, Rc.rget x = G := ⟨_, rfl⟩
  rw [hG] at HGD hrc hrb
  obtain ⟨G1, C⟩ := G
  simp only at hrc hrb
  have HRC := Lib.hid hrc
  have HRB := Lib.hid hrb
  have HSM0 := Lib.hid (fun (hz : G1 = Rc.zero) (A5 : Option Addr) (c5 : Nat) (W : World) (h1 : G1.sp.length ≤ c5) (h2 : c5 ≤ maxLen) (h5 : Lies W A5 (flat G1.sp)) => show Calls Tryd.prog 20 #[recV G1 A5 G1.sp.length c5, recV Rc.zero none 0 0] W (fun e w' => e = .returned (.bool true) ∧ Below W.heap.size W w') from by
    have := rsame13_any G1 Rc.zero A5 none G1.sp.length 0 c5 0 W rfl rfl h1 (Nat.le_refl _) h2 (by unfold maxLen; omega) h5 Lies.nil
    rwa [decide_eq_true hz] at this)
  have HRY0 := Lib.hid (fun (hr : Rc.right G1 = true) (hf : Fine G1.sp) (A5 : Option Addr) (c5 : Nat) (W : World) (h1 : G1.sp.length ≤ c5) (h2 : c5 ≤ maxLen) (h5 : Lies W A5 (flat G1.sp)) => show Calls Tryd.prog 14 #[recV G1 A5 G1.sp.length c5] W (fun e w' => e = .returned (.bool true) ∧ Below W.heap.size W w') from by
    have := dright13_any G1 A5 G1.sp.length c5 W rfl (by omega) h5 hf
    rwa [hr] at this)
  have HPY0 := Lib.hid (fun (hr : Rc.rput G1 = x) (hf : Fine G1.sp) (A5 : Option Addr) (c5 : Nat) (W : World) (h1 : G1.sp.length ≤ c5) (h2 : c5 ≤ maxLen) (h5 : Lies W A5 (flat G1.sp)) => show Calls Tryd.prog 16 #[recV G1 A5 G1.sp.length c5] W (Made W x) from by
    have := dput13_any G1 A5 G1.sp.length c5 W rfl (by omega) h5 hf
    rwa [hr] at this)
  obtain ⟨gk, gi, gc, gt, gp, gs⟩ := G1
  obtain ⟨kind, id, cls, tick, pin, sp⟩ := q
  unfold RGives13 at HGD
  unfold recV recCs at *
  simp only [Rc.zero] at HG HR HPU HGD HSM0 HRY0 HPY0 HSQ HGP
  obtain ⟨gn, hgn⟩ : ∃ gn, gs.length = gn := ⟨_, rfl⟩
  rw [hgn] at HGD HSM0 HRY0 HPY0
  have hbx := Blk.new w #[.int .i64 kind, .int .i64 id, .int .i64 cls, .int .i64 tick, .bool pin, .slice A n cap] 24
  have hB0 : Below w.heap.size w (w.alloc (.cells #[.int .i64 kind, .int .i64 id, .int .i64 cls, .int .i64 tick, .bool pin, .slice A n cap] 24)) := (Below.refl _ _).alloc (Nat.le_refl _) _
  have HBX := Lib.hid hbx
  have HB0 := Lib.hid hB0
  have HH0 := Lib.hid (up13_any _ (handle13_below hH hB0))
  have HCC := Lib.hid (show C = 0 ∨ C ≠ 0 from by omega)
  clear hbx hB0 hRR hP hP1 hG hA hB hS hn hH hl hm hl2 hm2 hx hgn hrc hrb
  go_enter Tryd.func4, Tryd.ntmps4
  go_wp2_with fail
  refine HH0.out.mono ?_
  rintro e w1 ⟨rfl, hb1⟩
  have HB1 := Lib.hid (HB0.out.trans (hb1.mono HB0.out.size))
  have HX1 := Lib.hid (show Blk w1 w.heap.size _ _ from (hb1.block _ HBX.out.lt).trans HBX.out)
  obtain ⟨x0, x1, x2, x3, x4, x5⟩ := six13 HX1.out
  clear hb1
  go_wp2_with fail
  refine (HG.out w1 HB1.out).mono ?_
  rintro e w2 ⟨g, rfl, -, hb2⟩
  have HB2 := Lib.hid (HB1.out.trans (hb2.mono HB1.out.size))
  have HX2 := Lib.hid (show Blk w2 w.heap.size _ _ from (hb2.block _ HX1.out.lt).trans HX1.out)
  clear hb2 x0 x1 x2 x3 x4 x5
  rcases g with _ | _
  rotate_left
  · go_wp2
    go_ret
    exact ⟨rfl, HB2.out⟩
  by_cases h9 : 9000 < m2
  · have hz : (9000 : Int) < (m2 : Int) := by omega
    go_wp2
    go_ret
    exact ⟨rfl, HB2.out⟩
  have hz : ¬ (9000 : Int) < (m2 : Int) := by omega
  have HGD1 := Lib.hid (HGD.out (by omega))
  clear h9
  obtain ⟨x0, x1, x2, x3, x4, x5⟩ := six13 HX2.out
  go_wp2_with fail
  refine (HPU.out w2 HB2.out).mono ?_
  rintro e w3 ⟨A4, c4, rfl, hl4, hm4, hL4, hb3⟩
  have HB3 := Lib.hid (HB2.out.trans (hb3.mono HB2.out.size))
  have HX3 := Lib.hid (show Blk w3 w.heap.size _ _ from (hb3.block _ HX2.out.lt).trans HX2.out)
  have HL3 := Lib.hid hL4
  clear hb3 hL4 x0 x1 x2 x3 x4 x5 hz
  obtain ⟨x0, x1, x2, x3, x4, x5⟩ := six13 HX3.out
  by_cases h0 : m1 = 0
  · obtain rfl : RR = false := by
      cases RR with
      | false => rfl
      | true => have := HPOS.out.2 rfl; omega
    subst h0
    go_wp2_with fail
    refine (HR.out w3 HB3.out).mono ?_
    rintro e w4 ⟨rfl, hb4⟩
    have HB4 := Lib.hid (HB3.out.trans (hb4.mono HB3.out.size))
    clear hb4 x0 x1 x2 x3 x4 x5
    go_wp2_with fail
    refine (HGD1.out w4 HB4.out).mono ?_
    rintro e w5 ⟨A5, c5, rfl, hl5, hm5, hL5, hF5, hb5⟩
    obtain ⟨w6, hw6⟩ : ∃ w6, w5.alloc (.cells #[.int .i64 gk, .int .i64 gi, .int .i64 gc, .int .i64 gt, .bool gp, .slice A5 gn c5] 24) = w6 := ⟨_, rfl⟩
    have hb6 : Below w4.heap.size w4 w6 := by rw [← hw6]; exact hb5.alloc hb5.size _
    have HB6 := Lib.hid (Below.trans HB4.out (hb6.mono (Below.size HB4.out)))
    have HL6 := Lib.hid (show Lies w6 A5 (flat gs) by rw [← hw6]; exact hL5.below ((Below.refl _ _).alloc (Nat.le_refl _) _))
    have HZ6 := Lib.hid (show Blk w6 w5.heap.size #[.int .i64 gk, .int .i64 gi, .int .i64 gc, .int .i64 gt, .bool gp, .slice A5 gn c5] 24 by rw [← hw6]; exact Blk.new _ _ _)
    have LY := Lib.hid (fun (W : World) (h : Below w6.heap.size w6 W) => load13 HZ6.out W h)
    have HF6 := Lib.hid hF5
    have HW6 := Lib.hid hw6
    clear hb5 hb6 hL5 hF5 hw6
    rcases HCC.out with hc0 | hc0
    · have hrb := HRB.out hc0
      have HRY := Lib.hid (fun (W : World) (h : Below w6.heap.size w6 W) => HRY0.out hrb.1 HF6.out A5 c5 W hl5 hm5 (HL6.out.below h))
      have HPY := Lib.hid (fun (W : World) (h : Below w6.heap.size w6 W) => HPY0.out hrb.2 HF6.out A5 c5 W hl5 hm5 (HL6.out.below h))
      have CB := Lib.hid (fun (W : World) (h : Below w6.heap.size w6 W) => HCB.out W (HB6.out.trans (h.mono HB6.out.size)))
      have NE := Lib.hid (fun (W : World) => nee13_D W (C : Int) false (by rw [bne_eq_false_iff_eq]; omega))
      have EQ := Lib.hid (fun (W : World) => eqe13_D W (C : Int) true (by rw [beq_iff_eq]; omega))
      clear hrb hc0
      go_wp2
      rw [HW6.out]
      refine wp_soft (by kernel_rfl) 76 [(50, [5]), (51, [50]), (52, [10, 51]), (53, [52, 51]), (54, [53, 51]), (55, [9, 54]), (56, [54]), (57, [55, 56, 54]), (58, [54, 57, 51]), (59, [58, 51]), (60, [10, 59]), (61, [60, 59]), (62, [61, 59]), (63, [9, 62]), (64, [63, 62]), (65, [62, 64, 59]), (66, [65, 59]), (67, [9, 66]), (68, [67, 66]), (69, [68, 66]), (70, [1, 66]), (71, [70, 66]), (72, [69, 71, 66]), (73, [66, 72, 59]), (74, [59, 73, 51]), (75, [51, 74]), (4, [75])]
        [Fact.is (.bool true), Fact.is (.bool true), Fact.is (.int .i64 (C : Int)), Fact.is (.bool false), Fact.is (.bool false), Fact.is (undef), Fact.is (undef), Fact.is (undef), Fact.is (.bool false), Fact.is (.bool false), Fact.is (.int .i64 (C : Int)), Fact.is (.bool true), Fact.is (.bool true), Fact.is (.agg #[.int .i64 gk, .int .i64 gi, .int .i64 gc, .int .i64 gt, .bool gp, .slice A5 gn c5]), Fact.is (.bool true), Fact.is (.bool true), Fact.is (.bool true), Fact.is (.agg #[.int .i64 gk, .int .i64 gi, .int .i64 gc, .int .i64 gt, .bool gp, .slice A5 gn c5]), Fact.own x, Fact.is (.string (str x)), Fact.is (.slice B m2 cap2), Fact.is (.string (str x)), Fact.is (.bool true), Fact.is (.bool true), Fact.is (.bool true), Fact.is (.bool true), Fact.is (.bool true)]
        (by kernel_rfl) rfl rfl ⟨?s0, ?s1, ?s2, ?s3, ?s4, ?s5, ?s6, ?s7, ?s8, ?s9, ?s10, ?s11, ?s12, ?s13, ?s14, ?s15, ?s16, ?s17, ?s18, ?s19, ?s20, ?s21, ?s22, ?s23, ?s24, ?s25, ?s26, trivial⟩ ?fin
      case s0 =>
        intro ρ W hb hc hf hr
        obtain ⟨r5, -⟩ := hr
        have e5 : ρ (.tmp 5) = .bool true := r5
        clear r5
        refine under_none rfl ?_
        exact ⟨e5, Below.refl _ _⟩
      case s1 =>
        intro ρ W hb hc hf hr
        obtain ⟨r50, -⟩ := hr
        have e50 : ρ (.tmp 50) = .bool true := r50
        clear r50
        refine under_none rfl ?_
        exact ⟨e50, Below.refl _ _⟩
      case s2 =>
        intro ρ W hb hc hf hr
        obtain ⟨r10, r51, -⟩ := hr
        have e10 : ρ (.tmp 10) = .int .i64 (C : Int) := r10
        clear r10
        have e51 : ρ (.tmp 51) = .bool true := r51
        clear r51
        refine ⟨51, rfl, .inl ⟨e51, ?_⟩⟩
        exact ⟨e10, Below.refl _ _⟩
      case s3 =>
        intro ρ W hb hc hf hr
        obtain ⟨r52, r51, -⟩ := hr
        have e52 : ρ (.tmp 52) = .int .i64 (C : Int) := r52
        clear r52
        have e51 : ρ (.tmp 51) = .bool true := r51
        clear r51
        refine ⟨51, rfl, .inl ⟨e51, ?_⟩⟩
        exact soft_bin e52 (hc _) rfl rfl (NE.out W)
      case s4 =>
        intro ρ W hb hc hf hr
        obtain ⟨r53, r51, -⟩ := hr
        have e53 : ρ (.tmp 53) = .bool false := r53
        clear r53
        have e51 : ρ (.tmp 51) = .bool true := r51
        clear r51
        refine ⟨51, rfl, .inl ⟨e51, ?_⟩⟩
        exact ⟨e53, Below.refl _ _⟩
      case s5 =>
        intro ρ W hb hc hf hr
        obtain ⟨r9, r54, -⟩ := hr
        have e9 : ρ (.tmp 9) = .pointer (some ⟨w5.heap.size, 0, none⟩) := r9
        clear r9
        have e54 : ρ (.tmp 54) = .bool false := r54
        clear r54
        exact ⟨54, rfl, .inr (.inl ⟨e54, rfl⟩)⟩
      case s6 =>
        intro ρ W hb hc hf hr
        obtain ⟨r54, -⟩ := hr
        have e54 : ρ (.tmp 54) = .bool false := r54
        clear r54
        exact ⟨54, rfl, .inr (.inl ⟨e54, rfl⟩)⟩
      case s7 =>
        intro ρ W hb hc hf hr
        obtain ⟨r55, r56, r54, -⟩ := hr
        have e55 : ρ (.tmp 55) = undef := r55
        clear r55
        have e56 : ρ (.tmp 56) = undef := r56
        clear r56
        have e54 : ρ (.tmp 54) = .bool false := r54
        clear r54
        exact ⟨54, rfl, .inr (.inl ⟨e54, rfl⟩)⟩
      case s8 =>
        intro ρ W hb hc hf hr
        obtain ⟨r54, r57, r51, -⟩ := hr
        have e54 : ρ (.tmp 54) = .bool false := r54
        clear r54
        have e57 : ρ (.tmp 57) = undef := r57
        clear r57
        have e51 : ρ (.tmp 51) = .bool true := r51
        clear r51
        refine ⟨51, rfl, .inl ⟨e51, ?_⟩⟩
        simp [execOp, e54, hc, go_sem, softUpon, Fact.is, Below.refl]
      case s9 =>
        intro ρ W hb hc hf hr
        obtain ⟨r58, r51, -⟩ := hr
        have e58 : ρ (.tmp 58) = .bool false := r58
        clear r58
        have e51 : ρ (.tmp 51) = .bool true := r51
        clear r51
        refine ⟨51, rfl, .inl ⟨e51, ?_⟩⟩
        exact ⟨e58, Below.refl _ _⟩
      case s10 =>
        intro ρ W hb hc hf hr
        obtain ⟨r10, r59, -⟩ := hr
        have e10 : ρ (.tmp 10) = .int .i64 (C : Int) := r10
        clear r10
        have e59 : ρ (.tmp 59) = .bool false := r59
        clear r59
        refine ⟨59, rfl, .inl ⟨e59, ?_⟩⟩
        exact ⟨e10, Below.refl _ _⟩
      case s11 =>
        intro ρ W hb hc hf hr
        obtain ⟨r60, r59, -⟩ := hr
        have e60 : ρ (.tmp 60) = .int .i64 (C : Int) := r60
        clear r60
        have e59 : ρ (.tmp 59) = .bool false := r59
        clear r59
        refine ⟨59, rfl, .inl ⟨e59, ?_⟩⟩
        exact soft_bin e60 (hc _) rfl rfl (EQ.out W)
      case s12 =>
        intro ρ W hb hc hf hr
        obtain ⟨r61, r59, -⟩ := hr
        have e61 : ρ (.tmp 61) = .bool true := r61
        clear r61
        have e59 : ρ (.tmp 59) = .bool false := r59
        clear r59
        refine ⟨59, rfl, .inl ⟨e59, ?_⟩⟩
        exact ⟨e61, Below.refl _ _⟩
      case s13 =>
        intro ρ W hb hc hf hr
        obtain ⟨r9, r62, -⟩ := hr
        have e9 : ρ (.tmp 9) = .pointer (some ⟨w5.heap.size, 0, none⟩) := r9
        clear r9
        have e62 : ρ (.tmp 62) = .bool true := r62
        clear r62
        refine ⟨62, rfl, .inl ⟨e62, ?_⟩⟩
        exact soft_load e9 (LY.out W (undrew13 hb)) rfl
      case s14 =>
        intro ρ W hb hc hf hr
        obtain ⟨r63, r62, -⟩ := hr
        have e63 : ρ (.tmp 63) = .agg #[.int .i64 gk, .int .i64 gi, .int .i64 gc, .int .i64 gt, .bool gp, .slice A5 gn c5] := r63
        clear r63
        have e62 : ρ (.tmp 62) = .bool true := r62
        clear r62
        refine ⟨62, rfl, .inl ⟨e62, ?_⟩⟩
        exact soft_call1 hf e63 (HRY.out W (undrew13 hb)) rfl (by kernel_rfl) below_is
      case s15 =>
        intro ρ W hb hc hf hr
        obtain ⟨r62, r64, r59, -⟩ := hr
        have e62 : ρ (.tmp 62) = .bool true := r62
        clear r62
        have e64 : ρ (.tmp 64) = .bool true := r64
        clear r64
        have e59 : ρ (.tmp 59) = .bool false := r59
        clear r59
        refine ⟨59, rfl, .inl ⟨e59, ?_⟩⟩
        simp [execOp, e62, e64, go_sem, softUpon, Fact.is, Below.refl]
      case s16 =>
        intro ρ W hb hc hf hr
        obtain ⟨r65, r59, -⟩ := hr
        have e65 : ρ (.tmp 65) = .bool true := r65
        clear r65
        have e59 : ρ (.tmp 59) = .bool false := r59
        clear r59
        refine ⟨59, rfl, .inl ⟨e59, ?_⟩⟩
        exact ⟨e65, Below.refl _ _⟩
      case s17 =>
        intro ρ W hb hc hf hr
        obtain ⟨r9, r66, -⟩ := hr
        have e9 : ρ (.tmp 9) = .pointer (some ⟨w5.heap.size, 0, none⟩) := r9
        clear r9
        have e66 : ρ (.tmp 66) = .bool true := r66
        clear r66
        refine ⟨66, rfl, .inl ⟨e66, ?_⟩⟩
        exact soft_load e9 (LY.out W (undrew13 hb)) rfl
      case s18 =>
        intro ρ W hb hc hf hr
        obtain ⟨r67, r66, -⟩ := hr
        have e67 : ρ (.tmp 67) = .agg #[.int .i64 gk, .int .i64 gi, .int .i64 gc, .int .i64 gt, .bool gp, .slice A5 gn c5] := r67
        clear r67
        have e66 : ρ (.tmp 66) = .bool true := r66
        clear r66
        refine ⟨66, rfl, .inl ⟨e66, ?_⟩⟩
        exact soft_call1 hf e67 (HPY.out W (undrew13 hb)) rfl (by kernel_rfl) made_own
      case s19 =>
        intro ρ W hb hc hf hr
        obtain ⟨r68, r66, -⟩ := hr
        have e66 : ρ (.tmp 66) = .bool true := r66
        clear r66
        refine ⟨66, rfl, .inl ⟨e66, ?_⟩⟩
        exact soft_own r68 rfl
      case s20 =>
        intro ρ W hb hc hf hr
        obtain ⟨r1, r66, -⟩ := hr
        have e1 : ρ (.tmp 1) = .slice B m2 cap2 := r1
        clear r1
        have e66 : ρ (.tmp 66) = .bool true := r66
        clear r66
        refine ⟨66, rfl, .inl ⟨e66, ?_⟩⟩
        exact ⟨e1, Below.refl _ _⟩
      case s21 =>
        intro ρ W hb hc hf hr
        obtain ⟨r70, r66, -⟩ := hr
        have e70 : ρ (.tmp 70) = .slice B m2 cap2 := r70
        clear r70
        have e66 : ρ (.tmp 66) = .bool true := r66
        clear r66
        refine ⟨66, rfl, .inl ⟨e66, ?_⟩⟩
        exact soft_conv e70 (CB.out W (undrew13 hb)) rfl
      case s22 =>
        intro ρ W hb hc hf hr
        obtain ⟨r69, r71, r66, -⟩ := hr
        have e69 : ρ (.tmp 69) = .string (str x) := r69
        clear r69
        have e71 : ρ (.tmp 71) = .string (str x) := r71
        clear r71
        have e66 : ρ (.tmp 66) = .bool true := r66
        clear r66
        refine ⟨66, rfl, .inl ⟨e66, ?_⟩⟩
        exact soft_bin e69 e71 rfl rfl (eqs13_D W x x true (decide_eq_true rfl))
      case s23 =>
        intro ρ W hb hc hf hr
        obtain ⟨r66, r72, r59, -⟩ := hr
        have e66 : ρ (.tmp 66) = .bool true := r66
        clear r66
        have e72 : ρ (.tmp 72) = .bool true := r72
        clear r72
        have e59 : ρ (.tmp 59) = .bool false := r59
        clear r59
        refine ⟨59, rfl, .inl ⟨e59, ?_⟩⟩
        simp [execOp, e66, e72, go_sem, softUpon, Fact.is, Below.refl]
      case s24 =>
        intro ρ W hb hc hf hr
        obtain ⟨r59, r73, r51, -⟩ := hr
        have e59 : ρ (.tmp 59) = .bool false := r59
        clear r59
        have e73 : ρ (.tmp 73) = .bool true := r73
        clear r73
        have e51 : ρ (.tmp 51) = .bool true := r51
        clear r51
        refine ⟨51, rfl, .inl ⟨e51, ?_⟩⟩
        simp [execOp, e59, e73, go_sem, softUpon, Fact.is, Below.refl]
      case s25 =>
        intro ρ W hb hc hf hr
        obtain ⟨r51, r74, -⟩ := hr
        have e51 : ρ (.tmp 51) = .bool true := r51
        clear r51
        have e74 : ρ (.tmp 74) = .bool true := r74
        clear r74
        refine under_none rfl ?_
        simp [execOp, e51, e74, go_sem, softUpon, Fact.is, Below.refl]
      case s26 =>
        intro ρ W hb hc hf hr
        obtain ⟨r75, -⟩ := hr
        have e75 : ρ (.tmp 75) = .bool true := r75
        clear r75
        refine under_none rfl ?_
        exact ⟨e75, Below.refl _ _⟩
      case fin =>
        intro a w7 hb hd hk
        have h4 : a.tmps.getD 4 undef = .bool true := hk 4
        clear hk
        have hc := HB6.out.trans ((undrew13 hb).mono HB6.out.size)
        go_wp2
        refine bodyPost_ret (results_tmp rfl _ _ _) hd ?_
        exact ⟨by rw [h4], hc⟩
    · have hz := HRC.out.2.1 hc0
      have HSM := Lib.hid (fun (W : World) (h : Below w6.heap.size w6 W) => HSM0.out hz A5 c5 W hl5 hm5 (HL6.out.below h))
      have NE := Lib.hid (fun (W : World) => nee13_D W (C : Int) true (by rw [bne_iff_ne]; omega))
      clear hz hc0
      go_wp2
      rw [HW6.out]
      refine wp_soft (by kernel_rfl) 76 [(50, [5]), (51, [50]), (52, [10, 51]), (53, [52, 51]), (54, [53, 51]), (55, [9, 54]), (56, [54]), (57, [55, 56, 54]), (58, [54, 57, 51]), (59, [58, 51]), (60, [10, 59]), (61, [60, 59]), (62, [61, 59]), (63, [9, 62]), (64, [63, 62]), (65, [62, 64, 59]), (66, [65, 59]), (67, [9, 66]), (68, [67, 66]), (69, [68, 66]), (70, [1, 66]), (71, [70, 66]), (72, [69, 71, 66]), (73, [66, 72, 59]), (74, [59, 73, 51]), (75, [51, 74]), (4, [75])]
        [Fact.is (.bool true), Fact.is (.bool true), Fact.is (.int .i64 (C : Int)), Fact.is (.bool true), Fact.is (.bool true), Fact.is (.agg #[.int .i64 gk, .int .i64 gi, .int .i64 gc, .int .i64 gt, .bool gp, .slice A5 gn c5]), Fact.is (.agg #[.int .i64 0, .int .i64 0, .int .i64 0, .int .i64 0, .bool false, .slice none 0 0]), Fact.is (.bool true), Fact.is (.bool true), Fact.is (.bool true), Fact.is (undef), Fact.is (undef), Fact.is (undef), Fact.is (undef), Fact.is (undef), Fact.is (undef), Fact.is (undef), Fact.is (undef), Fact.is (undef), Fact.is (undef), Fact.is (undef), Fact.is (undef), Fact.is (undef), Fact.is (undef), Fact.is (.bool true), Fact.is (.bool true), Fact.is (.bool true)]
        (by kernel_rfl) rfl rfl ⟨?s0, ?s1, ?s2, ?s3, ?s4, ?s5, ?s6, ?s7, ?s8, ?s9, ?s10, ?s11, ?s12, ?s13, ?s14, ?s15, ?s16, ?s17, ?s18, ?s19, ?s20, ?s21, ?s22, ?s23, ?s24, ?s25, ?s26, trivial⟩ ?fin
      case s0 =>
        intro ρ W hb hc hf hr
        obtain ⟨r5, -⟩ := hr
        have e5 : ρ (.tmp 5) = .bool true := r5
        clear r5
        refine under_none rfl ?_
        exact ⟨e5, Below.refl _ _⟩
      case s1 =>
        intro ρ W hb hc hf hr
        obtain ⟨r50, -⟩ := hr
        have e50 : ρ (.tmp 50) = .bool true := r50
        clear r50
        refine under_none rfl ?_
        exact ⟨e50, Below.refl _ _⟩
      case s2 =>
        intro ρ W hb hc hf hr
        obtain ⟨r10, r51, -⟩ := hr
        have e10 : ρ (.tmp 10) = .int .i64 (C : Int) := r10
        clear r10
        have e51 : ρ (.tmp 51) = .bool true := r51
        clear r51
        refine ⟨51, rfl, .inl ⟨e51, ?_⟩⟩
        exact ⟨e10, Below.refl _ _⟩
      case s3 =>
        intro ρ W hb hc hf hr
        obtain ⟨r52, r51, -⟩ := hr
        have e52 : ρ (.tmp 52) = .int .i64 (C : Int) := r52
        clear r52
        have e51 : ρ (.tmp 51) = .bool true := r51
        clear r51
        refine ⟨51, rfl, .inl ⟨e51, ?_⟩⟩
        exact soft_bin e52 (hc _) rfl rfl (NE.out W)
      case s4 =>
        intro ρ W hb hc hf hr
        obtain ⟨r53, r51, -⟩ := hr
        have e53 : ρ (.tmp 53) = .bool true := r53
        clear r53
        have e51 : ρ (.tmp 51) = .bool true := r51
        clear r51
        refine ⟨51, rfl, .inl ⟨e51, ?_⟩⟩
        exact ⟨e53, Below.refl _ _⟩
      case s5 =>
        intro ρ W hb hc hf hr
        obtain ⟨r9, r54, -⟩ := hr
        have e9 : ρ (.tmp 9) = .pointer (some ⟨w5.heap.size, 0, none⟩) := r9
        clear r9
        have e54 : ρ (.tmp 54) = .bool true := r54
        clear r54
        refine ⟨54, rfl, .inl ⟨e54, ?_⟩⟩
        exact soft_load e9 (LY.out W (undrew13 hb)) rfl
      case s6 =>
        intro ρ W hb hc hf hr
        obtain ⟨r54, -⟩ := hr
        have e54 : ρ (.tmp 54) = .bool true := r54
        clear r54
        refine ⟨54, rfl, .inl ⟨e54, ?_⟩⟩
        exact soft13_buildZ rfl
      case s7 =>
        intro ρ W hb hc hf hr
        obtain ⟨r55, r56, r54, -⟩ := hr
        have e55 : ρ (.tmp 55) = .agg #[.int .i64 gk, .int .i64 gi, .int .i64 gc, .int .i64 gt, .bool gp, .slice A5 gn c5] := r55
        clear r55
        have e56 : ρ (.tmp 56) = .agg #[.int .i64 0, .int .i64 0, .int .i64 0, .int .i64 0, .bool false, .slice none 0 0] := r56
        clear r56
        have e54 : ρ (.tmp 54) = .bool true := r54
        clear r54
        refine ⟨54, rfl, .inl ⟨e54, ?_⟩⟩
        exact soft_call2 hf e55 e56 (HSM.out W (undrew13 hb)) rfl (by kernel_rfl) below_is
      case s8 =>
        intro ρ W hb hc hf hr
        obtain ⟨r54, r57, r51, -⟩ := hr
        have e54 : ρ (.tmp 54) = .bool true := r54
        clear r54
        have e57 : ρ (.tmp 57) = .bool true := r57
        clear r57
        have e51 : ρ (.tmp 51) = .bool true := r51
        clear r51
        refine ⟨51, rfl, .inl ⟨e51, ?_⟩⟩
        simp [execOp, e54, e57, go_sem, softUpon, Fact.is, Below.refl]
      case s9 =>
        intro ρ W hb hc hf hr
        obtain ⟨r58, r51, -⟩ := hr
        have e58 : ρ (.tmp 58) = .bool true := r58
        clear r58
        have e51 : ρ (.tmp 51) = .bool true := r51
        clear r51
        refine ⟨51, rfl, .inl ⟨e51, ?_⟩⟩
        exact ⟨e58, Below.refl _ _⟩
      case s10 =>
        intro ρ W hb hc hf hr
        obtain ⟨r10, r59, -⟩ := hr
        have e10 : ρ (.tmp 10) = .int .i64 (C : Int) := r10
        clear r10
        have e59 : ρ (.tmp 59) = .bool true := r59
        clear r59
        exact ⟨59, rfl, .inr (.inl ⟨e59, rfl⟩)⟩
      case s11 =>
        intro ρ W hb hc hf hr
        obtain ⟨r60, r59, -⟩ := hr
        have e60 : ρ (.tmp 60) = undef := r60
        clear r60
        have e59 : ρ (.tmp 59) = .bool true := r59
        clear r59
        exact ⟨59, rfl, .inr (.inl ⟨e59, rfl⟩)⟩
      case s12 =>
        intro ρ W hb hc hf hr
        obtain ⟨r61, r59, -⟩ := hr
        have e61 : ρ (.tmp 61) = undef := r61
        clear r61
        have e59 : ρ (.tmp 59) = .bool true := r59
        clear r59
        exact ⟨59, rfl, .inr (.inl ⟨e59, rfl⟩)⟩
      case s13 =>
        intro ρ W hb hc hf hr
        obtain ⟨r9, r62, -⟩ := hr
        have e9 : ρ (.tmp 9) = .pointer (some ⟨w5.heap.size, 0, none⟩) := r9
        clear r9
        have e62 : ρ (.tmp 62) = undef := r62
        clear r62
        exact ⟨62, rfl, .inr (.inr ⟨e62, rfl⟩)⟩
      case s14 =>
        intro ρ W hb hc hf hr
        obtain ⟨r63, r62, -⟩ := hr
        have e63 : ρ (.tmp 63) = undef := r63
        clear r63
        have e62 : ρ (.tmp 62) = undef := r62
        clear r62
        exact ⟨62, rfl, .inr (.inr ⟨e62, rfl⟩)⟩
      case s15 =>
        intro ρ W hb hc hf hr
        obtain ⟨r62, r64, r59, -⟩ := hr
        have e62 : ρ (.tmp 62) = undef := r62
        clear r62
        have e64 : ρ (.tmp 64) = undef := r64
        clear r64
        have e59 : ρ (.tmp 59) = .bool true := r59
        clear r59
        exact ⟨59, rfl, .inr (.inl ⟨e59, rfl⟩)⟩
      case s16 =>
        intro ρ W hb hc hf hr
        obtain ⟨r65, r59, -⟩ := hr
        have e65 : ρ (.tmp 65) = undef := r65
        clear r65
        have e59 : ρ (.tmp 59) = .bool true := r59
        clear r59
        exact ⟨59, rfl, .inr (.inl ⟨e59, rfl⟩)⟩
      case s17 =>
        intro ρ W hb hc hf hr
        obtain ⟨r9, r66, -⟩ := hr
        have e9 : ρ (.tmp 9) = .pointer (some ⟨w5.heap.size, 0, none⟩) := r9
        clear r9
        have e66 : ρ (.tmp 66) = undef := r66
        clear r66
        exact ⟨66, rfl, .inr (.inr ⟨e66, rfl⟩)⟩
      case s18 =>
        intro ρ W hb hc hf hr
        obtain ⟨r67, r66, -⟩ := hr
        have e67 : ρ (.tmp 67) = undef := r67
        clear r67
        have e66 : ρ (.tmp 66) = undef := r66
        clear r66
        exact ⟨66, rfl, .inr (.inr ⟨e66, rfl⟩)⟩
      case s19 =>
        intro ρ W hb hc hf hr
        obtain ⟨r68, r66, -⟩ := hr
        have e68 : ρ (.tmp 68) = undef := r68
        clear r68
        have e66 : ρ (.tmp 66) = undef := r66
        clear r66
        exact ⟨66, rfl, .inr (.inr ⟨e66, rfl⟩)⟩
      case s20 =>
        intro ρ W hb hc hf hr
        obtain ⟨r1, r66, -⟩ := hr
        have e1 : ρ (.tmp 1) = .slice B m2 cap2 := r1
        clear r1
        have e66 : ρ (.tmp 66) = undef := r66
        clear r66
        exact ⟨66, rfl, .inr (.inr ⟨e66, rfl⟩)⟩
      case s21 =>
        intro ρ W hb hc hf hr
        obtain ⟨r70, r66, -⟩ := hr
        have e70 : ρ (.tmp 70) = undef := r70
        clear r70
        have e66 : ρ (.tmp 66) = undef := r66
        clear r66
        exact ⟨66, rfl, .inr (.inr ⟨e66, rfl⟩)⟩
      case s22 =>
        intro ρ W hb hc hf hr
        obtain ⟨r69, r71, r66, -⟩ := hr
        have e69 : ρ (.tmp 69) = undef := r69
        clear r69
        have e71 : ρ (.tmp 71) = undef := r71
        clear r71
        have e66 : ρ (.tmp 66) = undef := r66
        clear r66
        exact ⟨66, rfl, .inr (.inr ⟨e66, rfl⟩)⟩
      case s23 =>
        intro ρ W hb hc hf hr
        obtain ⟨r66, r72, r59, -⟩ := hr
        have e66 : ρ (.tmp 66) = undef := r66
        clear r66
        have e72 : ρ (.tmp 72) = undef := r72
        clear r72
        have e59 : ρ (.tmp 59) = .bool true := r59
        clear r59
        exact ⟨59, rfl, .inr (.inl ⟨e59, rfl⟩)⟩
      case s24 =>
        intro ρ W hb hc hf hr
        obtain ⟨r59, r73, r51, -⟩ := hr
        have e59 : ρ (.tmp 59) = .bool true := r59
        clear r59
        have e73 : ρ (.tmp 73) = undef := r73
        clear r73
        have e51 : ρ (.tmp 51) = .bool true := r51
        clear r51
        refine ⟨51, rfl, .inl ⟨e51, ?_⟩⟩
        simp [execOp, e59, hc, go_sem, softUpon, Fact.is, Below.refl]
      case s25 =>
        intro ρ W hb hc hf hr
        obtain ⟨r51, r74, -⟩ := hr
        have e51 : ρ (.tmp 51) = .bool true := r51
        clear r51
        have e74 : ρ (.tmp 74) = .bool true := r74
        clear r74
        refine under_none rfl ?_
        simp [execOp, e51, e74, go_sem, softUpon, Fact.is, Below.refl]
      case s26 =>
        intro ρ W hb hc hf hr
        obtain ⟨r75, -⟩ := hr
        have e75 : ρ (.tmp 75) = .bool true := r75
        clear r75
        refine under_none rfl ?_
        exact ⟨e75, Below.refl _ _⟩
      case fin =>
        intro a w7 hb hd hk
        have h4 : a.tmps.getD 4 undef = .bool true := hk 4
        clear hk
        have hc := HB6.out.trans ((undrew13 hb).mono HB6.out.size)
        go_wp2
        refine bodyPost_ret (results_tmp rfl _ _ _) hd ?_
        exact ⟨by rw [h4], hc⟩
  · obtain rfl : RR = true := HPOS.out.1 (by omega)
    have h0p : 0 < m1 := by omega
    have HGP1 := Lib.hid (HGP.out (HGQ.out rfl) A4 c4)
    clear h0
    go_wp2_with fail
    refine (HR.out w3 HB3.out).mono ?_
    rintro e w4 ⟨rfl, hb4⟩
    have HB4 := Lib.hid (HB3.out.trans (hb4.mono HB3.out.size))
    have HX4 := Lib.hid (show Blk w4 w.heap.size _ _ from (hb4.block _ HX3.out.lt).trans HX3.out)
    have HGP2 := Lib.hid (HGP1.out w4 HB4.out hl4 hm4 (by omega) (HL3.out.below hb4))
    clear hb4 x0 x1 x2 x3 x4 x5
    go_wp2_with fail
    refine HGP2.out.mono ?_
    rintro e w8 ⟨A6, c6, rfl, hl6, hm6, hL6, hb8⟩
    have HL8 := Lib.hid hL6
    have hb8a : Below w4.heap.size w4 (w8.alloc (.cells #[.int .i64 kind, .int .i64 id, .int .i64 cls, .int .i64 tick, .bool pin, .slice A6 n c6] 24)) := hb8.alloc hb8.size _
    have HB8 := Lib.hid (HB4.out.trans (hb8a.mono HB4.out.size))
    have HX8 := Lib.hid (show Blk (w8.alloc (.cells #[.int .i64 kind, .int .i64 id, .int .i64 cls, .int .i64 tick, .bool pin, .slice A6 n c6] 24)) w.heap.size #[.int .i64 kind, .int .i64 id, .int .i64 cls, .int .i64 tick, .bool pin, .slice A n cap] 24 from (hb8a.block _ HX4.out.lt).trans HX4.out)
    have HS8 := Lib.hid (HSQ.out A6 c6 (w8.alloc (.cells #[.int .i64 kind, .int .i64 id, .int .i64 cls, .int .i64 tick, .bool pin, .slice A6 n c6] 24)) hl6 hm6 (HL8.out.below ((Below.refl _ _).alloc (Nat.le_refl _) _)) HB8.out)
    clear hb8 hb8a hL6
    obtain ⟨x0, x1, x2, x3, x4, x5⟩ := six13 HX8.out
    go_wp2_with fail
    refine HS8.out.mono ?_
    rintro e w9 ⟨rfl, hb9⟩
    have HB9 := Lib.hid (HB8.out.trans (hb9.mono HB8.out.size))
    clear hb9 x0 x1 x2 x3 x4 x5
    go_wp2_with fail
    refine (HGD1.out w9 HB9.out).mono ?_
    rintro e w5 ⟨A5, c5, rfl, hl5, hm5, hL5, hF5, hb5⟩
    obtain ⟨w6, hw6⟩ : ∃ w6, w5.alloc (.cells #[.int .i64 gk, .int .i64 gi, .int .i64 gc, .int .i64 gt, .bool gp, .slice A5 gn c5] 24) = w6 := ⟨_, rfl⟩
    have hb6 : Below w9.heap.size w9 w6 := by rw [← hw6]; exact hb5.alloc hb5.size _
    have HB6 := Lib.hid (Below.trans HB9.out (hb6.mono (Below.size HB9.out)))
    have HL6 := Lib.hid (show Lies w6 A5 (flat gs) by rw [← hw6]; exact hL5.below ((Below.refl _ _).alloc (Nat.le_refl _) _))
    have HZ6 := Lib.hid (show Blk w6 w5.heap.size #[.int .i64 gk, .int .i64 gi, .int .i64 gc, .int .i64 gt, .bool gp, .slice A5 gn c5] 24 by rw [← hw6]; exact Blk.new _ _ _)
    have LY := Lib.hid (fun (W : World) (h : Below w6.heap.size w6 W) => load13 HZ6.out W h)
    have HF6 := Lib.hid hF5
    have HW6 := Lib.hid hw6
    clear hb5 hb6 hL5 hF5 hw6
    rcases HCC.out with hc0 | hc0
    · have hrb := HRB.out hc0
      have HRY := Lib.hid (fun (W : World) (h : Below w6.heap.size w6 W) => HRY0.out hrb.1 HF6.out A5 c5 W hl5 hm5 (HL6.out.below h))
      have HPY := Lib.hid (fun (W : World) (h : Below w6.heap.size w6 W) => HPY0.out hrb.2 HF6.out A5 c5 W hl5 hm5 (HL6.out.below h))
      have CB := Lib.hid (fun (W : World) (h : Below w6.heap.size w6 W) => HCB.out W (HB6.out.trans (h.mono HB6.out.size)))
      have NE := Lib.hid (fun (W : World) => nee13_D W (C : Int) false (by rw [bne_eq_false_iff_eq]; omega))
      have EQ := Lib.hid (fun (W : World) => eqe13_D W (C : Int) true (by rw [beq_iff_eq]; omega))
      clear hrb hc0
      go_wp2
      rw [HW6.out]
      refine wp_soft (by kernel_rfl) 76 [(50, [5]), (51, [50]), (52, [10, 51]), (53, [52, 51]), (54, [53, 51]), (55, [9, 54]), (56, [54]), (57, [55, 56, 54]), (58, [54, 57, 51]), (59, [58, 51]), (60, [10, 59]), (61, [60, 59]), (62, [61, 59]), (63, [9, 62]), (64, [63, 62]), (65, [62, 64, 59]), (66, [65, 59]), (67, [9, 66]), (68, [67, 66]), (69, [68, 66]), (70, [1, 66]), (71, [70, 66]), (72, [69, 71, 66]), (73, [66, 72, 59]), (74, [59, 73, 51]), (75, [51, 74]), (4, [75])]
        [Fact.is (.bool true), Fact.is (.bool true), Fact.is (.int .i64 (C : Int)), Fact.is (.bool false), Fact.is (.bool false), Fact.is (undef), Fact.is (undef), Fact.is (undef), Fact.is (.bool false), Fact.is (.bool false), Fact.is (.int .i64 (C : Int)), Fact.is (.bool true), Fact.is (.bool true), Fact.is (.agg #[.int .i64 gk, .int .i64 gi, .int .i64 gc, .int .i64 gt, .bool gp, .slice A5 gn c5]), Fact.is (.bool true), Fact.is (.bool true), Fact.is (.bool true), Fact.is (.agg #[.int .i64 gk, .int .i64 gi, .int .i64 gc, .int .i64 gt, .bool gp, .slice A5 gn c5]), Fact.own x, Fact.is (.string (str x)), Fact.is (.slice B m2 cap2), Fact.is (.string (str x)), Fact.is (.bool true), Fact.is (.bool true), Fact.is (.bool true), Fact.is (.bool true), Fact.is (.bool true)]
        (by kernel_rfl) rfl rfl ⟨?s0, ?s1, ?s2, ?s3, ?s4, ?s5, ?s6, ?s7, ?s8, ?s9, ?s10, ?s11, ?s12, ?s13, ?s14, ?s15, ?s16, ?s17, ?s18, ?s19, ?s20, ?s21, ?s22, ?s23, ?s24, ?s25, ?s26, trivial⟩ ?fin
      case s0 =>
        intro ρ W hb hc hf hr
        obtain ⟨r5, -⟩ := hr
        have e5 : ρ (.tmp 5) = .bool true := r5
        clear r5
        refine under_none rfl ?_
        exact ⟨e5, Below.refl _ _⟩
      case s1 =>
        intro ρ W hb hc hf hr
        obtain ⟨r50, -⟩ := hr
        have e50 : ρ (.tmp 50) = .bool true := r50
        clear r50
        refine under_none rfl ?_
        exact ⟨e50, Below.refl _ _⟩
      case s2 =>
        intro ρ W hb hc hf hr
        obtain ⟨r10, r51, -⟩ := hr
        have e10 : ρ (.tmp 10) = .int .i64 (C : Int) := r10
        clear r10
        have e51 : ρ (.tmp 51) = .bool true := r51
        clear r51
        refine ⟨51, rfl, .inl ⟨e51, ?_⟩⟩
        exact ⟨e10, Below.refl _ _⟩
      case s3 =>
        intro ρ W hb hc hf hr
        obtain ⟨r52, r51, -⟩ := hr
        have e52 : ρ (.tmp 52) = .int .i64 (C : Int) := r52
        clear r52
        have e51 : ρ (.tmp 51) = .bool true := r51
        clear r51
        refine ⟨51, rfl, .inl ⟨e51, ?_⟩⟩
        exact soft_bin e52 (hc _) rfl rfl (NE.out W)
      case s4 =>
        intro ρ W hb hc hf hr
        obtain ⟨r53, r51, -⟩ := hr
        have e53 : ρ (.tmp 53) = .bool false := r53
        clear r53
        have e51 : ρ (.tmp 51) = .bool true := r51
        clear r51
        refine ⟨51, rfl, .inl ⟨e51, ?_⟩⟩
        exact ⟨e53, Below.refl _ _⟩
      case s5 =>
        intro ρ W hb hc hf hr
        obtain ⟨r9, r54, -⟩ := hr
        have e9 : ρ (.tmp 9) = .pointer (some ⟨w5.heap.size, 0, none⟩) := r9
        clear r9
        have e54 : ρ (.tmp 54) = .bool false := r54
        clear r54
        exact ⟨54, rfl, .inr (.inl ⟨e54, rfl⟩)⟩
      case s6 =>
        intro ρ W hb hc hf hr
        obtain ⟨r54, -⟩ := hr
        have e54 : ρ (.tmp 54) = .bool false := r54
        clear r54
        exact ⟨54, rfl, .inr (.inl ⟨e54, rfl⟩)⟩
      case s7 =>
        intro ρ W hb hc hf hr
        obtain ⟨r55, r56, r54, -⟩ := hr
        have e55 : ρ (.tmp 55) = undef := r55
        clear r55
        have e56 : ρ (.tmp 56) = undef := r56
        clear r56
        have e54 : ρ (.tmp 54) = .bool false := r54
        clear r54
        exact ⟨54, rfl, .inr (.inl ⟨e54, rfl⟩)⟩
      case s8 =>
        intro ρ W hb hc hf hr
        obtain ⟨r54, r57, r51, -⟩ := hr
        have e54 : ρ (.tmp 54) = .bool false := r54
        clear r54
        have e57 : ρ (.tmp 57) = undef := r57
        clear r57
        have e51 : ρ (.tmp 51) = .bool true := r51
        clear r51
        refine ⟨51, rfl, .inl ⟨e51, ?_⟩⟩
        simp [execOp, e54, hc, go_sem, softUpon, Fact.is, Below.refl]
      case s9 =>
        intro ρ W hb hc hf hr
        obtain ⟨r58, r51, -⟩ := hr
        have e58 : ρ (.tmp 58) = .bool false := r58
        clear r58
        have e51 : ρ (.tmp 51) = .bool true := r51
        clear r51
        refine ⟨51, rfl, .inl ⟨e51, ?_⟩⟩
        exact ⟨e58, Below.refl _ _⟩
      case s10 =>
        intro ρ W hb hc hf hr
        obtain ⟨r10, r59, -⟩ := hr
        have e10 : ρ (.tmp 10) = .int .i64 (C : Int) := r10
        clear r10
        have e59 : ρ (.tmp 59) = .bool false := r59
        clear r59
        refine ⟨59, rfl, .inl ⟨e59, ?_⟩⟩
        exact ⟨e10, Below.refl _ _⟩
      case s11 =>
        intro ρ W hb hc hf hr
        obtain ⟨r60, r59, -⟩ := hr
        have e60 : ρ (.tmp 60) = .int .i64 (C : Int) := r60
        clear r60
        have e59 : ρ (.tmp 59) = .bool false := r59
        clear r59
        refine ⟨59, rfl, .inl ⟨e59, ?_⟩⟩
        exact soft_bin e60 (hc _) rfl rfl (EQ.out W)
      case s12 =>
        intro ρ W hb hc hf hr
        obtain ⟨r61, r59, -⟩ := hr
        have e61 : ρ (.tmp 61) = .bool true := r61
        clear r61
        have e59 : ρ (.tmp 59) = .bool false := r59
        clear r59
        refine ⟨59, rfl, .inl ⟨e59, ?_⟩⟩
        exact ⟨e61, Below.refl _ _⟩
      case s13 =>
        intro ρ W hb hc hf hr
        obtain ⟨r9, r62, -⟩ := hr
        have e9 : ρ (.tmp 9) = .pointer (some ⟨w5.heap.size, 0, none⟩) := r9
        clear r9
        have e62 : ρ (.tmp 62) = .bool true := r62
        clear r62
        refine ⟨62, rfl, .inl ⟨e62, ?_⟩⟩
        exact soft_load e9 (LY.out W (undrew13 hb)) rfl
      case s14 =>
        intro ρ W hb hc hf hr
        obtain ⟨r63, r62, -⟩ := hr
        have e63 : ρ (.tmp 63) = .agg #[.int .i64 gk, .int .i64 gi, .int .i64 gc, .int .i64 gt, .bool gp, .slice A5 gn c5] := r63
        clear r63
        have e62 : ρ (.tmp 62) = .bool true := r62
        clear r62
        refine ⟨62, rfl, .inl ⟨e62, ?_⟩⟩
        exact soft_call1 hf e63 (HRY.out W (undrew13 hb)) rfl (by kernel_rfl) below_is
      case s15 =>
        intro ρ W hb hc hf hr
        obtain ⟨r62, r64, r59, -⟩ := hr
        have e62 : ρ (.tmp 62) = .bool true := r62
        clear r62
        have e64 : ρ (.tmp 64) = .bool true := r64
        clear r64
        have e59 : ρ (.tmp 59) = .bool false := r59
        clear r59
        refine ⟨59, rfl, .inl ⟨e59, ?_⟩⟩
        simp [execOp, e62, e64, go_sem, softUpon, Fact.is, Below.refl]
      case s16 =>
        intro ρ W hb hc hf hr
        obtain ⟨r65, r59, -⟩ := hr
        have e65 : ρ (.tmp 65) = .bool true := r65
        clear r65
        have e59 : ρ (.tmp 59) = .bool false := r59
        clear r59
        refine ⟨59, rfl, .inl ⟨e59, ?_⟩⟩
        exact ⟨e65, Below.refl _ _⟩
      case s17 =>
        intro ρ W hb hc hf hr
        obtain ⟨r9, r66, -⟩ := hr
        have e9 : ρ (.tmp 9) = .pointer (some ⟨w5.heap.size, 0, none⟩) := r9
        clear r9
        have e66 : ρ (.tmp 66) = .bool true := r66
        clear r66
        refine ⟨66, rfl, .inl ⟨e66, ?_⟩⟩
        exact soft_load e9 (LY.out W (undrew13 hb)) rfl
      case s18 =>
        intro ρ W hb hc hf hr
        obtain ⟨r67, r66, -⟩ := hr
        have e67 : ρ (.tmp 67) = .agg #[.int .i64 gk, .int .i64 gi, .int .i64 gc, .int .i64 gt, .bool gp, .slice A5 gn c5] := r67
        clear r67
        have e66 : ρ (.tmp 66) = .bool true := r66
        clear r66
        refine ⟨66, rfl, .inl ⟨e66, ?_⟩⟩
        exact soft_call1 hf e67 (HPY.out W (undrew13 hb)) rfl (by kernel_rfl) made_own
      case s19 =>
        intro ρ W hb hc hf hr
        obtain ⟨r68, r66, -⟩ := hr
        have e66 : ρ (.tmp 66) = .bool true := r66
        clear r66
        refine ⟨66, rfl, .inl ⟨e66, ?_⟩⟩
        exact soft_own r68 rfl
      case s20 =>
        intro ρ W hb hc hf hr
        obtain ⟨r1, r66, -⟩ := hr
        have e1 : ρ (.tmp 1) = .slice B m2 cap2 := r1
        clear r1
        have e66 : ρ (.tmp 66) = .bool true := r66
        clear r66
        refine ⟨66, rfl, .inl ⟨e66, ?_⟩⟩
        exact ⟨e1, Below.refl _ _⟩
      case s21 =>
        intro ρ W hb hc hf hr
        obtain ⟨r70, r66, -⟩ := hr
        have e70 : ρ (.tmp 70) = .slice B m2 cap2 := r70
        clear r70
        have e66 : ρ (.tmp 66) = .bool true := r66
        clear r66
        refine ⟨66, rfl, .inl ⟨e66, ?_⟩⟩
        exact soft_conv e70 (CB.out W (undrew13 hb)) rfl
      case s22 =>
        intro ρ W hb hc hf hr
        obtain ⟨r69, r71, r66, -⟩ := hr
        have e69 : ρ (.tmp 69) = .string (str x) := r69
        clear r69
        have e71 : ρ (.tmp 71) = .string (str x) := r71
        clear r71
        have e66 : ρ (.tmp 66) = .bool true := r66
        clear r66
        refine ⟨66, rfl, .inl ⟨e66, ?_⟩⟩
        exact soft_bin e69 e71 rfl rfl (eqs13_D W x x true (decide_eq_true rfl))
      case s23 =>
        intro ρ W hb hc hf hr
        obtain ⟨r66, r72, r59, -⟩ := hr
        have e66 : ρ (.tmp 66) = .bool true := r66
        clear r66
        have e72 : ρ (.tmp 72) = .bool true := r72
        clear r72
        have e59 : ρ (.tmp 59) = .bool false := r59
        clear r59
        refine ⟨59, rfl, .inl ⟨e59, ?_⟩⟩
        simp [execOp, e66, e72, go_sem, softUpon, Fact.is, Below.refl]
      case s24 =>
        intro ρ W hb hc hf hr
        obtain ⟨r59, r73, r51, -⟩ := hr
        have e59 : ρ (.tmp 59) = .bool false := r59
        clear r59
        have e73 : ρ (.tmp 73) = .bool true := r73
        clear r73
        have e51 : ρ (.tmp 51) = .bool true := r51
        clear r51
        refine ⟨51, rfl, .inl ⟨e51, ?_⟩⟩
        simp [execOp, e59, e73, go_sem, softUpon, Fact.is, Below.refl]
      case s25 =>
        intro ρ W hb hc hf hr
        obtain ⟨r51, r74, -⟩ := hr
        have e51 : ρ (.tmp 51) = .bool true := r51
        clear r51
        have e74 : ρ (.tmp 74) = .bool true := r74
        clear r74
        refine under_none rfl ?_
        simp [execOp, e51, e74, go_sem, softUpon, Fact.is, Below.refl]
      case s26 =>
        intro ρ W hb hc hf hr
        obtain ⟨r75, -⟩ := hr
        have e75 : ρ (.tmp 75) = .bool true := r75
        clear r75
        refine under_none rfl ?_
        exact ⟨e75, Below.refl _ _⟩
      case fin =>
        intro a w7 hb hd hk
        have h4 : a.tmps.getD 4 undef = .bool true := hk 4
        clear hk
        have hc := HB6.out.trans ((undrew13 hb).mono HB6.out.size)
        go_wp2
        refine bodyPost_ret (results_tmp rfl _ _ _) hd ?_
        exact ⟨by rw [h4], hc⟩
    · have hz := HRC.out.2.1 hc0
      have HSM := Lib.hid (fun (W : World) (h : Below w6.heap.size w6 W) => HSM0.out hz A5 c5 W hl5 hm5 (HL6.out.below h))
      have NE := Lib.hid (fun (W : World) => nee13_D W (C : Int) true (by rw [bne_iff_ne]; omega))
      clear hz hc0
      go_wp2
      rw [HW6.out]
      refine wp_soft (by kernel_rfl) 76 [(50, [5]), (51, [50]), (52, [10, 51]), (53, [52, 51]), (54, [53, 51]), (55, [9, 54]), (56, [54]), (57, [55, 56, 54]), (58, [54, 57, 51]), (59, [58, 51]), (60, [10, 59]), (61, [60, 59]), (62, [61, 59]), (63, [9, 62]), (64, [63, 62]), (65, [62, 64, 59]), (66, [65, 59]), (67, [9, 66]), (68, [67, 66]), (69, [68, 66]), (70, [1, 66]), (71, [70, 66]), (72, [69, 71, 66]), (73, [66, 72, 59]), (74, [59, 73, 51]), (75, [51, 74]), (4, [75])]
        [Fact.is (.bool true), Fact.is (.bool true), Fact.is (.int .i64 (C : Int)), Fact.is (.bool true), Fact.is (.bool true), Fact.is (.agg #[.int .i64 gk, .int .i64 gi, .int .i64 gc, .int .i64 gt, .bool gp, .slice A5 gn c5]), Fact.is (.agg #[.int .i64 0, .int .i64 0, .int .i64 0, .int .i64 0, .bool false, .slice none 0 0]), Fact.is (.bool true), Fact.is (.bool true), Fact.is (.bool true), Fact.is (undef), Fact.is (undef), Fact.is (undef), Fact.is (undef), Fact.is (undef), Fact.is (undef), Fact.is (undef), Fact.is (undef), Fact.is (undef), Fact.is (undef), Fact.is (undef), Fact.is (undef), Fact.is (undef), Fact.is (undef), Fact.is (.bool true), Fact.is (.bool true), Fact.is (.bool true)]
        (by kernel_rfl) rfl rfl ⟨?s0, ?s1, ?s2, ?s3, ?s4, ?s5, ?s6, ?s7, ?s8, ?s9, ?s10, ?s11, ?s12, ?s13, ?s14, ?s15, ?s16, ?s17, ?s18, ?s19, ?s20, ?s21, ?s22, ?s23, ?s24, ?s25, ?s26, trivial⟩ ?fin
      case s0 =>
        intro ρ W hb hc hf hr
        obtain ⟨r5, -⟩ := hr
        have e5 : ρ (.tmp 5) = .bool true := r5
        clear r5
        refine under_none rfl ?_
        exact ⟨e5, Below.refl _ _⟩
      case s1 =>
        intro ρ W hb hc hf hr
        obtain ⟨r50, -⟩ := hr
        have e50 : ρ (.tmp 50) = .bool true := r50
        clear r50
        refine under_none rfl ?_
        exact ⟨e50, Below.refl _ _⟩
      case s2 =>
        intro ρ W hb hc hf hr
        obtain ⟨r10, r51, -⟩ := hr
        have e10 : ρ (.tmp 10) = .int .i64 (C : Int) := r10
        clear r10
        have e51 : ρ (.tmp 51) = .bool true := r51
        clear r51
        refine ⟨51, rfl, .inl ⟨e51, ?_⟩⟩
        exact ⟨e10, Below.refl _ _⟩
      case s3 =>
        intro ρ W hb hc hf hr
        obtain ⟨r52, r51, -⟩ := hr
        have e52 : ρ (.tmp 52) = .int .i64 (C : Int) := r52
        clear r52
        have e51 : ρ (.tmp 51) = .bool true := r51
        clear r51
        refine ⟨51, rfl, .inl ⟨e51, ?_⟩⟩
        exact soft_bin e52 (hc _) rfl rfl (NE.out W)
      case s4 =>
        intro ρ W hb hc hf hr
        obtain ⟨r53, r51, -⟩ := hr
        have e53 : ρ (.tmp 53) = .bool true := r53
        clear r53
        have e51 : ρ (.tmp 51) = .bool true := r51
        clear r51
        refine ⟨51, rfl, .inl ⟨e51, ?_⟩⟩
        exact ⟨e53, Below.refl _ _⟩
      case s5 =>
        intro ρ W hb hc hf hr
        obtain ⟨r9, r54, -⟩ := hr
        have e9 : ρ (.tmp 9) = .pointer (some ⟨w5.heap.size, 0, none⟩) := r9
        clear r9
        have e54 : ρ (.tmp 54) = .bool true := r54
        clear r54
        refine ⟨54, rfl, .inl ⟨e54, ?_⟩⟩
        exact soft_load e9 (LY.out W (undrew13 hb)) rfl
      case s6 =>
        intro ρ W hb hc hf hr
        obtain ⟨r54, -⟩ := hr
        have e54 : ρ (.tmp 54) = .bool true := r54
        clear r54
        refine ⟨54, rfl, .inl ⟨e54, ?_⟩⟩
        exact soft13_buildZ rfl
      case s7 =>
        intro ρ W hb hc hf hr
        obtain ⟨r55, r56, r54, -⟩ := hr
        have e55 : ρ (.tmp 55) = .agg #[.int .i64 gk, .int .i64 gi, .int .i64 gc, .int .i64 gt, .bool gp, .slice A5 gn c5] := r55
        clear r55
        have e56 : ρ (.tmp 56) = .agg #[.int .i64 0, .int .i64 0, .int .i64 0, .int .i64 0, .bool false, .slice none 0 0] := r56
        clear r56
        have e54 : ρ (.tmp 54) = .bool true := r54
        clear r54
        refine ⟨54, rfl, .inl ⟨e54, ?_⟩⟩
        exact soft_call2 hf e55 e56 (HSM.out W (undrew13 hb)) rfl (by kernel_rfl) below_is
      case s8 =>
        intro ρ W hb hc hf hr
        obtain ⟨r54, r57, r51, -⟩ := hr
        have e54 : ρ (.tmp 54) = .bool true := r54
        clear r54
        have e57 : ρ (.tmp 57) = .bool true := r57
        clear r57
        have e51 : ρ (.tmp 51) = .bool true := r51
        clear r51
        refine ⟨51, rfl, .inl ⟨e51, ?_⟩⟩
        simp [execOp, e54, e57, go_sem, softUpon, Fact.is, Below.refl]
      case s9 =>
        intro ρ W hb hc hf hr
        obtain ⟨r58, r51, -⟩ := hr
        have e58 : ρ (.tmp 58) = .bool true := r58
        clear r58
        have e51 : ρ (.tmp 51) = .bool true := r51
        clear r51
        refine ⟨51, rfl, .inl ⟨e51, ?_⟩⟩
        exact ⟨e58, Below.refl _ _⟩
      case s10 =>
        intro ρ W hb hc hf hr
        obtain ⟨r10, r59, -⟩ := hr
        have e10 : ρ (.tmp 10) = .int .i64 (C : Int) := r10
        clear r10
        have e59 : ρ (.tmp 59) = .bool true := r59
        clear r59
        exact ⟨59, rfl, .inr (.inl ⟨e59, rfl⟩)⟩
      case s11 =>
        intro ρ W hb hc hf hr
        obtain ⟨r60, r59, -⟩ := hr
        have e60 : ρ (.tmp 60) = undef := r60
        clear r60
        have e59 : ρ (.tmp 59) = .bool true := r59
        clear r59
        exact ⟨59, rfl, .inr (.inl ⟨e59, rfl⟩)⟩
      case s12 =>
        intro ρ W hb hc hf hr
        obtain ⟨r61, r59, -⟩ := hr
        have e61 : ρ (.tmp 61) = undef := r61
        clear r61
        have e59 : ρ (.tmp 59) = .bool true := r59
        clear r59
        exact ⟨59, rfl, .inr (.inl ⟨e59, rfl⟩)⟩
      case s13 =>
        intro ρ W hb hc hf hr
        obtain ⟨r9, r62, -⟩ := hr
        have e9 : ρ (.tmp 9) = .pointer (some ⟨w5.heap.size, 0, none⟩) := r9
        clear r9
        have e62 : ρ (.tmp 62) = undef := r62
        clear r62
        exact ⟨62, rfl, .inr (.inr ⟨e62, rfl⟩)⟩
      case s14 =>
        intro ρ W hb hc hf hr
        obtain ⟨r63, r62, -⟩ := hr
        have e63 : ρ (.tmp 63) = undef := r63
        clear r63
        have e62 : ρ (.tmp 62) = undef := r62
        clear r62
        exact ⟨62, rfl, .inr (.inr ⟨e62, rfl⟩)⟩
      case s15 =>
        intro ρ W hb hc hf hr
        obtain ⟨r62, r64, r59, -⟩ := hr
        have e62 : ρ (.tmp 62) = undef := r62
        clear r62
        have e64 : ρ (.tmp 64) = undef := r64
        clear r64
        have e59 : ρ (.tmp 59) = .bool true := r59
        clear r59
        exact ⟨59, rfl, .inr (.inl ⟨e59, rfl⟩)⟩
      case s16 =>
        intro ρ W hb hc hf hr
        obtain ⟨r65, r59, -⟩ := hr
        have e65 : ρ (.tmp 65) = undef := r65
        clear r65
        have e59 : ρ (.tmp 59) = .bool true := r59
        clear r59
        exact ⟨59, rfl, .inr (.inl ⟨e59, rfl⟩)⟩
      case s17 =>
        intro ρ W hb hc hf hr
        obtain ⟨r9, r66, -⟩ := hr
        have e9 : ρ (.tmp 9) = .pointer (some ⟨w5.heap.size, 0, none⟩) := r9
        clear r9
        have e66 : ρ (.tmp 66) = undef := r66
        clear r66
        exact ⟨66, rfl, .inr (.inr ⟨e66, rfl⟩)⟩
      case s18 =>
        intro ρ W hb hc hf hr
        obtain ⟨r67, r66, -⟩ := hr
        have e67 : ρ (.tmp 67) = undef := r67
        clear r67
        have e66 : ρ (.tmp 66) = undef := r66
        clear r66
        exact ⟨66, rfl, .inr (.inr ⟨e66, rfl⟩)⟩
      case s19 =>
        intro ρ W hb hc hf hr
        obtain ⟨r68, r66, -⟩ := hr
        have e68 : ρ (.tmp 68) = undef := r68
        clear r68
        have e66 : ρ (.tmp 66) = undef := r66
        clear r66
        exact ⟨66, rfl, .inr (.inr ⟨e66, rfl⟩)⟩
      case s20 =>
        intro ρ W hb hc hf hr
        obtain ⟨r1, r66, -⟩ := hr
        have e1 : ρ (.tmp 1) = .slice B m2 cap2 := r1
        clear r1
        have e66 : ρ (.tmp 66) = undef := r66
        clear r66
        exact ⟨66, rfl, .inr (.inr ⟨e66, rfl⟩)⟩
      case s21 =>
        intro ρ W hb hc hf hr
        obtain ⟨r70, r66, -⟩ := hr
        have e70 : ρ (.tmp 70) = undef := r70
        clear r70
        have e66 : ρ (.tmp 66) = undef := r66
        clear r66
        exact ⟨66, rfl, .inr (.inr ⟨e66, rfl⟩)⟩
      case s22 =>
        intro ρ W hb hc hf hr
        obtain ⟨r69, r71, r66, -⟩ := hr
        have e69 : ρ (.tmp 69) = undef := r69
        clear r69
        have e71 : ρ (.tmp 71) = undef := r71
        clear r71
        have e66 : ρ (.tmp 66) = undef := r66
        clear r66
        exact ⟨66, rfl, .inr (.inr ⟨e66, rfl⟩)⟩
      case s23 =>
        intro ρ W hb hc hf hr
        obtain ⟨r66, r72, r59, -⟩ := hr
        have e66 : ρ (.tmp 66) = undef := r66
        clear r66
        have e72 : ρ (.tmp 72) = undef := r72
        clear r72
        have e59 : ρ (.tmp 59) = .bool true := r59
        clear r59
        exact ⟨59, rfl, .inr (.inl ⟨e59, rfl⟩)⟩
      case s24 =>
        intro ρ W hb hc hf hr
        obtain ⟨r59, r73, r51, -⟩ := hr
        have e59 : ρ (.tmp 59) = .bool true := r59
        clear r59
        have e73 : ρ (.tmp 73) = undef := r73
        clear r73
        have e51 : ρ (.tmp 51) = .bool true := r51
        clear r51
        refine ⟨51, rfl, .inl ⟨e51, ?_⟩⟩
        simp [execOp, e59, hc, go_sem, softUpon, Fact.is, Below.refl]
      case s25 =>
        intro ρ W hb hc hf hr
        obtain ⟨r51, r74, -⟩ := hr
        have e51 : ρ (.tmp 51) = .bool true := r51
        clear r51
        have e74 : ρ (.tmp 74) = .bool true := r74
        clear r74
        refine under_none rfl ?_
        simp [execOp, e51, e74, go_sem, softUpon, Fact.is, Below.refl]
      case s26 =>
        intro ρ W hb hc hf hr
        obtain ⟨r75, -⟩ := hr
        have e75 : ρ (.tmp 75) = .bool true := r75
        clear r75
        refine under_none rfl ?_
        exact ⟨e75, Below.refl _ _⟩
      case fin =>
        intro a w7 hb hd hk
        have h4 : a.tmps.getD 4 undef = .bool true := hk 4
        clear hk
        have hc := HB6.out.trans ((undrew13 hb).mono HB6.out.size)
        go_wp2
        refine bodyPost_ret (results_tmp rfl _ _ _) hd ?_
        exact ⟨by rw [h4], hc⟩

theorem walk (w : World) (hH : Handle w) (q : Rc.R) (A : Option Addr) (cap : Nat) (hl : q.sp.length ≤ cap) (hm : cap ≤ maxLen) (hA : Lies w A (flat q.sp)) (hS : Fine q.sp) (B : Option Addr) (cap2 : Nat) (x : List UInt8) (hl2 : x.length ≤ cap2) (hm2 : cap2 ≤ maxLen) (hB : Lies w B (cells x)) :
    Calls Tryd.prog 4 #[recV q A q.sp.length cap, .slice B x.length cap2] w fun e w' => e = .returned (.bool true) ∧ Below w.heap.size w w' :=
  walkN w hH q A B q.sp.length x.length cap cap2 x rfl hl hm hA hS rfl hl2 hm2 hB


set_option maxRecDepth 100000 in
theorem lifted (os : Os) (started : os.Started) (H : Type) (enc : TypeId × Value → H) :
    ReturnsInHanded {} Tryd.checked os 4 .any (fun w args => (Rows.recBackSpec.pre enc Tryd.prog Tryd.f4 [] false w args ∧ laidMetH Tryd.prog laidHere w) ∧ sizedMet enc Tryd.prog Tryd.f4 (OpenSpec.ofChange Rows.recBackSpec) false w args) (Rows.recBackSpec.post enc Tryd.prog Tryd.f4 false true false false) := by
  refine returnsInHanded_of_change_and (C := Tryd.checked) (X := fun w _ => laidMetH Tryd.prog laidHere w) (fun _ _ _ hh h => h.of_heap hh) own started (by kernel_rfl) Tryd.func4
    (ChangeSpec.witness_at (enc := enc) (C := Tryd.checked) (os := os) (X := fun w _ => laidMetH Tryd.prog laidHere w) false (laidWorld os) #[.agg #[.int .i64 0, .int .i64 0, .int .i64 0, .int .i64 0, .bool false, .slice none 0 0], .slice none 0 0] 8 rfl (by kernel_rfl) (by kernel_rfl) (by kernel_rfl) (by kernel_rfl) (by kernel_rfl) (laidWorld_met os _)) ?_
  intro W base args ds gs before hval0 hW _ _ hL _
  have hval : ∀ (j : Nat) t v, Tryd.f4.params[j]? = some t → args[j]? = some v → Value.okWide Tryd.prog W .any base t v := hval0
  have hfin := fun W' => law_post (enc := enc) (P := Tryd.prog) (f := Tryd.f4) (s := Rows.recBackSpec) (tb := 4) (W := W) (W' := W') (args := args) (ds := ds) (gs := gs) (before := before) laidOut rfl (by kernel_rfl) Tryd.underlying4 (by kernel_rfl) (fun xs h => by rw [Tryd.params4] at h; match xs, h with | [_, _], _ => rfl) hW
  have hlt : ∀ x ∈ before, x.block < W.heap.size := fun x hx => hW.lt x hx
  obtain ⟨p, q, hA0, hV, rfl, hfz, hnd⟩ := hW
  have hA : DataW.TrodAll enc Tryd.prog W 0 (fun _ => true) true Tryd.f4.params.toList args.toList ds p := hA0
  rw [Tryd.params4] at hA hval
  obtain ⟨v0, vs0, d0, ds0, p0, q0, hargs, rfl, rfl, h0, r0⟩ := trodAll_cons hA
  obtain ⟨v1, vs1, d1, ds1, p1, q1, rfl, rfl, rfl, h1, r1⟩ := trodAll_cons r0
  obtain ⟨rfl, rfl, rfl⟩ := trodAll_nil r1
  obtain rfl : args = #[v0, v1] := by cases args; simp_all
  obtain ⟨q0, A0, cap0, rfl, hl0, hm0, hB0, hS0⟩ := open_rec (hval 0 24 v0 rfl rfl) h0 (fun x hx => hlt x (by simp [hx]))
  obtain ⟨A1, cap1, b1, rfl, hl1, hm1, hB1⟩ := open_bytes (hval 1 25 v1 rfl rfl) h1 (fun x hx => hlt x (by simp [hx]))
  refine (walk W (of_laid hL) q0 A0 cap0 hl0 hm0 hB0 hS0 A1 cap1 b1 hl1 hm1 hB1).mono fun e W' ⟨he, hg⟩ => ?_
  subst he
  exact ⟨_, rfl, hfin W' hg⟩

theorem proved : Rows.RecBackSaid :=
  OpenClaim.holds_of_wide 4 Tryd.f4 rfl rfl rfl rfl rfl rfl rfl ⟨rfl, rfl, rfl, rfl, rfl⟩ rfl rfl rfl rfl rfl (by kernel_rfl) Tryd.func4 (by kernel_rfl)
    (of_decide_eq_true (by kernel_rfl)) (by unfold Func.isWrapper; first | (rw [if_pos (by decide +kernel)]; kernel_rfl) | (rw [if_neg (by decide +kernel)]; exact ⟨rfl, rfl⟩))
    (fun os started H enc _ => lifted os started H enc)

set_option maxRecDepth 100000 in
theorem card : Rows.RecBackCardSaid :=
  Claim7.holds_tied_plain_at .later [] laidKindsHere true _ true
    proved (fun _ h => by cases h) (by kernel_rfl) (fun _ h => by cases h) recBack_row_tie rfl ⟨rfl, rfl⟩ (by kernel_rfl) rfl
    (fun f fn hf hfn => by
      obtain rfl : f = 4 := Option.some.inj ((show Tryd.prog.funcNamed "turntable/turntablelaw13.RecBack" = some 4 by kernel_rfl).symm.trans hf) |>.symm
      obtain rfl : fn = Tryd.f4 := (Option.some.inj (Tryd.func4.symm.trans hfn)).symm
      exact ⟨by kernel_rfl, fun j t ht => by
        rw [Tryd.params4] at ht
        have hm : t ∈ [24, 25] := Array.mem_def.1 (Array.mem_of_getElem? ht)
        have hall : ([24, 25].all fun u => !Tryd.prog.wantsStandIn u) = true := by kernel_rfl
        exact (show Tryd.prog.wantsStandIn t = false by simpa using List.all_eq_true.1 hall t hm)⟩)
    (by kernel_rfl)
#print axioms card
end Go.Proofs.YtdfeccmcefcpbaaDoor.recBack
