/-
  P8.1, CellTells: for all numbers, places and bytes the law returns true: a sector's bytes, and what any bytes are of these, are the document's. No condition but that the program's table starts as its text lays it.
-/
import Derived.Test.YtjmjinplihlhcaaDoorL8S
import Derived.Test.YtjmjinplihlhcaaDoorLaid2
namespace Go.Proofs.YtjmjinplihlhcaaDoor.cellTells
open Go.ChangeShapes Go.WideShapes Go.ChangeAt Go.RowKit

set_option maxHeartbeats 2000000 in
set_option maxRecDepth 100000 in
theorem walkN (w : World) (hT : Tab w) (q p : Int) (A : Option Addr) (cap n : Nat) (bs : List UInt8) (hn : bs.length = n) (hA : Lies w A (cells bs)) (D : Option Addr) (dap m : Nat) (s : List UInt8) (hm : s.length = m) (hdc : m ≤ dap) (hD : Lies w D (cells s)) :
    Calls Tryd.prog 3 #[.int .i64 q, .int .i64 p, .slice A n cap, .slice D m dap] w fun e w' => e = .returned (.bool true) ∧ Below w.heap.size w w' := by
  have HT := Lib.hid hT
  clear hT
  by_cases h9 : n ≤ 900 ∧ m ≤ 900
  · have hd1 : decide ((900 : Int) < (n : Int)) = false := by simp; omega
    have hd2 : decide ((900 : Int) < (m : Int)) = false := by simp; omega
    have HN := Lib.hid hn
    have HM := Lib.hid hm
    have HA := Lib.hid hA
    have HD := Lib.hid hD
    obtain ⟨OK, hok⟩ : ∃ OK, Ce.ok q p s = OK := ⟨_, rfl⟩
    have HOK := Lib.hid hok
    have HGI := Lib.hid (got_if q p s OK hok)
    have HPW0 := Lib.hid (fun (W : World) (hA : Lies W A (cells bs)) (hT : Tab W) => cput_lies q p A cap n _ bs W hn rfl hA hT)
    have HRP0 := Lib.hid (fun (W : World) (hA : Lies W A (cells bs)) => rput_walk q p A cap n bs W hn hA)
    have HCR := Lib.hid (fun (W : World) => right_walk q p W)
    have HRR := Lib.hid (fun (W : World) => rright_walk q p W)
    have HCG := Lib.hid (fun (W : World) (hA : Lies W D (cells s)) (hT : Tab W) => cget_flag q p D dap m s W OK hm hok hA hT)
    have HRG := Lib.hid (fun (W : World) (hA : Lies W D (cells s)) => rget_flag q p D dap m s W OK hm hdc hok hA)
    obtain ⟨L, hL⟩ : ∃ L, (Ce.put q p bs).length = L := ⟨_, rfl⟩
    have HPL := Lib.hid hL
    obtain ⟨SP, hSP⟩ : ∃ SP, str (Ce.put q p bs) = SP := ⟨_, rfl⟩
    have HSP := Lib.hid hSP
    rw [hL] at HPW0
    generalize Ce.put q p bs = PB at *
    generalize Ce.right q p = R at *
    clear hn hm hA hD hok hL hSP
    go_enter Tryd.func3, Tryd.ntmps3
    go_wp2_with fail
    refine (head_any _ HT.out).mono ?_
    rintro e w1 ⟨rfl, hb1⟩
    have T1 := Lib.hid (HT.out.below hb1 (Nat.le_refl _))
    have A1 := Lib.hid (HA.out.below hb1)
    have D1 := Lib.hid (HD.out.below hb1)
    go_wp2_with fail
    refine (HCG.out w1 D1.out T1.out).mono ?_
    rintro e w2 ⟨A3, l3, rfl, hl3, hL3, b2⟩
    rw [HGI.out] at hL3
    have T2 := Lib.hid (T1.out.below b2 (Nat.le_refl _))
    have A2 := Lib.hid (A1.out.below b2)
    have D2 := Lib.hid (D1.out.below b2)
    have HL3 := Lib.hid hL3
    have HLN := Lib.hid (show (Ce.got q p s).length = l3 by
      rw [← HGI.out, hl3]
      cases OK <;> rfl)
    have B2 := Lib.hid (hb1.trans (b2.mono hb1.size))
    clear hL3 hl3 b2 HCG HGI
    have HRG2 := Lib.hid (HRG.out w2 D2.out)
    rw [HLN.out] at HRG2
    go_wp2_with fail
    refine HRG2.out.mono ?_
    rintro e w3 ⟨A4, c4, rfl, hL4, b3⟩
    have HPW := Lib.hid (fun (W : World) (hW : Below w3.heap.size w3 W) => HPW0.out W ((A2.out.below b3).below hW) ((T2.out.below b3 (Nat.le_refl _)).below hW (Nat.le_refl _)))
    have HRP := Lib.hid (fun (W : World) (hW : Below w3.heap.size w3 W) => HRP0.out W ((A2.out.below b3).below hW))
    have HCX := Lib.hid (fun (W : World) (hW : Below w3.heap.size w3 W) => conv_at ((HL3.out.below b3).below hW) l3 l3 HLN.out)
    have HCV := Lib.hid (fun (W : World) (hW : Below w3.heap.size w3 W) => conv_at (hL4.below hW) l3 c4 HLN.out)
    have B3 := Lib.hid (B2.out.trans (b3.mono B2.out.size))
    clear hL4 b3 HRG HRG2 HPW0 HRP0
    generalize str (Ce.got q p s) = SX at *
    go_wp2
    refine wp_softS (by kernel_rfl) 78 [(38, [9]), (39, [38]), (40, [0, 39]), (41, [1, 39]), (42, [2, 39]), (43, [40, 41, 42, 39]), (44, [43, 39]), (45, [0, 39]), (46, [1, 39]), (47, [2, 39]), (48, [45, 46, 47, 39]), (49, [48, 39]), (50, [44, 49, 39]), (51, [39, 50]), (52, [51]), (53, [10, 52]), (54, [53, 52]), (55, [12, 52]), (56, [55, 52]), (57, [54, 56, 52]), (58, [52, 57]), (59, [58]), (60, [11, 59]), (61, [13, 59]), (62, [60, 61, 59]), (63, [59, 62]), (64, [63]), (65, [0, 64]), (66, [1, 64]), (67, [65, 66, 64]), (68, [0, 64]), (69, [1, 64]), (70, [68, 69, 64]), (71, [67, 70, 64]), (72, [64, 71]), (73, [72]), (74, [73]), (75, [73]), (76, [74, 75, 73]), (77, [73, 76]), (8, [77])]
      [Fact.is (.bool true), Fact.is (.bool true), Fact.is (.int .i64 q), Fact.is (.int .i64 p), Fact.is (.slice A n cap), Fact.lies PB L, Fact.is (.string SP), Fact.is (.int .i64 q), Fact.is (.int .i64 p), Fact.is (.slice A n cap), Fact.own PB, Fact.is (.string SP), Fact.is (.bool true), Fact.is (.bool true), Fact.is (.bool true), Fact.is (.slice A3 l3 l3), Fact.is (.string SX), Fact.is (.slice A4 l3 c4), Fact.is (.string SX), Fact.is (.bool true), Fact.is (.bool true), Fact.is (.bool true), Fact.is (.bool OK), Fact.is (.bool OK), Fact.is (.bool true), Fact.is (.bool true), Fact.is (.bool true), Fact.is (.int .i64 q), Fact.is (.int .i64 p), Fact.is (.bool R), Fact.is (.int .i64 q), Fact.is (.int .i64 p), Fact.is (.bool R), Fact.is (.bool true), Fact.is (.bool true), Fact.is (.bool true), Fact.is (.int .i64 59), Fact.is (.int .i64 59), Fact.is (.bool true), Fact.is (.bool true), Fact.is (.bool true)]
      (by kernel_rfl) rfl rfl ⟨?s0, ?s1, ?s2, ?s3, ?s4, ?s5, ?s6, ?s7, ?s8, ?s9, ?s10, ?s11, ?s12, ?s13, ?s14, ?s15, ?s16, ?s17, ?s18, ?s19, ?s20, ?s21, ?s22, ?s23, ?s24, ?s25, ?s26, ?s27, ?s28, ?s29, ?s30, ?s31, ?s32, ?s33, ?s34, ?s35, ?s36, ?s37, ?s38, ?s39, ?s40, trivial⟩ ?fin
    case s0 =>
      intro ρ W hb hc hf hr
      obtain ⟨r9, -⟩ := hr
      have e9 : ρ (.tmp 9) = .bool true := r9
      clear r9
      refine under_none rfl ?_
      exact ⟨e9, Below.refl _ _⟩
    case s1 =>
      intro ρ W hb hc hf hr
      obtain ⟨r38, -⟩ := hr
      have e38 : ρ (.tmp 38) = .bool true := r38
      clear r38
      refine under_none rfl ?_
      exact ⟨e38, Below.refl _ _⟩
    case s2 =>
      intro ρ W hb hc hf hr
      obtain ⟨r0, r39, -⟩ := hr
      have e0 : ρ (.tmp 0) = .int .i64 q := r0
      clear r0
      have e39 : ρ (.tmp 39) = .bool true := r39
      clear r39
      refine ⟨39, rfl, .inl ⟨e39, ?_⟩⟩
      exact ⟨e0, Below.refl _ _⟩
    case s3 =>
      intro ρ W hb hc hf hr
      obtain ⟨r1, r39, -⟩ := hr
      have e1 : ρ (.tmp 1) = .int .i64 p := r1
      clear r1
      have e39 : ρ (.tmp 39) = .bool true := r39
      clear r39
      refine ⟨39, rfl, .inl ⟨e39, ?_⟩⟩
      exact ⟨e1, Below.refl _ _⟩
    case s4 =>
      intro ρ W hb hc hf hr
      obtain ⟨r2, r39, -⟩ := hr
      have e2 : ρ (.tmp 2) = .slice A n cap := r2
      clear r2
      have e39 : ρ (.tmp 39) = .bool true := r39
      clear r39
      refine ⟨39, rfl, .inl ⟨e39, ?_⟩⟩
      exact ⟨e2, Below.refl _ _⟩
    case s5 =>
      intro ρ W hb hc hf hr
      obtain ⟨r40, r41, r42, r39, -⟩ := hr
      have e40 : ρ (.tmp 40) = .int .i64 q := r40
      clear r40
      have e41 : ρ (.tmp 41) = .int .i64 p := r41
      clear r41
      have e42 : ρ (.tmp 42) = .slice A n cap := r42
      clear r42
      have e39 : ρ (.tmp 39) = .bool true := r39
      clear r39
      refine ⟨39, rfl, .inl ⟨e39, ?_⟩⟩
      exact soft_call3 hf e40 e41 e42 (HPW.out W (undrew hb)) rfl (by kernel_rfl) lies_is
    case s6 =>
      intro ρ W hb hc hf hr
      obtain ⟨r43, r39, -⟩ := hr
      have e39 : ρ (.tmp 39) = .bool true := r39
      clear r39
      refine ⟨39, rfl, .inl ⟨e39, ?_⟩⟩
      exact soft_lies r43 HPL.out HSP.out rfl
    case s7 =>
      intro ρ W hb hc hf hr
      obtain ⟨r0, r39, -⟩ := hr
      have e0 : ρ (.tmp 0) = .int .i64 q := r0
      clear r0
      have e39 : ρ (.tmp 39) = .bool true := r39
      clear r39
      refine ⟨39, rfl, .inl ⟨e39, ?_⟩⟩
      exact ⟨e0, Below.refl _ _⟩
    case s8 =>
      intro ρ W hb hc hf hr
      obtain ⟨r1, r39, -⟩ := hr
      have e1 : ρ (.tmp 1) = .int .i64 p := r1
      clear r1
      have e39 : ρ (.tmp 39) = .bool true := r39
      clear r39
      refine ⟨39, rfl, .inl ⟨e39, ?_⟩⟩
      exact ⟨e1, Below.refl _ _⟩
    case s9 =>
      intro ρ W hb hc hf hr
      obtain ⟨r2, r39, -⟩ := hr
      have e2 : ρ (.tmp 2) = .slice A n cap := r2
      clear r2
      have e39 : ρ (.tmp 39) = .bool true := r39
      clear r39
      refine ⟨39, rfl, .inl ⟨e39, ?_⟩⟩
      exact ⟨e2, Below.refl _ _⟩
    case s10 =>
      intro ρ W hb hc hf hr
      obtain ⟨r45, r46, r47, r39, -⟩ := hr
      have e45 : ρ (.tmp 45) = .int .i64 q := r45
      clear r45
      have e46 : ρ (.tmp 46) = .int .i64 p := r46
      clear r46
      have e47 : ρ (.tmp 47) = .slice A n cap := r47
      clear r47
      have e39 : ρ (.tmp 39) = .bool true := r39
      clear r39
      refine ⟨39, rfl, .inl ⟨e39, ?_⟩⟩
      exact soft_call3 hf e45 e46 e47 (HRP.out W (undrew hb)) rfl (by kernel_rfl) made_own
    case s11 =>
      intro ρ W hb hc hf hr
      obtain ⟨r48, r39, -⟩ := hr
      have e39 : ρ (.tmp 39) = .bool true := r39
      clear r39
      refine ⟨39, rfl, .inl ⟨e39, ?_⟩⟩
      rw [← HSP.out]; exact soft_own r48 rfl
    case s12 =>
      intro ρ W hb hc hf hr
      obtain ⟨r44, r49, r39, -⟩ := hr
      have e44 : ρ (.tmp 44) = .string SP := r44
      clear r44
      have e49 : ρ (.tmp 49) = .string SP := r49
      clear r49
      have e39 : ρ (.tmp 39) = .bool true := r39
      clear r39
      refine ⟨39, rfl, .inl ⟨e39, ?_⟩⟩
      exact soft_bin e44 e49 rfl rfl (eqs8 W SP)
    case s13 =>
      intro ρ W hb hc hf hr
      obtain ⟨r39, r50, -⟩ := hr
      have e39 : ρ (.tmp 39) = .bool true := r39
      clear r39
      have e50 : ρ (.tmp 50) = .bool true := r50
      clear r50
      refine under_none rfl ?_
      simp [execOp, e39, e50, go_sem, softUpon, Fact.is, Below.refl]
    case s14 =>
      intro ρ W hb hc hf hr
      obtain ⟨r51, -⟩ := hr
      have e51 : ρ (.tmp 51) = .bool true := r51
      clear r51
      refine under_none rfl ?_
      exact ⟨e51, Below.refl _ _⟩
    case s15 =>
      intro ρ W hb hc hf hr
      obtain ⟨r10, r52, -⟩ := hr
      have e10 : ρ (.tmp 10) = .slice A3 l3 l3 := r10
      clear r10
      have e52 : ρ (.tmp 52) = .bool true := r52
      clear r52
      refine ⟨52, rfl, .inl ⟨e52, ?_⟩⟩
      exact ⟨e10, Below.refl _ _⟩
    case s16 =>
      intro ρ W hb hc hf hr
      obtain ⟨r53, r52, -⟩ := hr
      have e53 : ρ (.tmp 53) = .slice A3 l3 l3 := r53
      clear r53
      have e52 : ρ (.tmp 52) = .bool true := r52
      clear r52
      refine ⟨52, rfl, .inl ⟨e52, ?_⟩⟩
      exact soft_conv e53 (HCX.out W (undrew hb)) rfl
    case s17 =>
      intro ρ W hb hc hf hr
      obtain ⟨r12, r52, -⟩ := hr
      have e12 : ρ (.tmp 12) = .slice A4 l3 c4 := r12
      clear r12
      have e52 : ρ (.tmp 52) = .bool true := r52
      clear r52
      refine ⟨52, rfl, .inl ⟨e52, ?_⟩⟩
      exact ⟨e12, Below.refl _ _⟩
    case s18 =>
      intro ρ W hb hc hf hr
      obtain ⟨r55, r52, -⟩ := hr
      have e55 : ρ (.tmp 55) = .slice A4 l3 c4 := r55
      clear r55
      have e52 : ρ (.tmp 52) = .bool true := r52
      clear r52
      refine ⟨52, rfl, .inl ⟨e52, ?_⟩⟩
      exact soft_conv e55 (HCV.out W (undrew hb)) rfl
    case s19 =>
      intro ρ W hb hc hf hr
      obtain ⟨r54, r56, r52, -⟩ := hr
      have e54 : ρ (.tmp 54) = .string SX := r54
      clear r54
      have e56 : ρ (.tmp 56) = .string SX := r56
      clear r56
      have e52 : ρ (.tmp 52) = .bool true := r52
      clear r52
      refine ⟨52, rfl, .inl ⟨e52, ?_⟩⟩
      exact soft_bin e54 e56 rfl rfl (eqs8 W SX)
    case s20 =>
      intro ρ W hb hc hf hr
      obtain ⟨r52, r57, -⟩ := hr
      have e52 : ρ (.tmp 52) = .bool true := r52
      clear r52
      have e57 : ρ (.tmp 57) = .bool true := r57
      clear r57
      refine under_none rfl ?_
      simp [execOp, e52, e57, go_sem, softUpon, Fact.is, Below.refl]
    case s21 =>
      intro ρ W hb hc hf hr
      obtain ⟨r58, -⟩ := hr
      have e58 : ρ (.tmp 58) = .bool true := r58
      clear r58
      refine under_none rfl ?_
      exact ⟨e58, Below.refl _ _⟩
    case s22 =>
      intro ρ W hb hc hf hr
      obtain ⟨r11, r59, -⟩ := hr
      have e11 : ρ (.tmp 11) = .bool OK := r11
      clear r11
      have e59 : ρ (.tmp 59) = .bool true := r59
      clear r59
      refine ⟨59, rfl, .inl ⟨e59, ?_⟩⟩
      exact ⟨e11, Below.refl _ _⟩
    case s23 =>
      intro ρ W hb hc hf hr
      obtain ⟨r13, r59, -⟩ := hr
      have e13 : ρ (.tmp 13) = .bool OK := r13
      clear r13
      have e59 : ρ (.tmp 59) = .bool true := r59
      clear r59
      refine ⟨59, rfl, .inl ⟨e59, ?_⟩⟩
      exact ⟨e13, Below.refl _ _⟩
    case s24 =>
      intro ρ W hb hc hf hr
      obtain ⟨r60, r61, r59, -⟩ := hr
      have e60 : ρ (.tmp 60) = .bool OK := r60
      clear r60
      have e61 : ρ (.tmp 61) = .bool OK := r61
      clear r61
      have e59 : ρ (.tmp 59) = .bool true := r59
      clear r59
      refine ⟨59, rfl, .inl ⟨e59, ?_⟩⟩
      exact soft_bin e60 e61 rfl rfl (eqb8 W OK)
    case s25 =>
      intro ρ W hb hc hf hr
      obtain ⟨r59, r62, -⟩ := hr
      have e59 : ρ (.tmp 59) = .bool true := r59
      clear r59
      have e62 : ρ (.tmp 62) = .bool true := r62
      clear r62
      refine under_none rfl ?_
      simp [execOp, e59, e62, go_sem, softUpon, Fact.is, Below.refl]
    case s26 =>
      intro ρ W hb hc hf hr
      obtain ⟨r63, -⟩ := hr
      have e63 : ρ (.tmp 63) = .bool true := r63
      clear r63
      refine under_none rfl ?_
      exact ⟨e63, Below.refl _ _⟩
    case s27 =>
      intro ρ W hb hc hf hr
      obtain ⟨r0, r64, -⟩ := hr
      have e0 : ρ (.tmp 0) = .int .i64 q := r0
      clear r0
      have e64 : ρ (.tmp 64) = .bool true := r64
      clear r64
      refine ⟨64, rfl, .inl ⟨e64, ?_⟩⟩
      exact ⟨e0, Below.refl _ _⟩
    case s28 =>
      intro ρ W hb hc hf hr
      obtain ⟨r1, r64, -⟩ := hr
      have e1 : ρ (.tmp 1) = .int .i64 p := r1
      clear r1
      have e64 : ρ (.tmp 64) = .bool true := r64
      clear r64
      refine ⟨64, rfl, .inl ⟨e64, ?_⟩⟩
      exact ⟨e1, Below.refl _ _⟩
    case s29 =>
      intro ρ W hb hc hf hr
      obtain ⟨r65, r66, r64, -⟩ := hr
      have e65 : ρ (.tmp 65) = .int .i64 q := r65
      clear r65
      have e66 : ρ (.tmp 66) = .int .i64 p := r66
      clear r66
      have e64 : ρ (.tmp 64) = .bool true := r64
      clear r64
      refine ⟨64, rfl, .inl ⟨e64, ?_⟩⟩
      exact soft_call2 hf e65 e66 (HCR.out W) rfl (by kernel_rfl) same_is
    case s30 =>
      intro ρ W hb hc hf hr
      obtain ⟨r0, r64, -⟩ := hr
      have e0 : ρ (.tmp 0) = .int .i64 q := r0
      clear r0
      have e64 : ρ (.tmp 64) = .bool true := r64
      clear r64
      refine ⟨64, rfl, .inl ⟨e64, ?_⟩⟩
      exact ⟨e0, Below.refl _ _⟩
    case s31 =>
      intro ρ W hb hc hf hr
      obtain ⟨r1, r64, -⟩ := hr
      have e1 : ρ (.tmp 1) = .int .i64 p := r1
      clear r1
      have e64 : ρ (.tmp 64) = .bool true := r64
      clear r64
      refine ⟨64, rfl, .inl ⟨e64, ?_⟩⟩
      exact ⟨e1, Below.refl _ _⟩
    case s32 =>
      intro ρ W hb hc hf hr
      obtain ⟨r68, r69, r64, -⟩ := hr
      have e68 : ρ (.tmp 68) = .int .i64 q := r68
      clear r68
      have e69 : ρ (.tmp 69) = .int .i64 p := r69
      clear r69
      have e64 : ρ (.tmp 64) = .bool true := r64
      clear r64
      refine ⟨64, rfl, .inl ⟨e64, ?_⟩⟩
      exact soft_call2 hf e68 e69 (HRR.out W) rfl (by kernel_rfl) same_is
    case s33 =>
      intro ρ W hb hc hf hr
      obtain ⟨r67, r70, r64, -⟩ := hr
      have e67 : ρ (.tmp 67) = .bool R := r67
      clear r67
      have e70 : ρ (.tmp 70) = .bool R := r70
      clear r70
      have e64 : ρ (.tmp 64) = .bool true := r64
      clear r64
      refine ⟨64, rfl, .inl ⟨e64, ?_⟩⟩
      exact soft_bin e67 e70 rfl rfl (eqb8 W R)
    case s34 =>
      intro ρ W hb hc hf hr
      obtain ⟨r64, r71, -⟩ := hr
      have e64 : ρ (.tmp 64) = .bool true := r64
      clear r64
      have e71 : ρ (.tmp 71) = .bool true := r71
      clear r71
      refine under_none rfl ?_
      simp [execOp, e64, e71, go_sem, softUpon, Fact.is, Below.refl]
    case s35 =>
      intro ρ W hb hc hf hr
      obtain ⟨r72, -⟩ := hr
      have e72 : ρ (.tmp 72) = .bool true := r72
      clear r72
      refine under_none rfl ?_
      exact ⟨e72, Below.refl _ _⟩
    case s36 =>
      intro ρ W hb hc hf hr
      obtain ⟨r73, -⟩ := hr
      have e73 : ρ (.tmp 73) = .bool true := r73
      clear r73
      refine ⟨73, rfl, .inl ⟨e73, ?_⟩⟩
      exact soft_call0 hf (room_walk W) rfl (by kernel_rfl) same_is
    case s37 =>
      intro ρ W hb hc hf hr
      obtain ⟨r73, -⟩ := hr
      have e73 : ρ (.tmp 73) = .bool true := r73
      clear r73
      refine ⟨73, rfl, .inl ⟨e73, ?_⟩⟩
      exact soft_call0 hf (rroom_walk W) rfl (by kernel_rfl) same_is
    case s38 =>
      intro ρ W hb hc hf hr
      obtain ⟨r74, r75, r73, -⟩ := hr
      have e74 : ρ (.tmp 74) = .int .i64 59 := r74
      clear r74
      have e75 : ρ (.tmp 75) = .int .i64 59 := r75
      clear r75
      have e73 : ρ (.tmp 73) = .bool true := r73
      clear r73
      refine ⟨73, rfl, .inl ⟨e73, ?_⟩⟩
      exact soft_bin e74 e75 rfl rfl (by go_simp)
    case s39 =>
      intro ρ W hb hc hf hr
      obtain ⟨r73, r76, -⟩ := hr
      have e73 : ρ (.tmp 73) = .bool true := r73
      clear r73
      have e76 : ρ (.tmp 76) = .bool true := r76
      clear r76
      refine under_none rfl ?_
      simp [execOp, e73, e76, go_sem, softUpon, Fact.is, Below.refl]
    case s40 =>
      intro ρ W hb hc hf hr
      obtain ⟨r77, -⟩ := hr
      have e77 : ρ (.tmp 77) = .bool true := r77
      clear r77
      refine under_none rfl ?_
      exact ⟨e77, Below.refl _ _⟩
    case fin =>
      intro a w1 hb hd hsz hk
      have ea := act_puts hd hsz rfl hk
      have k38 : a.tmps.getD 38 undef = .bool true := hk 38
      have k39 : a.tmps.getD 39 undef = .bool true := hk 39
      have k40 : a.tmps.getD 40 undef = .int .i64 q := hk 40
      have k41 : a.tmps.getD 41 undef = .int .i64 p := hk 41
      have k42 : a.tmps.getD 42 undef = .slice A n cap := hk 42
      have k43 : (Fact.lies PB L).φ (a.tmps.getD 43 undef) w1 := hk 43
      have k44 : a.tmps.getD 44 undef = .string SP := hk 44
      have k45 : a.tmps.getD 45 undef = .int .i64 q := hk 45
      have k46 : a.tmps.getD 46 undef = .int .i64 p := hk 46
      have k47 : a.tmps.getD 47 undef = .slice A n cap := hk 47
      have k48 : (Fact.own PB).φ (a.tmps.getD 48 undef) w1 := hk 48
      have k49 : a.tmps.getD 49 undef = .string SP := hk 49
      have k50 : a.tmps.getD 50 undef = .bool true := hk 50
      have k51 : a.tmps.getD 51 undef = .bool true := hk 51
      have k52 : a.tmps.getD 52 undef = .bool true := hk 52
      have k53 : a.tmps.getD 53 undef = .slice A3 l3 l3 := hk 53
      have k54 : a.tmps.getD 54 undef = .string SX := hk 54
      have k55 : a.tmps.getD 55 undef = .slice A4 l3 c4 := hk 55
      have k56 : a.tmps.getD 56 undef = .string SX := hk 56
      have k57 : a.tmps.getD 57 undef = .bool true := hk 57
      have k58 : a.tmps.getD 58 undef = .bool true := hk 58
      have k59 : a.tmps.getD 59 undef = .bool true := hk 59
      have k60 : a.tmps.getD 60 undef = .bool OK := hk 60
      have k61 : a.tmps.getD 61 undef = .bool OK := hk 61
      have k62 : a.tmps.getD 62 undef = .bool true := hk 62
      have k63 : a.tmps.getD 63 undef = .bool true := hk 63
      have k64 : a.tmps.getD 64 undef = .bool true := hk 64
      have k65 : a.tmps.getD 65 undef = .int .i64 q := hk 65
      have k66 : a.tmps.getD 66 undef = .int .i64 p := hk 66
      have k67 : a.tmps.getD 67 undef = .bool R := hk 67
      have k68 : a.tmps.getD 68 undef = .int .i64 q := hk 68
      have k69 : a.tmps.getD 69 undef = .int .i64 p := hk 69
      have k70 : a.tmps.getD 70 undef = .bool R := hk 70
      have k71 : a.tmps.getD 71 undef = .bool true := hk 71
      have k72 : a.tmps.getD 72 undef = .bool true := hk 72
      have k73 : a.tmps.getD 73 undef = .bool true := hk 73
      have k74 : a.tmps.getD 74 undef = .int .i64 59 := hk 74
      have k75 : a.tmps.getD 75 undef = .int .i64 59 := hk 75
      have k76 : a.tmps.getD 76 undef = .bool true := hk 76
      have k77 : a.tmps.getD 77 undef = .bool true := hk 77
      have k8 : a.tmps.getD 8 undef = .bool true := hk 8
      clear hk hd hsz
      simp only [List.map_cons, List.map_nil, List.foldl_cons, List.foldl_nil, k38, k39, k40, k41, k42, k44, k45, k46, k47, k49, k50, k51, k52, k53, k54, k55, k56, k57, k58, k59, k60, k61, k62, k63, k64, k65, k66, k67, k68, k69, k70, k71, k72, k73, k74, k75, k76, k77, k8] at ea
      clear k38 k39 k40 k41 k42 k44 k45 k46 k47 k49 k50 k51 k52 k53 k54 k55 k56 k57 k58 k59 k60 k61 k62 k63 k64 k65 k66 k67 k68 k69 k70 k71 k72 k73 k74 k75 k76 k77 k8
      generalize a.tmps.getD 43 undef = v43 at ea k43
      generalize a.tmps.getD 48 undef = v48 at ea k48
      simp only [Act.put, List.setIfInBounds_toArray, List.set_cons_succ, List.set_cons_zero] at ea
      subst ea
      have c5 := B3.out.trans ((undrew hb).mono B3.out.size)
      go_wp2
      go_ret
      exact ⟨rfl, c5⟩
  · have hd : decide ((900 : Int) < (n : Int)) = true ∨ (decide ((900 : Int) < (n : Int)) = false ∧ decide ((900 : Int) < (m : Int)) = true) := by
      simp only [decide_eq_true_eq, decide_eq_false_iff_not]; omega
    clear h9 hn hm hA hD
    rcases hd with hd1 | ⟨hd1, hd2⟩
    · go_enter Tryd.func3, Tryd.ntmps3
      go_wp2_with fail
      refine (head_any _ HT.out).mono ?_
      rintro e w1 ⟨rfl, hb1⟩
      go_wp2
      go_ret
      exact ⟨rfl, hb1⟩
    · go_enter Tryd.func3, Tryd.ntmps3
      go_wp2_with fail
      refine (head_any _ HT.out).mono ?_
      rintro e w1 ⟨rfl, hb1⟩
      go_wp2
      go_ret
      exact ⟨rfl, hb1⟩

theorem walk (w : World) (hT : Tab w) (q : Int) (_ : -9223372036854775808 ≤ q ∧ q ≤ 9223372036854775807) (p : Int) (_ : -9223372036854775808 ≤ p ∧ p ≤ 9223372036854775807) (A : Option Addr) (cap : Nat) (bs : List UInt8) (_ : bs.length ≤ cap) (_ : cap ≤ maxLen) (hA : Lies w A (cells bs)) (D : Option Addr) (dap : Nat) (s : List UInt8) (hl : s.length ≤ dap) (_ : dap ≤ maxLen) (hD : Lies w D (cells s)) :
    Calls Tryd.prog 3 #[.int .i64 q, .int .i64 p, .slice A bs.length cap, .slice D s.length dap] w fun e w' => e = .returned (.bool true) ∧ Below w.heap.size w w' :=
  walkN w hT q p A cap bs.length bs rfl hA D dap s.length s rfl hl hD


set_option maxRecDepth 100000 in
theorem lifted (os : Os) (started : os.Started) (H : Type) (enc : TypeId × Value → H) :
    ReturnsInHanded {} Tryd.checked os 3 .any (fun w args => (Rows.cellTellsSpec.pre enc Tryd.prog Tryd.f3 [] false w args ∧ laidMetH Tryd.prog laidHere w) ∧ sizedMet enc Tryd.prog Tryd.f3 (OpenSpec.ofChange Rows.cellTellsSpec) false w args) (Rows.cellTellsSpec.post enc Tryd.prog Tryd.f3 false true false false) := by
  refine returnsInHanded_of_change_and (C := Tryd.checked) (X := fun w _ => laidMetH Tryd.prog laidHere w) (fun _ _ _ hh h => h.of_heap hh) own started (by kernel_rfl) Tryd.func3
    (ChangeSpec.witness_shaped (enc := enc) (C := Tryd.checked) (os := os) (X := fun w _ => laidMetH Tryd.prog laidHere w) false (World.doorLaid Tryd.prog doorSteps os) #[.int .i64 0, .int .i64 0, .slice none 0 0, .slice none 0 0] 8 rfl (World.shaped_of_RefB (by kernel_rfl) (by kernel_rfl)) (by kernel_rfl) (by kernel_rfl) (by kernel_rfl) (door_met os _)) ?_
  intro W base args ds gs before hval0 hW _ _ hL _
  have hval : ∀ (j : Nat) t v, Tryd.f3.params[j]? = some t → args[j]? = some v → Value.okWide Tryd.prog W .any base t v := hval0
  have hfin := fun W' => law_post (enc := enc) (P := Tryd.prog) (f := Tryd.f3) (s := Rows.cellTellsSpec) (tb := 4) (W := W) (W' := W') (args := args) (ds := ds) (gs := gs) (before := before) laidOut rfl (by kernel_rfl) Tryd.underlying4 (by kernel_rfl) (fun xs h => by rw [Tryd.params3] at h; match xs, h with | [_, _, _, _], _ => rfl) hW
  have hlt : ∀ x ∈ before, x.block < W.heap.size := fun x hx => hW.lt x hx
  obtain ⟨p, q, hA0, hV, rfl, hfz, hnd⟩ := hW
  have hA : DataW.TrodAll enc Tryd.prog W 0 (fun _ => true) true Tryd.f3.params.toList args.toList ds p := hA0
  rw [Tryd.params3] at hA hval
  obtain ⟨v0, vs0, d0, ds0, p0, q0, hargs, rfl, rfl, h0, r0⟩ := trodAll_cons hA
  obtain ⟨v1, vs1, d1, ds1, p1, q1, rfl, rfl, rfl, h1, r1⟩ := trodAll_cons r0
  obtain ⟨v2, vs2, d2, ds2, p2, q2, rfl, rfl, rfl, h2, r2⟩ := trodAll_cons r1
  obtain ⟨v3, vs3, d3, ds3, p3, q3, rfl, rfl, rfl, h3, r3⟩ := trodAll_cons r2
  obtain ⟨rfl, rfl, rfl⟩ := trodAll_nil r3
  obtain rfl : args = #[v0, v1, v2, v3] := by cases args; simp_all
  obtain ⟨a0, rfl, rfl, rfl, w0⟩ := open_int Tryd.underlying2 (hval 0 2 v0 rfl rfl) h0
  obtain ⟨a1, rfl, rfl, rfl, w1⟩ := open_int Tryd.underlying3 (hval 1 3 v1 rfl rfl) h1
  obtain ⟨A2, cap2, b2, rfl, hl2, hm2, hB2⟩ := open_bytes (hval 2 22 v2 rfl rfl) h2 (fun x hx => hlt x (by simp [hx]))
  obtain ⟨A3, cap3, b3, rfl, hl3, hm3, hB3⟩ := open_bytes (hval 3 22 v3 rfl rfl) h3 (fun x hx => hlt x (by simp [hx]))
  refine (walk W (of_laid hL) a0 (bounds_i64 w0) a1 (bounds_i64 w1) A2 cap2 b2 hl2 hm2 hB2 A3 cap3 b3 hl3 hm3 hB3).mono fun e W' ⟨he, hg⟩ => ?_
  subst he
  exact ⟨_, rfl, hfin W' hg⟩

theorem proved : Rows.CellTellsSaid :=
  OpenClaim.holds_of_wide 3 Tryd.f3 rfl rfl rfl rfl rfl rfl rfl ⟨rfl, rfl, rfl, rfl, rfl⟩ rfl rfl rfl rfl rfl (by kernel_rfl) Tryd.func3 (by kernel_rfl)
    (of_decide_eq_true (by kernel_rfl)) (by unfold Func.isWrapper; first | (rw [if_pos (by decide +kernel)]; kernel_rfl) | (rw [if_neg (by decide +kernel)]; exact ⟨rfl, rfl⟩))
    (fun os started H enc _ => lifted os started H enc)

set_option maxRecDepth 100000 in
theorem card : Rows.CellTellsCardSaid :=
  Claim7.holds_tied_plain_at .later [] laidKindsHere true _ false
    proved (fun _ h => by cases h) (by kernel_rfl) (fun _ h => by cases h) cellTells_row_tie rfl ⟨rfl, rfl⟩ (by kernel_rfl) rfl
    (fun f fn hf hfn => by
      obtain rfl : f = 3 := Option.some.inj ((show Tryd.prog.funcNamed "turntable/turntablelaw08.CellTells" = some 3 by kernel_rfl).symm.trans hf) |>.symm
      obtain rfl : fn = Tryd.f3 := (Option.some.inj (Tryd.func3.symm.trans hfn)).symm
      exact ⟨by kernel_rfl, fun j t ht => by
        rw [Tryd.params3] at ht
        have hm : t ∈ [2, 3, 22, 22] := Array.mem_def.1 (Array.mem_of_getElem? ht)
        have hall : ([2, 3, 22, 22].all fun u => !Tryd.prog.wantsStandIn u) = true := by kernel_rfl
        exact (show Tryd.prog.wantsStandIn t = false by simpa using List.all_eq_true.1 hall t hm)⟩)
    (by kernel_rfl)
#print axioms card
end Go.Proofs.YtjmjinplihlhcaaDoor.cellTells
