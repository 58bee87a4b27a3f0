/-
  P5.1, TraceTells: for all spans and all bytes the law returns true: whether any spans are a trace's, in order, what that is, in short, their bytes, and the spans of any bytes, are the document's. No condition; what the row lists is tied to the program's text.
-/
import Derived.Test.YtmmkmhphnhanfaaGreatDoorTrHd
import Derived.Test.YtmmkmhphnhanfaaGreatDoorTrR7
import Derived.Test.YtmmkmhphnhanfaaGreatDoorTrR9
namespace Go.Proofs.YtmmkmhphnhanfaaGreatDoor.traceTells
open Go.ChangeShapes Go.WideShapes Go.ChangeAt Go.RowKit
set_option maxRecDepth 100000

theorem gives_brief {w : World} {b : Plain.Br} : ∀ (e : Ending) (w' : World), (∃ v, e = .returned v ∧ GivesB w w' b v) → ∃ v, e = .returned v ∧ (Fact.brief b.id b.lo b.hi (b.many : Int) b.sv).φ v w' ∧ Below w.heap.size w w' := fun _ _ ⟨v, he, A, c, e, h1, h2, h3, h4⟩ => ⟨v, he, ⟨A, c, e, h1, h2, h3⟩, h4⟩
theorem soft_sameB {w : World} {ρ : Operand → Value} {o : Oper} {x y : Operand} {b : Plain.Br} {ats : Array TypeId} (hf : ∀ f, ρ (.func f) = .func (.func f) #[] #[]) (hx : (Fact.brief b.id b.lo b.hi (b.many : Int) b.sv).φ (ρ x) w) (hy : (Fact.brief b.id b.lo b.hi (b.many : Int) b.sv).φ (ρ y) w) (ho : o.op = .call { callee := .value (.func 19), args := #[x, y], argTypes := ats }) :
    softUpon Tryz.prog w (Fact.is (.bool true)) ((execOp ρ o).run Tryz.prog w) := by
  obtain ⟨A, ca, ex, h1, h2, h3⟩ := hx
  obtain ⟨B, cb, ey, h4, h5, h6⟩ := hy
  have h := sameB_any b b A B ca cb w h1 h4 h2 h5 h3 h6
  rw [decide_eq_true rfl] at h
  exact soft_call2 hf ex ey h ho (by kernel_rfl) below_is

theorem eqb_same (W : World) (r : Bool) : (binOp .eql 4 (.bool r) (.bool r)).run Tryz.prog W = .ok (.bool true) W := by
  cases r <;> go_simp

set_option maxHeartbeats 8000000 in
theorem walk (w : World) (hT : Handle w) (A : Option Addr) (cap : Nat) (l : List Plain.Sp) (hl : l.length ≤ cap) (hm : cap ≤ maxLen) (hA : Lies w A (flat l)) (hS : ∀ x ∈ l, x.sv.length ≤ maxLen ∧ x.nm.length ≤ maxLen) (B : Option Addr) (capb : Nat) (b : List UInt8) (hlb : b.length ≤ capb) (hmb : capb ≤ maxLen) (hB : Lies w B (cells b)) :
    Calls Tryz.prog 3 #[.slice A l.length cap, .slice B b.length capb] w fun e w' => e = .returned (.bool true) ∧ Below w.heap.size w w' := by
  have HA := Lib.hid hA
  have HH := Lib.hid (show ∀ u, Below w.heap.size w u → Handle u from fun u h => hT.below hT.lt h)
  have HT := Lib.hid hT
  have HS := Lib.hid (show Fine l from hS)
  obtain ⟨n, hn⟩ : ∃ n, l.length = n := ⟨_, rfl⟩
  rw [hn] at hl ⊢
  have HN := Lib.hid hn
  have HM := Lib.hid hm
  unfold maxLen at hm
  clear hA hT hS hn
  have HB := Lib.hid hB
  obtain ⟨nb, hnb⟩ : ∃ nb, b.length = nb := ⟨_, rfl⟩
  rw [hnb] at hlb ⊢
  have HNB := Lib.hid hnb
  have HMB := Lib.hid hmb
  unfold maxLen at hmb
  clear hB hnb
  go_enter Tryz.func3, Tryz.ntmps3
  go_wp2_with fail
  refine (head_any w HT.out).mono ?_
  rintro e w1 ⟨rfl, c1⟩
  go_wp2_with fail
  refine (great_any A n cap l w1 HN.out hl HM.out (HA.out.below c1)).mono ?_
  rintro e w2 ⟨g, rfl, hg, d2⟩
  have c2 := c1.trans (d2.mono c1.size)
  rcases g with _ | _
  rotate_left
  · go_wp2
    go_ret
    exact ⟨rfl, c2⟩
  have h300 := hg rfl
  clear hg
  by_cases h90 : 9000 < nb
  · go_wp2
    go_ret
    exact ⟨rfl, c2⟩
  have hmn := Nat.le_trans hl HM.out
  have HSO := Lib.hid (tsort_any A n cap l w2 HN.out hmn (HA.out.below c2) HS.out)
  have HSR := Lib.hid (fun (u : World) (h : Below w.heap.size w u) => rtsort_any A n cap l u HN.out (HA.out.below h) HS.out)
  have HF1 := Lib.hid (fine_ts l)
  have htl := Plain.ts_len l
  obtain ⟨R, hR⟩ : ∃ R, Plain.isT (Plain.srt l) = R := ⟨_, rfl⟩
  rw [hR] at HSO HSR
  obtain ⟨s, hs⟩ : ∃ s, Plain.ts l = s := ⟨_, rfl⟩
  rw [hs] at HSO HSR HF1 htl
  obtain ⟨m, hm0⟩ : ∃ m, s.length = m := ⟨_, rfl⟩
  have HSL := Lib.hid hm0
  rw [hm0] at htl
  clear hR hs hm0
  go_wp2_with fail
  refine HSO.out.mono ?_
  rintro e w3 ⟨v3, rfl, A3, cap3, rfl, hl3, hm3, hL3, d3⟩
  have c3 := c2.trans (d3.mono c2.size)
  have HL3 := Lib.hid hL3
  rw [HSL.out] at hl3 ⊢
  clear hL3 HSO
  go_wp2_with fail
  refine (HSR.out w3 c3).mono ?_
  rintro e w4 ⟨v4, rfl, A4, cap4, rfl, hl4, hm4, hL4, d4⟩
  have c4 := c3.trans (d4.mono c3.size)
  have HL4 := Lib.hid hL4
  rw [HSL.out] at hl4 ⊢
  have HG1 := Lib.hid (tget_any B nb capb b w4 (HH.out _ c4) HNB.out hlb HMB.out (by omega) (HB.out.below c4))
  have HG2 := Lib.hid (fun (u : World) (h : Below w.heap.size w u) => rtget_any B nb capb b u HNB.out hlb HMB.out (by omega) (HB.out.below h))
  obtain ⟨p, hp⟩ : ∃ p, (Plain.tget b).1 = p := ⟨_, rfl⟩
  obtain ⟨C, hC⟩ : ∃ C, (Plain.tget b).2 = C := ⟨_, rfl⟩
  have hpc : Plain.tget b = (p, C) := by rw [← hp, ← hC]
  rw [hpc] at HG1 HG2
  obtain ⟨pl, hpl⟩ : ∃ pl, p.length = pl := ⟨_, rfl⟩
  have HPL := Lib.hid hpl
  clear hL4 HSR hp hC hpc hpl
  go_wp2_with fail
  refine HG1.out.mono ?_
  rintro e w5 ⟨v5, rfl, A5, cap5, rfl, hl5, hm5, hL5, d5⟩
  simp only at hl5 hL5
  simp only [HPL.out]
  have c5 := c4.trans (d5.mono c4.size)
  have HL5 := Lib.hid hL5
  rw [HPL.out] at hl5
  clear hL5 HG1
  go_wp2_with fail
  refine (HG2.out w5 c5).mono ?_
  rintro e w6 ⟨v6, rfl, A6, cap6, rfl, hl6, hm6, hL6, d6⟩
  simp only at hl6 hL6
  simp only [HPL.out]
  have c6 := c5.trans (d6.mono c5.size)
  have HL6 := Lib.hid hL6
  rw [HPL.out] at hl6
  clear hL6 HG2
  have hbd : Below w6.heap.size w6 w6.drew := (Below.refl _ _).drew
  have HX3 := Lib.hid (((HL3.out.below d4).below d5).below d6)
  have HX4 := Lib.hid ((HL4.out.below d5).below d6)
  have HX5 := Lib.hid (HL5.out.below d6)
  have HR1 := Lib.hid (fun (W : World) (h : Below w6.heap.size w6 W) => tright_any A n cap l W HN.out hmn (HA.out.below (c6.trans (h.mono c6.size))) HS.out)
  have HR2 := Lib.hid (fun (W : World) (h : Below w6.heap.size w6 W) => rtright_any A n cap l W HN.out (HA.out.below (c6.trans (h.mono c6.size))) HS.out)
  have HO1 := Lib.hid (fun (W : World) (h : Below w6.heap.size w6 W) => tof_any A n cap l W HN.out hmn (HA.out.below (c6.trans (h.mono c6.size))) HS.out)
  have HO2 := Lib.hid (fun (W : World) (h : Below w6.heap.size w6 W) => rtof_any A n cap l W HN.out (HA.out.below (c6.trans (h.mono c6.size))) HS.out)
  have HO3 := Lib.hid (fun (W : World) (h : Below w6.heap.size w6 W) => tof_any A3 m cap3 s W HSL.out (Nat.le_trans hl3 hm3) (HX3.out.below h) HF1.out)
  have HO4 := Lib.hid (fun (W : World) (h : Below w6.heap.size w6 W) => rtof_any A4 m cap4 s W HSL.out (HX4.out.below h) HF1.out)
  have HP1 := Lib.hid (fun (W : World) (h : Below w6.heap.size w6 W) => tput_any A3 m cap3 s W HSL.out (Nat.le_trans hl3 hm3) (HX3.out.below h) HF1.out)
  have HP2 := Lib.hid (fun (W : World) (h : Below w6.heap.size w6 W) => rtput_any A4 m cap4 s W HSL.out (HX4.out.below h) HF1.out)
  have HSM := Lib.hid (fun (W : World) (h : Below w6.heap.size w6 W) => same_any A3 A4 m m cap3 cap4 s s W HSL.out HSL.out hl3 hl4 hm3 hm4 (HX3.out.below h) (HX4.out.below h))
  have HSG := Lib.hid (fun (W : World) (h : Below w6.heap.size w6 W) => same_any A5 A6 pl pl cap5 cap6 p p W HPL.out HPL.out hl5 hl6 hm5 hm6 (HX5.out.below h) (HL6.out.below h))
  rw [decide_eq_true rfl] at HSM HSG
  generalize Plain.isT l = R0 at *
  generalize Plain.brief l = b1 at *
  generalize Plain.brief s = b2 at *
  generalize Plain.tput s = T0 at *
  have EQB := Lib.hid (fun (W : World) (r : Bool) => eqb_same W r)
  have EQT := Lib.hid (fun (W : World) => eqs_same W T0)
  have EQC := Lib.hid (fun (W : World) => show (binOp .eql 28 (.int .i64 (C : Int)) (.int .i64 (C : Int))).run Tryz.prog W = .ok (.bool true) W by go_simp)
  go_wp2
  refine wp_soft (by kernel_rfl) 94 [(43, [5]), (44, [43]), (45, [0, 44]), (46, [45, 44]), (47, [0, 44]), (48, [47, 44]), (49, [46, 48, 44]), (50, [44, 49]), (51, [50]), (52, [6, 51]), (53, [8, 51]), (54, [52, 53, 51]), (55, [51, 54]), (56, [55]), (57, [7, 56]), (58, [9, 56]), (59, [57, 58, 56]), (60, [56, 59]), (61, [60]), (62, [0, 61]), (63, [62, 61]), (64, [0, 61]), (65, [64, 61]), (66, [63, 65, 61]), (67, [61, 66]), (68, [67]), (69, [6, 68]), (70, [69, 68]), (71, [8, 68]), (72, [71, 68]), (73, [70, 72, 68]), (74, [68, 73]), (75, [74]), (76, [6, 75]), (77, [76, 75]), (78, [77, 75]), (79, [8, 75]), (80, [79, 75]), (81, [80, 75]), (82, [78, 81, 75]), (83, [75, 82]), (84, [83]), (85, [10, 84]), (86, [12, 84]), (87, [85, 86, 84]), (88, [84, 87]), (89, [88]), (90, [11, 89]), (91, [13, 89]), (92, [90, 91, 89]), (93, [89, 92]), (4, [93])]
    [Fact.is (.bool true), Fact.is (.bool true), Fact.is (.slice A n cap), Fact.is (.bool R0), Fact.is (.slice A n cap), Fact.is (.bool R0), Fact.is (.bool true), Fact.is (.bool true), Fact.is (.bool true), Fact.is (.slice A3 m cap3), Fact.is (.slice A4 m cap4), Fact.is (.bool true), Fact.is (.bool true), Fact.is (.bool true), Fact.is (.bool R), Fact.is (.bool R), Fact.is (.bool true), Fact.is (.bool true), Fact.is (.bool true), Fact.is (.slice A n cap), Fact.brief b1.id b1.lo b1.hi (b1.many : Int) b1.sv, Fact.is (.slice A n cap), Fact.brief b1.id b1.lo b1.hi (b1.many : Int) b1.sv, Fact.is (.bool true), Fact.is (.bool true), Fact.is (.bool true), Fact.is (.slice A3 m cap3), Fact.brief b2.id b2.lo b2.hi (b2.many : Int) b2.sv, Fact.is (.slice A4 m cap4), Fact.brief b2.id b2.lo b2.hi (b2.many : Int) b2.sv, Fact.is (.bool true), Fact.is (.bool true), Fact.is (.bool true), Fact.is (.slice A3 m cap3), Fact.own T0, Fact.is (.string (str T0)), Fact.is (.slice A4 m cap4), Fact.own T0, Fact.is (.string (str T0)), Fact.is (.bool true), Fact.is (.bool true), Fact.is (.bool true), Fact.is (.slice A5 pl cap5), Fact.is (.slice A6 pl cap6), Fact.is (.bool true), Fact.is (.bool true), Fact.is (.bool true), Fact.is (.int .i64 (C : Int)), Fact.is (.int .i64 (C : Int)), Fact.is (.bool true), Fact.is (.bool true), Fact.is (.bool true)]
    (by kernel_rfl) rfl rfl ⟨?s0, ?s1, ?s2, ?s3, ?s4, ?s5, ?s6, ?s7, ?s8, ?s9, ?s10, ?s11, ?s12, ?s13, ?s14, ?s15, ?s16, ?s17, ?s18, ?s19, ?s20, ?s21, ?s22, ?s23, ?s24, ?s25, ?s26, ?s27, ?s28, ?s29, ?s30, ?s31, ?s32, ?s33, ?s34, ?s35, ?s36, ?s37, ?s38, ?s39, ?s40, ?s41, ?s42, ?s43, ?s44, ?s45, ?s46, ?s47, ?s48, ?s49, ?s50, ?s51, trivial⟩ ?fin
  case s0 =>
    intro ρ W hb hc hf hr
    obtain ⟨r5, -⟩ := hr
    have e5 : ρ (.tmp 5) = .bool true := r5
    clear r5
    refine under_none rfl ?_
    exact ⟨e5, Below.refl _ _⟩
  case s1 =>
    intro ρ W hb hc hf hr
    obtain ⟨r43, -⟩ := hr
    have e43 : ρ (.tmp 43) = .bool true := r43
    clear r43
    refine under_none rfl ?_
    exact ⟨e43, Below.refl _ _⟩
  case s2 =>
    intro ρ W hb hc hf hr
    obtain ⟨r0, r44, -⟩ := hr
    have e0 : ρ (.tmp 0) = .slice A n cap := r0
    clear r0
    have e44 : ρ (.tmp 44) = .bool true := r44
    clear r44
    refine ⟨44, rfl, .inl ⟨e44, ?_⟩⟩
    exact ⟨e0, Below.refl _ _⟩
  case s3 =>
    intro ρ W hb hc hf hr
    obtain ⟨r45, r44, -⟩ := hr
    have e45 : ρ (.tmp 45) = .slice A n cap := r45
    clear r45
    have e44 : ρ (.tmp 44) = .bool true := r44
    clear r44
    refine ⟨44, rfl, .inl ⟨e44, ?_⟩⟩
    exact soft_call1 hf e45 (HR1.out W (hbd.trans (hb.mono (by simp)))) rfl (by kernel_rfl) below_is
  case s4 =>
    intro ρ W hb hc hf hr
    obtain ⟨r0, r44, -⟩ := hr
    have e0 : ρ (.tmp 0) = .slice A n cap := r0
    clear r0
    have e44 : ρ (.tmp 44) = .bool true := r44
    clear r44
    refine ⟨44, rfl, .inl ⟨e44, ?_⟩⟩
    exact ⟨e0, Below.refl _ _⟩
  case s5 =>
    intro ρ W hb hc hf hr
    obtain ⟨r47, r44, -⟩ := hr
    have e47 : ρ (.tmp 47) = .slice A n cap := r47
    clear r47
    have e44 : ρ (.tmp 44) = .bool true := r44
    clear r44
    refine ⟨44, rfl, .inl ⟨e44, ?_⟩⟩
    exact soft_call1 hf e47 (HR2.out W (hbd.trans (hb.mono (by simp)))) rfl (by kernel_rfl) below_is
  case s6 =>
    intro ρ W hb hc hf hr
    obtain ⟨r46, r48, r44, -⟩ := hr
    have e46 : ρ (.tmp 46) = .bool R0 := r46
    clear r46
    have e48 : ρ (.tmp 48) = .bool R0 := r48
    clear r48
    have e44 : ρ (.tmp 44) = .bool true := r44
    clear r44
    refine ⟨44, rfl, .inl ⟨e44, ?_⟩⟩
    exact soft_bin e46 e48 rfl rfl (EQB.out W R0)
  case s7 =>
    intro ρ W hb hc hf hr
    obtain ⟨r44, r49, -⟩ := hr
    have e44 : ρ (.tmp 44) = .bool true := r44
    clear r44
    have e49 : ρ (.tmp 49) = .bool true := r49
    clear r49
    refine under_none rfl ?_
    simp [execOp, e44, e49, go_sem, softUpon, Fact.is, Below.refl]
  case s8 =>
    intro ρ W hb hc hf hr
    obtain ⟨r50, -⟩ := hr
    have e50 : ρ (.tmp 50) = .bool true := r50
    clear r50
    refine under_none rfl ?_
    exact ⟨e50, Below.refl _ _⟩
  case s9 =>
    intro ρ W hb hc hf hr
    obtain ⟨r6, r51, -⟩ := hr
    have e6 : ρ (.tmp 6) = .slice A3 m cap3 := r6
    clear r6
    have e51 : ρ (.tmp 51) = .bool true := r51
    clear r51
    refine ⟨51, rfl, .inl ⟨e51, ?_⟩⟩
    exact ⟨e6, Below.refl _ _⟩
  case s10 =>
    intro ρ W hb hc hf hr
    obtain ⟨r8, r51, -⟩ := hr
    have e8 : ρ (.tmp 8) = .slice A4 m cap4 := r8
    clear r8
    have e51 : ρ (.tmp 51) = .bool true := r51
    clear r51
    refine ⟨51, rfl, .inl ⟨e51, ?_⟩⟩
    exact ⟨e8, Below.refl _ _⟩
  case s11 =>
    intro ρ W hb hc hf hr
    obtain ⟨r52, r53, r51, -⟩ := hr
    have e52 : ρ (.tmp 52) = .slice A3 m cap3 := r52
    clear r52
    have e53 : ρ (.tmp 53) = .slice A4 m cap4 := r53
    clear r53
    have e51 : ρ (.tmp 51) = .bool true := r51
    clear r51
    refine ⟨51, rfl, .inl ⟨e51, ?_⟩⟩
    exact soft_call2 hf e52 e53 (HSM.out W (hbd.trans (hb.mono (by simp)))) rfl (by kernel_rfl) below_is
  case s12 =>
    intro ρ W hb hc hf hr
    obtain ⟨r51, r54, -⟩ := hr
    have e51 : ρ (.tmp 51) = .bool true := r51
    clear r51
    have e54 : ρ (.tmp 54) = .bool true := r54
    clear r54
    refine under_none rfl ?_
    simp [execOp, e51, e54, go_sem, softUpon, Fact.is, Below.refl]
  case s13 =>
    intro ρ W hb hc hf hr
    obtain ⟨r55, -⟩ := hr
    have e55 : ρ (.tmp 55) = .bool true := r55
    clear r55
    refine under_none rfl ?_
    exact ⟨e55, Below.refl _ _⟩
  case s14 =>
    intro ρ W hb hc hf hr
    obtain ⟨r7, r56, -⟩ := hr
    have e7 : ρ (.tmp 7) = .bool R := r7
    clear r7
    have e56 : ρ (.tmp 56) = .bool true := r56
    clear r56
    refine ⟨56, rfl, .inl ⟨e56, ?_⟩⟩
    exact ⟨e7, Below.refl _ _⟩
  case s15 =>
    intro ρ W hb hc hf hr
    obtain ⟨r9, r56, -⟩ := hr
    have e9 : ρ (.tmp 9) = .bool R := r9
    clear r9
    have e56 : ρ (.tmp 56) = .bool true := r56
    clear r56
    refine ⟨56, rfl, .inl ⟨e56, ?_⟩⟩
    exact ⟨e9, Below.refl _ _⟩
  case s16 =>
    intro ρ W hb hc hf hr
    obtain ⟨r57, r58, r56, -⟩ := hr
    have e57 : ρ (.tmp 57) = .bool R := r57
    clear r57
    have e58 : ρ (.tmp 58) = .bool R := r58
    clear r58
    have e56 : ρ (.tmp 56) = .bool true := r56
    clear r56
    refine ⟨56, rfl, .inl ⟨e56, ?_⟩⟩
    exact soft_bin e57 e58 rfl rfl (EQB.out W R)
  case s17 =>
    intro ρ W hb hc hf hr
    obtain ⟨r56, r59, -⟩ := hr
    have e56 : ρ (.tmp 56) = .bool true := r56
    clear r56
    have e59 : ρ (.tmp 59) = .bool true := r59
    clear r59
    refine under_none rfl ?_
    simp [execOp, e56, e59, go_sem, softUpon, Fact.is, Below.refl]
  case s18 =>
    intro ρ W hb hc hf hr
    obtain ⟨r60, -⟩ := hr
    have e60 : ρ (.tmp 60) = .bool true := r60
    clear r60
    refine under_none rfl ?_
    exact ⟨e60, Below.refl _ _⟩
  case s19 =>
    intro ρ W hb hc hf hr
    obtain ⟨r0, r61, -⟩ := hr
    have e0 : ρ (.tmp 0) = .slice A n cap := r0
    clear r0
    have e61 : ρ (.tmp 61) = .bool true := r61
    clear r61
    refine ⟨61, rfl, .inl ⟨e61, ?_⟩⟩
    exact ⟨e0, Below.refl _ _⟩
  case s20 =>
    intro ρ W hb hc hf hr
    obtain ⟨r62, r61, -⟩ := hr
    have e62 : ρ (.tmp 62) = .slice A n cap := r62
    clear r62
    have e61 : ρ (.tmp 61) = .bool true := r61
    clear r61
    refine ⟨61, rfl, .inl ⟨e61, ?_⟩⟩
    exact soft_call1 hf e62 (HO1.out W (hbd.trans (hb.mono (by simp)))) rfl (by kernel_rfl) gives_brief
  case s21 =>
    intro ρ W hb hc hf hr
    obtain ⟨r0, r61, -⟩ := hr
    have e0 : ρ (.tmp 0) = .slice A n cap := r0
    clear r0
    have e61 : ρ (.tmp 61) = .bool true := r61
    clear r61
    refine ⟨61, rfl, .inl ⟨e61, ?_⟩⟩
    exact ⟨e0, Below.refl _ _⟩
  case s22 =>
    intro ρ W hb hc hf hr
    obtain ⟨r64, r61, -⟩ := hr
    have e64 : ρ (.tmp 64) = .slice A n cap := r64
    clear r64
    have e61 : ρ (.tmp 61) = .bool true := r61
    clear r61
    refine ⟨61, rfl, .inl ⟨e61, ?_⟩⟩
    exact soft_call1 hf e64 (HO2.out W (hbd.trans (hb.mono (by simp)))) rfl (by kernel_rfl) gives_brief
  case s23 =>
    intro ρ W hb hc hf hr
    obtain ⟨r63, r65, r61, -⟩ := hr
    have e61 : ρ (.tmp 61) = .bool true := r61
    clear r61
    refine ⟨61, rfl, .inl ⟨e61, ?_⟩⟩
    exact soft_sameB hf r63 r65 rfl
  case s24 =>
    intro ρ W hb hc hf hr
    obtain ⟨r61, r66, -⟩ := hr
    have e61 : ρ (.tmp 61) = .bool true := r61
    clear r61
    have e66 : ρ (.tmp 66) = .bool true := r66
    clear r66
    refine under_none rfl ?_
    simp [execOp, e61, e66, go_sem, softUpon, Fact.is, Below.refl]
  case s25 =>
    intro ρ W hb hc hf hr
    obtain ⟨r67, -⟩ := hr
    have e67 : ρ (.tmp 67) = .bool true := r67
    clear r67
    refine under_none rfl ?_
    exact ⟨e67, Below.refl _ _⟩
  case s26 =>
    intro ρ W hb hc hf hr
    obtain ⟨r6, r68, -⟩ := hr
    have e6 : ρ (.tmp 6) = .slice A3 m cap3 := r6
    clear r6
    have e68 : ρ (.tmp 68) = .bool true := r68
    clear r68
    refine ⟨68, rfl, .inl ⟨e68, ?_⟩⟩
    exact ⟨e6, Below.refl _ _⟩
  case s27 =>
    intro ρ W hb hc hf hr
    obtain ⟨r69, r68, -⟩ := hr
    have e69 : ρ (.tmp 69) = .slice A3 m cap3 := r69
    clear r69
    have e68 : ρ (.tmp 68) = .bool true := r68
    clear r68
    refine ⟨68, rfl, .inl ⟨e68, ?_⟩⟩
    exact soft_call1 hf e69 (HO3.out W (hbd.trans (hb.mono (by simp)))) rfl (by kernel_rfl) gives_brief
  case s28 =>
    intro ρ W hb hc hf hr
    obtain ⟨r8, r68, -⟩ := hr
    have e8 : ρ (.tmp 8) = .slice A4 m cap4 := r8
    clear r8
    have e68 : ρ (.tmp 68) = .bool true := r68
    clear r68
    refine ⟨68, rfl, .inl ⟨e68, ?_⟩⟩
    exact ⟨e8, Below.refl _ _⟩
  case s29 =>
    intro ρ W hb hc hf hr
    obtain ⟨r71, r68, -⟩ := hr
    have e71 : ρ (.tmp 71) = .slice A4 m cap4 := r71
    clear r71
    have e68 : ρ (.tmp 68) = .bool true := r68
    clear r68
    refine ⟨68, rfl, .inl ⟨e68, ?_⟩⟩
    exact soft_call1 hf e71 (HO4.out W (hbd.trans (hb.mono (by simp)))) rfl (by kernel_rfl) gives_brief
  case s30 =>
    intro ρ W hb hc hf hr
    obtain ⟨r70, r72, r68, -⟩ := hr
    have e68 : ρ (.tmp 68) = .bool true := r68
    clear r68
    refine ⟨68, rfl, .inl ⟨e68, ?_⟩⟩
    exact soft_sameB hf r70 r72 rfl
  case s31 =>
    intro ρ W hb hc hf hr
    obtain ⟨r68, r73, -⟩ := hr
    have e68 : ρ (.tmp 68) = .bool true := r68
    clear r68
    have e73 : ρ (.tmp 73) = .bool true := r73
    clear r73
    refine under_none rfl ?_
    simp [execOp, e68, e73, go_sem, softUpon, Fact.is, Below.refl]
  case s32 =>
    intro ρ W hb hc hf hr
    obtain ⟨r74, -⟩ := hr
    have e74 : ρ (.tmp 74) = .bool true := r74
    clear r74
    refine under_none rfl ?_
    exact ⟨e74, Below.refl _ _⟩
  case s33 =>
    intro ρ W hb hc hf hr
    obtain ⟨r6, r75, -⟩ := hr
    have e6 : ρ (.tmp 6) = .slice A3 m cap3 := r6
    clear r6
    have e75 : ρ (.tmp 75) = .bool true := r75
    clear r75
    refine ⟨75, rfl, .inl ⟨e75, ?_⟩⟩
    exact ⟨e6, Below.refl _ _⟩
  case s34 =>
    intro ρ W hb hc hf hr
    obtain ⟨r76, r75, -⟩ := hr
    have e76 : ρ (.tmp 76) = .slice A3 m cap3 := r76
    clear r76
    have e75 : ρ (.tmp 75) = .bool true := r75
    clear r75
    refine ⟨75, rfl, .inl ⟨e75, ?_⟩⟩
    exact soft_call1 hf e76 (HP1.out W (hbd.trans (hb.mono (by simp)))) rfl (by kernel_rfl) made_own
  case s35 =>
    intro ρ W hb hc hf hr
    obtain ⟨r77, r75, -⟩ := hr
    have e75 : ρ (.tmp 75) = .bool true := r75
    clear r75
    refine ⟨75, rfl, .inl ⟨e75, ?_⟩⟩
    exact soft_own r77 rfl
  case s36 =>
    intro ρ W hb hc hf hr
    obtain ⟨r8, r75, -⟩ := hr
    have e8 : ρ (.tmp 8) = .slice A4 m cap4 := r8
    clear r8
    have e75 : ρ (.tmp 75) = .bool true := r75
    clear r75
    refine ⟨75, rfl, .inl ⟨e75, ?_⟩⟩
    exact ⟨e8, Below.refl _ _⟩
  case s37 =>
    intro ρ W hb hc hf hr
    obtain ⟨r79, r75, -⟩ := hr
    have e79 : ρ (.tmp 79) = .slice A4 m cap4 := r79
    clear r79
    have e75 : ρ (.tmp 75) = .bool true := r75
    clear r75
    refine ⟨75, rfl, .inl ⟨e75, ?_⟩⟩
    exact soft_call1 hf e79 (HP2.out W (hbd.trans (hb.mono (by simp)))) rfl (by kernel_rfl) (fun _ _ h => h)
  case s38 =>
    intro ρ W hb hc hf hr
    obtain ⟨r80, r75, -⟩ := hr
    have e75 : ρ (.tmp 75) = .bool true := r75
    clear r75
    refine ⟨75, rfl, .inl ⟨e75, ?_⟩⟩
    exact soft_own r80 rfl
  case s39 =>
    intro ρ W hb hc hf hr
    obtain ⟨r78, r81, r75, -⟩ := hr
    have e78 : ρ (.tmp 78) = .string (str T0) := r78
    clear r78
    have e81 : ρ (.tmp 81) = .string (str T0) := r81
    clear r81
    have e75 : ρ (.tmp 75) = .bool true := r75
    clear r75
    refine ⟨75, rfl, .inl ⟨e75, ?_⟩⟩
    exact soft_bin e78 e81 rfl rfl (EQT.out W)
  case s40 =>
    intro ρ W hb hc hf hr
    obtain ⟨r75, r82, -⟩ := hr
    have e75 : ρ (.tmp 75) = .bool true := r75
    clear r75
    have e82 : ρ (.tmp 82) = .bool true := r82
    clear r82
    refine under_none rfl ?_
    simp [execOp, e75, e82, go_sem, softUpon, Fact.is, Below.refl]
  case s41 =>
    intro ρ W hb hc hf hr
    obtain ⟨r83, -⟩ := hr
    have e83 : ρ (.tmp 83) = .bool true := r83
    clear r83
    refine under_none rfl ?_
    exact ⟨e83, Below.refl _ _⟩
  case s42 =>
    intro ρ W hb hc hf hr
    obtain ⟨r10, r84, -⟩ := hr
    have e10 : ρ (.tmp 10) = .slice A5 pl cap5 := r10
    clear r10
    have e84 : ρ (.tmp 84) = .bool true := r84
    clear r84
    refine ⟨84, rfl, .inl ⟨e84, ?_⟩⟩
    exact ⟨e10, Below.refl _ _⟩
  case s43 =>
    intro ρ W hb hc hf hr
    obtain ⟨r12, r84, -⟩ := hr
    have e12 : ρ (.tmp 12) = .slice A6 pl cap6 := r12
    clear r12
    have e84 : ρ (.tmp 84) = .bool true := r84
    clear r84
    refine ⟨84, rfl, .inl ⟨e84, ?_⟩⟩
    exact ⟨e12, Below.refl _ _⟩
  case s44 =>
    intro ρ W hb hc hf hr
    obtain ⟨r85, r86, r84, -⟩ := hr
    have e85 : ρ (.tmp 85) = .slice A5 pl cap5 := r85
    clear r85
    have e86 : ρ (.tmp 86) = .slice A6 pl cap6 := r86
    clear r86
    have e84 : ρ (.tmp 84) = .bool true := r84
    clear r84
    refine ⟨84, rfl, .inl ⟨e84, ?_⟩⟩
    exact soft_call2 hf e85 e86 (HSG.out W (hbd.trans (hb.mono (by simp)))) rfl (by kernel_rfl) below_is
  case s45 =>
    intro ρ W hb hc hf hr
    obtain ⟨r84, r87, -⟩ := hr
    have e84 : ρ (.tmp 84) = .bool true := r84
    clear r84
    have e87 : ρ (.tmp 87) = .bool true := r87
    clear r87
    refine under_none rfl ?_
    simp [execOp, e84, e87, go_sem, softUpon, Fact.is, Below.refl]
  case s46 =>
    intro ρ W hb hc hf hr
    obtain ⟨r88, -⟩ := hr
    have e88 : ρ (.tmp 88) = .bool true := r88
    clear r88
    refine under_none rfl ?_
    exact ⟨e88, Below.refl _ _⟩
  case s47 =>
    intro ρ W hb hc hf hr
    obtain ⟨r11, r89, -⟩ := hr
    have e11 : ρ (.tmp 11) = .int .i64 (C : Int) := r11
    clear r11
    have e89 : ρ (.tmp 89) = .bool true := r89
    clear r89
    refine ⟨89, rfl, .inl ⟨e89, ?_⟩⟩
    exact ⟨e11, Below.refl _ _⟩
  case s48 =>
    intro ρ W hb hc hf hr
    obtain ⟨r13, r89, -⟩ := hr
    have e13 : ρ (.tmp 13) = .int .i64 (C : Int) := r13
    clear r13
    have e89 : ρ (.tmp 89) = .bool true := r89
    clear r89
    refine ⟨89, rfl, .inl ⟨e89, ?_⟩⟩
    exact ⟨e13, Below.refl _ _⟩
  case s49 =>
    intro ρ W hb hc hf hr
    obtain ⟨r90, r91, r89, -⟩ := hr
    have e90 : ρ (.tmp 90) = .int .i64 (C : Int) := r90
    clear r90
    have e91 : ρ (.tmp 91) = .int .i64 (C : Int) := r91
    clear r91
    have e89 : ρ (.tmp 89) = .bool true := r89
    clear r89
    refine ⟨89, rfl, .inl ⟨e89, ?_⟩⟩
    exact soft_bin e90 e91 rfl rfl (EQC.out W)
  case s50 =>
    intro ρ W hb hc hf hr
    obtain ⟨r89, r92, -⟩ := hr
    have e89 : ρ (.tmp 89) = .bool true := r89
    clear r89
    have e92 : ρ (.tmp 92) = .bool true := r92
    clear r92
    refine under_none rfl ?_
    simp [execOp, e89, e92, go_sem, softUpon, Fact.is, Below.refl]
  case s51 =>
    intro ρ W hb hc hf hr
    obtain ⟨r93, -⟩ := hr
    have e93 : ρ (.tmp 93) = .bool true := r93
    clear r93
    refine under_none rfl ?_
    exact ⟨e93, Below.refl _ _⟩
  case fin =>
    intro a u4 hb hd hk
    have h4 : a.tmps.getD 4 undef = .bool true := hk 4
    clear hk
    go_wp2
    refine bodyPost_ret (results_tmp rfl _ _ _) hd ?_
    exact ⟨by rw [h4], c6.trans ((hbd.trans (hb.mono (by simp))).mono c6.size)⟩


set_option maxRecDepth 100000 in
theorem lifted (os : Os) (started : os.Started) (H : Type) (enc : TypeId × Value → H) :
    ReturnsInHanded {} Tryz.checked os 3 .any (fun w args => (Rows.traceTellsSpec.pre enc Tryz.prog Tryz.f3 [] false w args ∧ laidMetH Tryz.prog laidHere w) ∧ sizedMet enc Tryz.prog Tryz.f3 (OpenSpec.ofChange Rows.traceTellsSpec) false w args) (Rows.traceTellsSpec.post enc Tryz.prog Tryz.f3 false true false false) := by
  refine returnsInHanded_of_change_and (C := Tryz.checked) (X := fun w _ => laidMetH Tryz.prog laidHere w) (fun _ _ _ hh h => h.of_heap hh) own started (by kernel_rfl) Tryz.func3
    (ChangeSpec.witness_at (enc := enc) (C := Tryz.checked) (os := os) (X := fun w _ => laidMetH Tryz.prog laidHere w) false (laidWorld os) #[.slice none 0 0, .slice none 0 0] 8 rfl (by kernel_rfl) (by kernel_rfl) (by kernel_rfl) (by kernel_rfl) (by kernel_rfl) (laidWorld_met os _)) ?_
  intro W base args ds gs before hval0 hW _ _ hL _
  have hval : ∀ (j : Nat) t v, Tryz.f3.params[j]? = some t → args[j]? = some v → Value.okWide Tryz.prog W .any base t v := hval0
  have hfin := fun W' => law_post (enc := enc) (P := Tryz.prog) (f := Tryz.f3) (s := Rows.traceTellsSpec) (tb := 4) (W := W) (W' := W') (args := args) (ds := ds) (gs := gs) (before := before) laidOut rfl (by kernel_rfl) Tryz.underlying4 (by kernel_rfl) (fun xs h => by rw [Tryz.params3] at h; match xs, h with | [_, _], _ => rfl) hW
  have hlt : ∀ x ∈ before, x.block < W.heap.size := fun x hx => hW.lt x hx
  obtain ⟨p, q, hA0, hV, rfl, hfz, hnd⟩ := hW
  have hA : DataW.TrodAll enc Tryz.prog W 0 (fun _ => true) true Tryz.f3.params.toList args.toList ds p := hA0
  rw [Tryz.params3] at hA hval
  obtain ⟨v0, vs0, d0, ds0, p0, q0, hargs, rfl, rfl, h0, r0⟩ := trodAll_cons hA
  obtain ⟨v1, vs1, d1, ds1, p1, q1, rfl, rfl, rfl, h1, r1⟩ := trodAll_cons r0
  obtain ⟨rfl, rfl, rfl⟩ := trodAll_nil r1
  obtain rfl : args = #[v0, v1] := by cases args; simp_all
  obtain ⟨A0, cap0, l0, rfl, hl0, hm0, hB0, hS0⟩ := open_spans (hval 0 22 v0 rfl rfl) h0 (fun x hx => hlt x (by simp [hx]))
  obtain ⟨A1, cap1, b1, rfl, hl1, hm1, hB1⟩ := open_bytes (hval 1 23 v1 rfl rfl) h1 (fun x hx => hlt x (by simp [hx]))
  refine (walk W (of_laid hL) A0 cap0 l0 hl0 hm0 hB0 hS0 A1 cap1 b1 hl1 hm1 hB1).mono fun e W' ⟨he, hg⟩ => ?_
  subst he
  exact ⟨_, rfl, hfin W' hg⟩

theorem proved : Rows.TraceTellsSaid :=
  OpenClaim.holds_of_wide 3 Tryz.f3 rfl rfl rfl rfl rfl rfl rfl ⟨rfl, rfl, rfl, rfl, rfl⟩ rfl rfl rfl rfl rfl (by kernel_rfl) Tryz.func3 (by kernel_rfl)
    (of_decide_eq_true (by kernel_rfl)) (by unfold Func.isWrapper; first | (rw [if_pos (by decide +kernel)]; kernel_rfl) | (rw [if_neg (by decide +kernel)]; exact ⟨rfl, rfl⟩))
    (fun os started H enc _ => lifted os started H enc)

set_option maxRecDepth 100000 in
theorem card : Rows.TraceTellsCardSaid :=
  Claim7.holds_tied_plain_at .later [] laidKindsHere true _ true
    proved (fun _ h => by cases h) (by kernel_rfl) (fun _ h => by cases h) traceTells_row_tie rfl ⟨rfl, rfl⟩ (by kernel_rfl) rfl
    (fun f fn hf hfn => by
      obtain rfl : f = 3 := Option.some.inj ((show Tryz.prog.funcNamed "turntable/turntablelaw05.TraceTells" = some 3 by kernel_rfl).symm.trans hf) |>.symm
      obtain rfl : fn = Tryz.f3 := (Option.some.inj (Tryz.func3.symm.trans hfn)).symm
      exact ⟨by kernel_rfl, fun j t ht => by
        rw [Tryz.params3] at ht
        have hm : t ∈ [22, 23] := by simpa using Array.mem_of_getElem? ht
        have hall : ([22, 23].all fun u => !Tryz.prog.wantsStandIn u) = true := by kernel_rfl
        exact (show Tryz.prog.wantsStandIn t = false by simpa using List.all_eq_true.1 hall t hm)⟩)
    (by kernel_rfl)
#print axioms card
end Go.Proofs.YtmmkmhphnhanfaaGreatDoor.traceTells
