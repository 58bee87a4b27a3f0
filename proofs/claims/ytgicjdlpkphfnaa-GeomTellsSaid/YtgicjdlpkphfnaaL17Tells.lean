/-
  GeomTells (turntablelaw17): holds for every input. No condition but that the inputs are a Geo and numbers. (Made by gen17/l17tells.py.)
-/
import Derived.Test.YtgicjdlpkphfnaaHd17
import Derived.Test.YtgicjdlpkphfnaaGeS
import Derived.BigRegion
import Derived.BigQuiet
import Derived.Deep.CutRange
import Derived.Test.YtgicjdlpkphfnaaGeC
import Derived.Test.YtgicjdlpkphfnaaGeZ
import Derived.Test.YtgicjdlpkphfnaaOpG

namespace Go.Proofs.Ytgicjdlpkphfnaa.geomTells
open Go.RowKit Go.Maps
set_option maxRecDepth 100000

theorem rem17 (W : World) (a b c : Int) (h0 : 0 < b) (ha : 0 ≤ a) (h : a % b = c) (hb : b ≤ 1000000) (_ha2 : a ≤ 1000000) : (binOp .rem 3 (.int .i64 a) (.int .i64 b)).run Try.prog W = .ok (.int .i64 c) W := by
  have e : Int.tmod a b = c := by rw [Int.tmod_eq_emod_of_nonneg ha]; exact h
  have hb0 : b ≠ 0 := by omega
  have h2 : 0 ≤ a % b ∧ a % b < b := ⟨Int.emod_nonneg _ hb0, Int.emod_lt_of_pos _ h0⟩
  have hw := wrap17 c (by omega) (by omega)
  go_simp
def Fact.tab17 (t : Tb.T) : Fact := ⟨fun v w => ∃ A cap, v = tabV t.gen t.opn A t.xs.length cap ∧ Lies w A (flatX t.xs), fun _ _ _ ⟨A, c, e, h⟩ hb => ⟨A, c, e, h.below hb⟩⟩
theorem gives17_tab {w : World} {t : Tb.T} : ∀ (e : Ending) (w' : World), Gives17 w w' t e → ∃ v, e = .returned v ∧ (Fact.tab17 t).φ v w' ∧ Below w.heap.size w w' := fun _ _ ⟨A, cap, he, _, _, hl, hb⟩ => ⟨_, he, ⟨A, cap, rfl, hl⟩, hb⟩
theorem soft_same17 {w : World} {ρ : Operand → Value} {o : Oper} {x y : Operand} {t : Tb.T} (hf : ∀ f, ρ (.func f) = .func (.func f) #[] #[]) (hx : (Fact.tab17 t).φ (ρ x) w) (hy : (Fact.tab17 t).φ (ρ y) w) (h8 : t.xs.length ≤ 1000) (ho : o.op = .call { callee := .value (.func 19), args := #[x, y], argTypes := #[31, 31] }) : softUpon Try.prog w (Fact.is (.bool true)) ((execOp ρ o).run Try.prog w) := by
  obtain ⟨A, c, ex, hA⟩ := hx
  obtain ⟨D, d, ey, hD⟩ := hy
  have h := rsame_any t.gen t.opn A c t.xs.length t.xs t.gen t.opn D d t.xs.length t.xs w rfl rfl h8 hA hD
  rw [decide_eq_true rfl] at h
  exact soft_call2 hf ex ey h ho (by kernel_rfl) below_is
theorem eqi17 (W : World) (a : Int) : (binOp .eql 3 (.int .i64 a) (.int .i64 a)).run Try.prog W = .ok (.bool true) W := by go_simp
theorem eqb17 (W : World) (a : Bool) : (binOp .eql 4 (.bool a) (.bool a)).run Try.prog W = .ok (.bool true) W := by cases a <;> go_simp
theorem blank_few (g : Ge.G) : (blank17 g).xs.length ≤ 1000 := by
  unfold blank17
  split
  · rename_i h
    have := (Ge.right_iff.1 h).2.1
    simp
    omega
  · simp

set_option maxHeartbeats 8000000 in
theorem walkN (hOk : GeomOk) (w : World) (g : Ge.G) (i : Int) : Calls Try.prog 3 #[.agg #[.int .i64 g.E, .int .i64 g.S, .int .i64 g.M], .int .i64 i] w fun e w' => e = .returned (.bool true) ∧ Below w.heap.size w w' := by
  have HH := Lib.hid (fun (W : World) => head17_any hOk W)
  have hb := Blk.new w #[.int .i64 g.E, .int .i64 g.S, .int .i64 g.M] 23
  have HB := Lib.hid (show Below w.heap.size w (w.alloc (.cells #[.int .i64 g.E, .int .i64 g.S, .int .i64 g.M] 23)) from (Below.refl _ _).alloc (Nat.le_refl _) _)
  obtain ⟨wa, hwa⟩ : ∃ wa, (w.alloc (.cells #[.int .i64 g.E, .int .i64 g.S, .int .i64 g.M] 23)) = wa := ⟨_, rfl⟩
  rw [hwa] at HB hb
  have HW := Lib.hid hwa
  obtain ⟨R, hFR⟩ : ∃ R, Ge.right g = R := ⟨_, rfl⟩
  obtain ⟨z1, hFS⟩ : ∃ z, Ge.size g = z := ⟨_, rfl⟩
  obtain ⟨z2, hFF⟩ : ∃ z, Ge.first g i = z := ⟨_, rfl⟩
  obtain ⟨z3, hFM⟩ : ∃ z, Ge.room g = z := ⟨_, rfl⟩
  obtain ⟨z4, hFB⟩ : ∃ z, Ge.budget g = z := ⟨_, rfl⟩
  obtain ⟨t, hFK⟩ : ∃ t, blank17 g = t := ⟨_, rfl⟩
  have ht8 : t.xs.length ≤ 1000 := by rw [← hFK]; exact blank_few g
  have FR := Lib.hid (fun (W : World) => show Calls Try.prog 9 #[.agg #[.int .i64 g.E, .int .i64 g.S, .int .i64 g.M]] W (fun e w' => e = .returned (.bool R) ∧ Below W.heap.size W w') by have := hOk.right g W; rwa [hFR] at this)
  have GR := Lib.hid (fun (W : World) => show Calls Try.prog 10 #[.agg #[.int .i64 g.E, .int .i64 g.S, .int .i64 g.M]] W (fun e w' => e = .returned (.bool R) ∧ Below W.heap.size W w') by have := rright17_any g W; rwa [hFR] at this)
  have FS := Lib.hid (fun (W : World) => show Calls Try.prog 11 #[.agg #[.int .i64 g.E, .int .i64 g.S, .int .i64 g.M]] W (fun e w' => e = .returned (.int .i64 z1) ∧ Below W.heap.size W w') by have := hOk.size g W; rwa [hFS] at this)
  have GS := Lib.hid (fun (W : World) => show Calls Try.prog 12 #[.agg #[.int .i64 g.E, .int .i64 g.S, .int .i64 g.M]] W (fun e w' => e = .returned (.int .i64 z1) ∧ Below W.heap.size W w') by have := rsize17_any g W; rwa [hFS] at this)
  have FF := Lib.hid (fun (W : World) => show Calls Try.prog 13 #[.agg #[.int .i64 g.E, .int .i64 g.S, .int .i64 g.M], .int .i64 i] W (fun e w' => e = .returned (.int .i64 z2) ∧ Below W.heap.size W w') by have := hOk.first g i W; rwa [hFF] at this)
  have GF := Lib.hid (fun (W : World) => show Calls Try.prog 14 #[.agg #[.int .i64 g.E, .int .i64 g.S, .int .i64 g.M], .int .i64 i] W (fun e w' => e = .returned (.int .i64 z2) ∧ Below W.heap.size W w') by have := rfirst17_any g i W; rwa [hFF] at this)
  have FM := Lib.hid (fun (W : World) => show Calls Try.prog 15 #[.agg #[.int .i64 g.E, .int .i64 g.S, .int .i64 g.M]] W (fun e w' => e = .returned (.int .i64 z3) ∧ Below W.heap.size W w') by have := hOk.room g W; rwa [hFM] at this)
  have GM := Lib.hid (fun (W : World) => show Calls Try.prog 16 #[.agg #[.int .i64 g.E, .int .i64 g.S, .int .i64 g.M]] W (fun e w' => e = .returned (.int .i64 z3) ∧ Below W.heap.size W w') by have := rroom17_any g W; rwa [hFM] at this)
  have FB := Lib.hid (fun (W : World) => show Calls Try.prog 17 #[.agg #[.int .i64 g.E, .int .i64 g.S, .int .i64 g.M]] W (fun e w' => e = .returned (.int .i64 z4) ∧ Below W.heap.size W w') by have := hOk.budget g W; rwa [hFB] at this)
  have GB := Lib.hid (fun (W : World) => show Calls Try.prog 18 #[.agg #[.int .i64 g.E, .int .i64 g.S, .int .i64 g.M]] W (fun e w' => e = .returned (.int .i64 z4) ∧ Below W.heap.size W w') by have := rbudget17_any g W; rwa [hFB] at this)
  have FK := Lib.hid (fun (W : World) => show Calls Try.prog 20 #[.agg #[.int .i64 g.E, .int .i64 g.S, .int .i64 g.M]] W (fun e w' => Gives17 W w' t e) by have := hOk.blank g W; rwa [hFK] at this)
  have GK := Lib.hid (fun (W : World) => show Calls Try.prog 21 #[.agg #[.int .i64 g.E, .int .i64 g.S, .int .i64 g.M]] W (fun e w' => Gives17 W w' t e) by have := rblank17_any g W; rwa [hFK] at this)
  have HBX := Lib.hid hb
  clear hFR hFS hFF hFM hFB hFK hOk hb hwa
  obtain ⟨gb, hgb⟩ : ∃ gb, w.heap.size = gb := ⟨_, rfl⟩
  go_enter Try.func3, Try.ntmps3
  go_wp2_with fail
  rw [HW.out]
  refine (HH.out wa).mono ?_
  rintro e wb ⟨rfl, d1⟩
  have hb1 := (Kept.of d1 []).blk HBX.out (by simp)
  rw [hgb] at hb1
  have HXG := Lib.hid (fun (W : World) (hW : Below wb.heap.size wb W) => show Blk W gb #[.int .i64 g.E, .int .i64 g.S, .int .i64 g.M] 23 from (Kept.of hW []).blk hb1 (by simp))
  have HB1 := Lib.hid (HB.out.trans (d1.mono HB.out.size))
  have hbd : Below wb.heap.size wb wb.drew := (Below.refl _ _).drew
  clear d1 hb1
  go_wp2
  refine wp_softS (by kernel_rfl) 52 [(7, [5]), (8, [7]), (9, [2, 8]), (10, [9, 8]), (11, [2, 8]), (12, [11, 8]), (13, [10, 12, 8]), (14, [8, 13]), (15, [14]), (16, [2, 15]), (17, [16, 15]), (18, [2, 15]), (19, [18, 15]), (20, [17, 19, 15]), (21, [15, 20]), (22, [21]), (23, [2, 22]), (24, [1, 22]), (25, [23, 24, 22]), (26, [2, 22]), (27, [1, 22]), (28, [26, 27, 22]), (29, [25, 28, 22]), (30, [22, 29]), (31, [30]), (32, [2, 31]), (33, [32, 31]), (34, [2, 31]), (35, [34, 31]), (36, [33, 35, 31]), (37, [31, 36]), (38, [37]), (39, [2, 38]), (40, [39, 38]), (41, [2, 38]), (42, [41, 38]), (43, [40, 42, 38]), (44, [38, 43]), (45, [44]), (46, [2, 45]), (47, [46, 45]), (48, [2, 45]), (49, [48, 45]), (50, [47, 49, 45]), (51, [45, 50]), (4, [51])]
    [Fact.is (.bool true), Fact.is (.bool true), Fact.is (.agg #[.int .i64 g.E, .int .i64 g.S, .int .i64 g.M]), Fact.is (.bool R), Fact.is (.agg #[.int .i64 g.E, .int .i64 g.S, .int .i64 g.M]), Fact.is (.bool R), Fact.is (.bool true), Fact.is (.bool true), Fact.is (.bool true), Fact.is (.agg #[.int .i64 g.E, .int .i64 g.S, .int .i64 g.M]), Fact.is (.int .i64 z1), Fact.is (.agg #[.int .i64 g.E, .int .i64 g.S, .int .i64 g.M]), Fact.is (.int .i64 z1), Fact.is (.bool true), Fact.is (.bool true), Fact.is (.bool true), Fact.is (.agg #[.int .i64 g.E, .int .i64 g.S, .int .i64 g.M]), Fact.is (.int .i64 i), Fact.is (.int .i64 z2), Fact.is (.agg #[.int .i64 g.E, .int .i64 g.S, .int .i64 g.M]), Fact.is (.int .i64 i), Fact.is (.int .i64 z2), Fact.is (.bool true), Fact.is (.bool true), Fact.is (.bool true), Fact.is (.agg #[.int .i64 g.E, .int .i64 g.S, .int .i64 g.M]), Fact.is (.int .i64 z3), Fact.is (.agg #[.int .i64 g.E, .int .i64 g.S, .int .i64 g.M]), Fact.is (.int .i64 z3), Fact.is (.bool true), Fact.is (.bool true), Fact.is (.bool true), Fact.is (.agg #[.int .i64 g.E, .int .i64 g.S, .int .i64 g.M]), Fact.is (.int .i64 z4), Fact.is (.agg #[.int .i64 g.E, .int .i64 g.S, .int .i64 g.M]), Fact.is (.int .i64 z4), Fact.is (.bool true), Fact.is (.bool true), Fact.is (.bool true), Fact.is (.agg #[.int .i64 g.E, .int .i64 g.S, .int .i64 g.M]), Fact.tab17 t, Fact.is (.agg #[.int .i64 g.E, .int .i64 g.S, .int .i64 g.M]), Fact.tab17 t, Fact.is (.bool true), Fact.is (.bool true), Fact.is (.bool true)]
    (by kernel_rfl) rfl rfl ⟨?s0, ?s1, ?s2, ?s3, ?s4, ?s5, ?s6, ?s7, ?s8, ?s9, ?s10, ?s11, ?s12, ?s13, ?s14, ?s15, ?s16, ?s17, ?s18, ?s19, ?s20, ?s21, ?s22, ?s23, ?s24, ?s25, ?s26, ?s27, ?s28, ?s29, ?s30, ?s31, ?s32, ?s33, ?s34, ?s35, ?s36, ?s37, ?s38, ?s39, ?s40, ?s41, ?s42, ?s43, ?s44, ?s45, trivial⟩ ?fin
  case s0 =>
    intro ρ W hb hc hf hr
    obtain ⟨r5, -⟩ := hr
    have e5 : ρ (.tmp 5) = .bool true := r5
    clear r5
    refine under_none rfl ?_
    exact ⟨e5, Below.refl _ _⟩
  case s1 =>
    intro ρ W hb hc hf hr
    obtain ⟨r7, -⟩ := hr
    have e7 : ρ (.tmp 7) = .bool true := r7
    clear r7
    refine under_none rfl ?_
    exact ⟨e7, Below.refl _ _⟩
  case s2 =>
    intro ρ W hb hc hf hr
    obtain ⟨r2, r8, -⟩ := hr
    have e2 : ρ (.tmp 2) = .pointer (some ⟨gb, 0, none⟩) := r2
    clear r2
    have e8 : ρ (.tmp 8) = .bool true := r8
    clear r8
    refine ⟨8, rfl, .inl ⟨e8, ?_⟩⟩
    exact soft_load e2 (run_loadG17 (HXG.out W (hbd.trans (hb.mono (by simp))))) rfl
  case s3 =>
    intro ρ W hb hc hf hr
    obtain ⟨r9, r8, -⟩ := hr
    have e9 : ρ (.tmp 9) = .agg #[.int .i64 g.E, .int .i64 g.S, .int .i64 g.M] := r9
    clear r9
    have e8 : ρ (.tmp 8) = .bool true := r8
    clear r8
    refine ⟨8, rfl, .inl ⟨e8, ?_⟩⟩
    exact soft_call1 hf e9 (FR.out W) rfl (by kernel_rfl) below_is
  case s4 =>
    intro ρ W hb hc hf hr
    obtain ⟨r2, r8, -⟩ := hr
    have e2 : ρ (.tmp 2) = .pointer (some ⟨gb, 0, none⟩) := r2
    clear r2
    have e8 : ρ (.tmp 8) = .bool true := r8
    clear r8
    refine ⟨8, rfl, .inl ⟨e8, ?_⟩⟩
    exact soft_load e2 (run_loadG17 (HXG.out W (hbd.trans (hb.mono (by simp))))) rfl
  case s5 =>
    intro ρ W hb hc hf hr
    obtain ⟨r11, r8, -⟩ := hr
    have e11 : ρ (.tmp 11) = .agg #[.int .i64 g.E, .int .i64 g.S, .int .i64 g.M] := r11
    clear r11
    have e8 : ρ (.tmp 8) = .bool true := r8
    clear r8
    refine ⟨8, rfl, .inl ⟨e8, ?_⟩⟩
    exact soft_call1 hf e11 (GR.out W) rfl (by kernel_rfl) below_is
  case s6 =>
    intro ρ W hb hc hf hr
    obtain ⟨r10, r12, r8, -⟩ := hr
    have e10 : ρ (.tmp 10) = .bool R := r10
    clear r10
    have e12 : ρ (.tmp 12) = .bool R := r12
    clear r12
    have e8 : ρ (.tmp 8) = .bool true := r8
    clear r8
    refine ⟨8, rfl, .inl ⟨e8, ?_⟩⟩
    exact soft_bin e10 e12 rfl rfl (eqb17 W R)
  case s7 =>
    intro ρ W hb hc hf hr
    obtain ⟨r8, r13, -⟩ := hr
    have e8 : ρ (.tmp 8) = .bool true := r8
    clear r8
    have e13 : ρ (.tmp 13) = .bool true := r13
    clear r13
    refine under_none rfl ?_
    simp [execOp, e8, e13, go_sem, softUpon, Fact.is, Below.refl]
  case s8 =>
    intro ρ W hb hc hf hr
    obtain ⟨r14, -⟩ := hr
    have e14 : ρ (.tmp 14) = .bool true := r14
    clear r14
    refine under_none rfl ?_
    exact ⟨e14, Below.refl _ _⟩
  case s9 =>
    intro ρ W hb hc hf hr
    obtain ⟨r2, r15, -⟩ := hr
    have e2 : ρ (.tmp 2) = .pointer (some ⟨gb, 0, none⟩) := r2
    clear r2
    have e15 : ρ (.tmp 15) = .bool true := r15
    clear r15
    refine ⟨15, rfl, .inl ⟨e15, ?_⟩⟩
    exact soft_load e2 (run_loadG17 (HXG.out W (hbd.trans (hb.mono (by simp))))) rfl
  case s10 =>
    intro ρ W hb hc hf hr
    obtain ⟨r16, r15, -⟩ := hr
    have e16 : ρ (.tmp 16) = .agg #[.int .i64 g.E, .int .i64 g.S, .int .i64 g.M] := r16
    clear r16
    have e15 : ρ (.tmp 15) = .bool true := r15
    clear r15
    refine ⟨15, rfl, .inl ⟨e15, ?_⟩⟩
    exact soft_call1 hf e16 (FS.out W) rfl (by kernel_rfl) below_is
  case s11 =>
    intro ρ W hb hc hf hr
    obtain ⟨r2, r15, -⟩ := hr
    have e2 : ρ (.tmp 2) = .pointer (some ⟨gb, 0, none⟩) := r2
    clear r2
    have e15 : ρ (.tmp 15) = .bool true := r15
    clear r15
    refine ⟨15, rfl, .inl ⟨e15, ?_⟩⟩
    exact soft_load e2 (run_loadG17 (HXG.out W (hbd.trans (hb.mono (by simp))))) rfl
  case s12 =>
    intro ρ W hb hc hf hr
    obtain ⟨r18, r15, -⟩ := hr
    have e18 : ρ (.tmp 18) = .agg #[.int .i64 g.E, .int .i64 g.S, .int .i64 g.M] := r18
    clear r18
    have e15 : ρ (.tmp 15) = .bool true := r15
    clear r15
    refine ⟨15, rfl, .inl ⟨e15, ?_⟩⟩
    exact soft_call1 hf e18 (GS.out W) rfl (by kernel_rfl) below_is
  case s13 =>
    intro ρ W hb hc hf hr
    obtain ⟨r17, r19, r15, -⟩ := hr
    have e17 : ρ (.tmp 17) = .int .i64 z1 := r17
    clear r17
    have e19 : ρ (.tmp 19) = .int .i64 z1 := r19
    clear r19
    have e15 : ρ (.tmp 15) = .bool true := r15
    clear r15
    refine ⟨15, rfl, .inl ⟨e15, ?_⟩⟩
    exact soft_bin e17 e19 rfl rfl (eqi17 W z1)
  case s14 =>
    intro ρ W hb hc hf hr
    obtain ⟨r15, r20, -⟩ := hr
    have e15 : ρ (.tmp 15) = .bool true := r15
    clear r15
    have e20 : ρ (.tmp 20) = .bool true := r20
    clear r20
    refine under_none rfl ?_
    simp [execOp, e15, e20, go_sem, softUpon, Fact.is, Below.refl]
  case s15 =>
    intro ρ W hb hc hf hr
    obtain ⟨r21, -⟩ := hr
    have e21 : ρ (.tmp 21) = .bool true := r21
    clear r21
    refine under_none rfl ?_
    exact ⟨e21, Below.refl _ _⟩
  case s16 =>
    intro ρ W hb hc hf hr
    obtain ⟨r2, r22, -⟩ := hr
    have e2 : ρ (.tmp 2) = .pointer (some ⟨gb, 0, none⟩) := r2
    clear r2
    have e22 : ρ (.tmp 22) = .bool true := r22
    clear r22
    refine ⟨22, rfl, .inl ⟨e22, ?_⟩⟩
    exact soft_load e2 (run_loadG17 (HXG.out W (hbd.trans (hb.mono (by simp))))) rfl
  case s17 =>
    intro ρ W hb hc hf hr
    obtain ⟨r1, r22, -⟩ := hr
    have e1 : ρ (.tmp 1) = .int .i64 i := r1
    clear r1
    have e22 : ρ (.tmp 22) = .bool true := r22
    clear r22
    refine ⟨22, rfl, .inl ⟨e22, ?_⟩⟩
    exact ⟨e1, Below.refl _ _⟩
  case s18 =>
    intro ρ W hb hc hf hr
    obtain ⟨r23, r24, r22, -⟩ := hr
    have e23 : ρ (.tmp 23) = .agg #[.int .i64 g.E, .int .i64 g.S, .int .i64 g.M] := r23
    clear r23
    have e24 : ρ (.tmp 24) = .int .i64 i := r24
    clear r24
    have e22 : ρ (.tmp 22) = .bool true := r22
    clear r22
    refine ⟨22, rfl, .inl ⟨e22, ?_⟩⟩
    exact soft_call2 hf e23 e24 (FF.out W) rfl (by kernel_rfl) below_is
  case s19 =>
    intro ρ W hb hc hf hr
    obtain ⟨r2, r22, -⟩ := hr
    have e2 : ρ (.tmp 2) = .pointer (some ⟨gb, 0, none⟩) := r2
    clear r2
    have e22 : ρ (.tmp 22) = .bool true := r22
    clear r22
    refine ⟨22, rfl, .inl ⟨e22, ?_⟩⟩
    exact soft_load e2 (run_loadG17 (HXG.out W (hbd.trans (hb.mono (by simp))))) rfl
  case s20 =>
    intro ρ W hb hc hf hr
    obtain ⟨r1, r22, -⟩ := hr
    have e1 : ρ (.tmp 1) = .int .i64 i := r1
    clear r1
    have e22 : ρ (.tmp 22) = .bool true := r22
    clear r22
    refine ⟨22, rfl, .inl ⟨e22, ?_⟩⟩
    exact ⟨e1, Below.refl _ _⟩
  case s21 =>
    intro ρ W hb hc hf hr
    obtain ⟨r26, r27, r22, -⟩ := hr
    have e26 : ρ (.tmp 26) = .agg #[.int .i64 g.E, .int .i64 g.S, .int .i64 g.M] := r26
    clear r26
    have e27 : ρ (.tmp 27) = .int .i64 i := r27
    clear r27
    have e22 : ρ (.tmp 22) = .bool true := r22
    clear r22
    refine ⟨22, rfl, .inl ⟨e22, ?_⟩⟩
    exact soft_call2 hf e26 e27 (GF.out W) rfl (by kernel_rfl) below_is
  case s22 =>
    intro ρ W hb hc hf hr
    obtain ⟨r25, r28, r22, -⟩ := hr
    have e25 : ρ (.tmp 25) = .int .i64 z2 := r25
    clear r25
    have e28 : ρ (.tmp 28) = .int .i64 z2 := r28
    clear r28
    have e22 : ρ (.tmp 22) = .bool true := r22
    clear r22
    refine ⟨22, rfl, .inl ⟨e22, ?_⟩⟩
    exact soft_bin e25 e28 rfl rfl (eqi17 W z2)
  case s23 =>
    intro ρ W hb hc hf hr
    obtain ⟨r22, r29, -⟩ := hr
    have e22 : ρ (.tmp 22) = .bool true := r22
    clear r22
    have e29 : ρ (.tmp 29) = .bool true := r29
    clear r29
    refine under_none rfl ?_
    simp [execOp, e22, e29, go_sem, softUpon, Fact.is, Below.refl]
  case s24 =>
    intro ρ W hb hc hf hr
    obtain ⟨r30, -⟩ := hr
    have e30 : ρ (.tmp 30) = .bool true := r30
    clear r30
    refine under_none rfl ?_
    exact ⟨e30, Below.refl _ _⟩
  case s25 =>
    intro ρ W hb hc hf hr
    obtain ⟨r2, r31, -⟩ := hr
    have e2 : ρ (.tmp 2) = .pointer (some ⟨gb, 0, none⟩) := r2
    clear r2
    have e31 : ρ (.tmp 31) = .bool true := r31
    clear r31
    refine ⟨31, rfl, .inl ⟨e31, ?_⟩⟩
    exact soft_load e2 (run_loadG17 (HXG.out W (hbd.trans (hb.mono (by simp))))) rfl
  case s26 =>
    intro ρ W hb hc hf hr
    obtain ⟨r32, r31, -⟩ := hr
    have e32 : ρ (.tmp 32) = .agg #[.int .i64 g.E, .int .i64 g.S, .int .i64 g.M] := r32
    clear r32
    have e31 : ρ (.tmp 31) = .bool true := r31
    clear r31
    refine ⟨31, rfl, .inl ⟨e31, ?_⟩⟩
    exact soft_call1 hf e32 (FM.out W) rfl (by kernel_rfl) below_is
  case s27 =>
    intro ρ W hb hc hf hr
    obtain ⟨r2, r31, -⟩ := hr
    have e2 : ρ (.tmp 2) = .pointer (some ⟨gb, 0, none⟩) := r2
    clear r2
    have e31 : ρ (.tmp 31) = .bool true := r31
    clear r31
    refine ⟨31, rfl, .inl ⟨e31, ?_⟩⟩
    exact soft_load e2 (run_loadG17 (HXG.out W (hbd.trans (hb.mono (by simp))))) rfl
  case s28 =>
    intro ρ W hb hc hf hr
    obtain ⟨r34, r31, -⟩ := hr
    have e34 : ρ (.tmp 34) = .agg #[.int .i64 g.E, .int .i64 g.S, .int .i64 g.M] := r34
    clear r34
    have e31 : ρ (.tmp 31) = .bool true := r31
    clear r31
    refine ⟨31, rfl, .inl ⟨e31, ?_⟩⟩
    exact soft_call1 hf e34 (GM.out W) rfl (by kernel_rfl) below_is
  case s29 =>
    intro ρ W hb hc hf hr
    obtain ⟨r33, r35, r31, -⟩ := hr
    have e33 : ρ (.tmp 33) = .int .i64 z3 := r33
    clear r33
    have e35 : ρ (.tmp 35) = .int .i64 z3 := r35
    clear r35
    have e31 : ρ (.tmp 31) = .bool true := r31
    clear r31
    refine ⟨31, rfl, .inl ⟨e31, ?_⟩⟩
    exact soft_bin e33 e35 rfl rfl (eqi17 W z3)
  case s30 =>
    intro ρ W hb hc hf hr
    obtain ⟨r31, r36, -⟩ := hr
    have e31 : ρ (.tmp 31) = .bool true := r31
    clear r31
    have e36 : ρ (.tmp 36) = .bool true := r36
    clear r36
    refine under_none rfl ?_
    simp [execOp, e31, e36, go_sem, softUpon, Fact.is, Below.refl]
  case s31 =>
    intro ρ W hb hc hf hr
    obtain ⟨r37, -⟩ := hr
    have e37 : ρ (.tmp 37) = .bool true := r37
    clear r37
    refine under_none rfl ?_
    exact ⟨e37, Below.refl _ _⟩
  case s32 =>
    intro ρ W hb hc hf hr
    obtain ⟨r2, r38, -⟩ := hr
    have e2 : ρ (.tmp 2) = .pointer (some ⟨gb, 0, none⟩) := r2
    clear r2
    have e38 : ρ (.tmp 38) = .bool true := r38
    clear r38
    refine ⟨38, rfl, .inl ⟨e38, ?_⟩⟩
    exact soft_load e2 (run_loadG17 (HXG.out W (hbd.trans (hb.mono (by simp))))) rfl
  case s33 =>
    intro ρ W hb hc hf hr
    obtain ⟨r39, r38, -⟩ := hr
    have e39 : ρ (.tmp 39) = .agg #[.int .i64 g.E, .int .i64 g.S, .int .i64 g.M] := r39
    clear r39
    have e38 : ρ (.tmp 38) = .bool true := r38
    clear r38
    refine ⟨38, rfl, .inl ⟨e38, ?_⟩⟩
    exact soft_call1 hf e39 (FB.out W) rfl (by kernel_rfl) below_is
  case s34 =>
    intro ρ W hb hc hf hr
    obtain ⟨r2, r38, -⟩ := hr
    have e2 : ρ (.tmp 2) = .pointer (some ⟨gb, 0, none⟩) := r2
    clear r2
    have e38 : ρ (.tmp 38) = .bool true := r38
    clear r38
    refine ⟨38, rfl, .inl ⟨e38, ?_⟩⟩
    exact soft_load e2 (run_loadG17 (HXG.out W (hbd.trans (hb.mono (by simp))))) rfl
  case s35 =>
    intro ρ W hb hc hf hr
    obtain ⟨r41, r38, -⟩ := hr
    have e41 : ρ (.tmp 41) = .agg #[.int .i64 g.E, .int .i64 g.S, .int .i64 g.M] := r41
    clear r41
    have e38 : ρ (.tmp 38) = .bool true := r38
    clear r38
    refine ⟨38, rfl, .inl ⟨e38, ?_⟩⟩
    exact soft_call1 hf e41 (GB.out W) rfl (by kernel_rfl) below_is
  case s36 =>
    intro ρ W hb hc hf hr
    obtain ⟨r40, r42, r38, -⟩ := hr
    have e40 : ρ (.tmp 40) = .int .i64 z4 := r40
    clear r40
    have e42 : ρ (.tmp 42) = .int .i64 z4 := r42
    clear r42
    have e38 : ρ (.tmp 38) = .bool true := r38
    clear r38
    refine ⟨38, rfl, .inl ⟨e38, ?_⟩⟩
    exact soft_bin e40 e42 rfl rfl (eqi17 W z4)
  case s37 =>
    intro ρ W hb hc hf hr
    obtain ⟨r38, r43, -⟩ := hr
    have e38 : ρ (.tmp 38) = .bool true := r38
    clear r38
    have e43 : ρ (.tmp 43) = .bool true := r43
    clear r43
    refine under_none rfl ?_
    simp [execOp, e38, e43, go_sem, softUpon, Fact.is, Below.refl]
  case s38 =>
    intro ρ W hb hc hf hr
    obtain ⟨r44, -⟩ := hr
    have e44 : ρ (.tmp 44) = .bool true := r44
    clear r44
    refine under_none rfl ?_
    exact ⟨e44, Below.refl _ _⟩
  case s39 =>
    intro ρ W hb hc hf hr
    obtain ⟨r2, r45, -⟩ := hr
    have e2 : ρ (.tmp 2) = .pointer (some ⟨gb, 0, none⟩) := r2
    clear r2
    have e45 : ρ (.tmp 45) = .bool true := r45
    clear r45
    refine ⟨45, rfl, .inl ⟨e45, ?_⟩⟩
    exact soft_load e2 (run_loadG17 (HXG.out W (hbd.trans (hb.mono (by simp))))) rfl
  case s40 =>
    intro ρ W hb hc hf hr
    obtain ⟨r46, r45, -⟩ := hr
    have e46 : ρ (.tmp 46) = .agg #[.int .i64 g.E, .int .i64 g.S, .int .i64 g.M] := r46
    clear r46
    have e45 : ρ (.tmp 45) = .bool true := r45
    clear r45
    refine ⟨45, rfl, .inl ⟨e45, ?_⟩⟩
    exact soft_call1 hf e46 (FK.out W) rfl (by kernel_rfl) gives17_tab
  case s41 =>
    intro ρ W hb hc hf hr
    obtain ⟨r2, r45, -⟩ := hr
    have e2 : ρ (.tmp 2) = .pointer (some ⟨gb, 0, none⟩) := r2
    clear r2
    have e45 : ρ (.tmp 45) = .bool true := r45
    clear r45
    refine ⟨45, rfl, .inl ⟨e45, ?_⟩⟩
    exact soft_load e2 (run_loadG17 (HXG.out W (hbd.trans (hb.mono (by simp))))) rfl
  case s42 =>
    intro ρ W hb hc hf hr
    obtain ⟨r48, r45, -⟩ := hr
    have e48 : ρ (.tmp 48) = .agg #[.int .i64 g.E, .int .i64 g.S, .int .i64 g.M] := r48
    clear r48
    have e45 : ρ (.tmp 45) = .bool true := r45
    clear r45
    refine ⟨45, rfl, .inl ⟨e45, ?_⟩⟩
    exact soft_call1 hf e48 (GK.out W) rfl (by kernel_rfl) gives17_tab
  case s43 =>
    intro ρ W hb hc hf hr
    obtain ⟨r47, r49, r45, -⟩ := hr
    have e45 : ρ (.tmp 45) = .bool true := r45
    clear r45
    refine ⟨45, rfl, .inl ⟨e45, ?_⟩⟩
    exact soft_same17 hf r47 r49 ht8 rfl
  case s44 =>
    intro ρ W hb hc hf hr
    obtain ⟨r45, r50, -⟩ := hr
    have e45 : ρ (.tmp 45) = .bool true := r45
    clear r45
    have e50 : ρ (.tmp 50) = .bool true := r50
    clear r50
    refine under_none rfl ?_
    simp [execOp, e45, e50, go_sem, softUpon, Fact.is, Below.refl]
  case s45 =>
    intro ρ W hb hc hf hr
    obtain ⟨r51, -⟩ := hr
    have e51 : ρ (.tmp 51) = .bool true := r51
    clear r51
    refine under_none rfl ?_
    exact ⟨e51, Below.refl _ _⟩
  case fin =>
    intro a w1 hb hd hsz hk
    have ea := act_puts hd hsz rfl hk
    have k7 : a.tmps.getD 7 undef = .bool true := hk 7
    have k8 : a.tmps.getD 8 undef = .bool true := hk 8
    have k9 : a.tmps.getD 9 undef = .agg #[.int .i64 g.E, .int .i64 g.S, .int .i64 g.M] := hk 9
    have k10 : a.tmps.getD 10 undef = .bool R := hk 10
    have k11 : a.tmps.getD 11 undef = .agg #[.int .i64 g.E, .int .i64 g.S, .int .i64 g.M] := hk 11
    have k12 : a.tmps.getD 12 undef = .bool R := hk 12
    have k13 : a.tmps.getD 13 undef = .bool true := hk 13
    have k14 : a.tmps.getD 14 undef = .bool true := hk 14
    have k15 : a.tmps.getD 15 undef = .bool true := hk 15
    have k16 : a.tmps.getD 16 undef = .agg #[.int .i64 g.E, .int .i64 g.S, .int .i64 g.M] := hk 16
    have k17 : a.tmps.getD 17 undef = .int .i64 z1 := hk 17
    have k18 : a.tmps.getD 18 undef = .agg #[.int .i64 g.E, .int .i64 g.S, .int .i64 g.M] := hk 18
    have k19 : a.tmps.getD 19 undef = .int .i64 z1 := hk 19
    have k20 : a.tmps.getD 20 undef = .bool true := hk 20
    have k21 : a.tmps.getD 21 undef = .bool true := hk 21
    have k22 : a.tmps.getD 22 undef = .bool true := hk 22
    have k23 : a.tmps.getD 23 undef = .agg #[.int .i64 g.E, .int .i64 g.S, .int .i64 g.M] := hk 23
    have k24 : a.tmps.getD 24 undef = .int .i64 i := hk 24
    have k25 : a.tmps.getD 25 undef = .int .i64 z2 := hk 25
    have k26 : a.tmps.getD 26 undef = .agg #[.int .i64 g.E, .int .i64 g.S, .int .i64 g.M] := hk 26
    have k27 : a.tmps.getD 27 undef = .int .i64 i := hk 27
    have k28 : a.tmps.getD 28 undef = .int .i64 z2 := hk 28
    have k29 : a.tmps.getD 29 undef = .bool true := hk 29
    have k30 : a.tmps.getD 30 undef = .bool true := hk 30
    have k31 : a.tmps.getD 31 undef = .bool true := hk 31
    have k32 : a.tmps.getD 32 undef = .agg #[.int .i64 g.E, .int .i64 g.S, .int .i64 g.M] := hk 32
    have k33 : a.tmps.getD 33 undef = .int .i64 z3 := hk 33
    have k34 : a.tmps.getD 34 undef = .agg #[.int .i64 g.E, .int .i64 g.S, .int .i64 g.M] := hk 34
    have k35 : a.tmps.getD 35 undef = .int .i64 z3 := hk 35
    have k36 : a.tmps.getD 36 undef = .bool true := hk 36
    have k37 : a.tmps.getD 37 undef = .bool true := hk 37
    have k38 : a.tmps.getD 38 undef = .bool true := hk 38
    have k39 : a.tmps.getD 39 undef = .agg #[.int .i64 g.E, .int .i64 g.S, .int .i64 g.M] := hk 39
    have k40 : a.tmps.getD 40 undef = .int .i64 z4 := hk 40
    have k41 : a.tmps.getD 41 undef = .agg #[.int .i64 g.E, .int .i64 g.S, .int .i64 g.M] := hk 41
    have k42 : a.tmps.getD 42 undef = .int .i64 z4 := hk 42
    have k43 : a.tmps.getD 43 undef = .bool true := hk 43
    have k44 : a.tmps.getD 44 undef = .bool true := hk 44
    have k45 : a.tmps.getD 45 undef = .bool true := hk 45
    have k46 : a.tmps.getD 46 undef = .agg #[.int .i64 g.E, .int .i64 g.S, .int .i64 g.M] := hk 46
    have k47 : (Fact.tab17 t).φ (a.tmps.getD 47 undef) w1 := hk 47
    have k48 : a.tmps.getD 48 undef = .agg #[.int .i64 g.E, .int .i64 g.S, .int .i64 g.M] := hk 48
    have k49 : (Fact.tab17 t).φ (a.tmps.getD 49 undef) w1 := hk 49
    have k50 : a.tmps.getD 50 undef = .bool true := hk 50
    have k51 : a.tmps.getD 51 undef = .bool true := hk 51
    have k4 : a.tmps.getD 4 undef = .bool true := hk 4
    clear hk hd hsz
    simp only [List.map_cons, List.map_nil, List.foldl_cons, List.foldl_nil, k7, k8, k9, k10, k11, k12, k13, k14, k15, k16, k17, k18, k19, k20, k21, k22, k23, k24, k25, k26, k27, k28, k29, k30, k31, k32, k33, k34, k35, k36, k37, k38, k39, k40, k41, k42, k43, k44, k45, k46, k48, k50, k51, k4] at ea
    clear k7 k8 k9 k10 k11 k12 k13 k14 k15 k16 k17 k18 k19 k20 k21 k22 k23 k24 k25 k26 k27 k28 k29 k30 k31 k32 k33 k34 k35 k36 k37 k38 k39 k40 k41 k42 k43 k44 k45 k46 k48 k50 k51 k4
    generalize a.tmps.getD 47 undef = v47 at ea k47
    generalize a.tmps.getD 49 undef = v49 at ea k49
    simp only [Act.put, List.setIfInBounds_toArray, List.set_cons_succ, List.set_cons_zero] at ea
    subst ea
    have HB2 := Lib.hid (HB1.out.trans ((hbd.trans (hb.mono (by simp))).mono HB1.out.size))
    clear hb hbd
    go_wp2
    go_ret
    exact ⟨rfl, HB2.out⟩

open Go.ChangeShapes Go.WideShapes Go.ChangeAt

theorem walk (w : World) (g : Ge.G) (i : Int) (_ : -9223372036854775808 ≤ i ∧ i ≤ 9223372036854775807) :
    Calls Try.prog 3 #[.agg #[.int .i64 g.E, .int .i64 g.S, .int .i64 g.M], .int .i64 i] w fun e w' => e = .returned (.bool true) ∧ Below w.heap.size w w' :=
  walkN geomOk w g i

set_option maxRecDepth 100000 in
theorem lifted (os : Os) (started : os.Started) (H : Type) (enc : TypeId × Value → H) :
    ReturnsInHanded {} Try.checked os 3 .any (Rows.geomTellsSpec.pre6 enc Try.prog Try.f3 Rows.geomTellsRow.domain false) (Rows.geomTellsSpec.post enc Try.prog Try.f3 false true false false) := by
  refine returnsInHanded_of_change (C := Try.checked) own started (by kernel_rfl) Try.func3
    (ChangeSpec.witness6 (enc := enc) (C := Try.checked) false ⟨#[], #[.agg #[.int .i64 0, .int .i64 0, .int .i64 0], .int .i64 0], []⟩ 8 (by kernel_rfl) (by kernel_rfl) (by kernel_rfl) (by kernel_rfl)) ?_
  intro W base args ds gs before hval0 hW hcnd _
  have hval : ∀ (j : Nat) t v, Try.f3.params[j]? = some t → args[j]? = some v → Value.okWide Try.prog W .any base t v := hval0
  have hfin := fun W' => law_post (enc := enc) (P := Try.prog) (f := Try.f3) (s := Rows.geomTellsSpec) (tb := 4) (W := W) (W' := W') (args := args) (ds := ds) (gs := gs) (before := before) laidOut rfl (by kernel_rfl) Try.underlying4 (by kernel_rfl) (fun xs h => by rw [Try.params3] at h; match xs, h with | [_, _], _ => rfl) hW
  obtain ⟨p, q, hA0, hV, rfl, hfz, hnd⟩ := hW
  have hA : DataW.TrodAll enc Try.prog W 0 (fun _ => true) true Try.f3.params.toList args.toList ds p := hA0
  rw [Try.params3] at hA hval
  obtain ⟨v0, vs0, d0, ds0, p0, q0, hargs, rfl, rfl, h0, r0⟩ := trodAll_cons hA
  obtain ⟨v1, vs1, d1, ds1, p1, q1, rfl, rfl, rfl, h1, r1⟩ := trodAll_cons r0
  obtain ⟨rfl, rfl, rfl⟩ := trodAll_nil r1
  obtain rfl : args = #[v0, v1] := by cases args; simp_all
  obtain ⟨g0, rfl⟩ := open_geo (hval 0 23 v0 rfl rfl) h0
  obtain ⟨a1, rfl, rfl, rfl, w1⟩ := open_int Try.underlying3 (hval 1 3 v1 rfl rfl) h1
  refine (walk W g0 a1 (bounds_i64 w1)).mono fun e W' ⟨he, hg⟩ => ?_
  subst he
  exact ⟨_, rfl, hfin W' hg⟩

theorem proved : Rows.GeomTellsSaid :=
  OpenClaim.holds_of_wide 3 Try.f3 rfl rfl rfl rfl rfl rfl rfl ⟨rfl, rfl, rfl, rfl, rfl⟩ rfl rfl rfl rfl rfl (by kernel_rfl) Try.func3 (by kernel_rfl)
    (of_decide_eq_true (by kernel_rfl)) (by unfold Func.isWrapper; first | (rw [if_pos (by decide +kernel)]; kernel_rfl) | (rw [if_neg (by decide +kernel)]; exact ⟨rfl, rfl⟩))
    (fun os started H enc _ => lifted os started H enc)
#print axioms proved
end Go.Proofs.Ytgicjdlpkphfnaa.geomTells
