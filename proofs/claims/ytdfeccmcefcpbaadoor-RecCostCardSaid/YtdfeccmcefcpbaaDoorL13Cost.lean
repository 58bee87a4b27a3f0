/-
  P13.3, RecCost: for all records the law returns true: a seal's frame is not longer than what its spans cost, and at most 12 bytes shorter; another record's frame has at most 12 bytes. No condition; what the row lists is tied to the program's text.
-/
import Derived.Test.YtdfeccmcefcpbaaDoorL13T
namespace Go.Proofs.YtdfeccmcefcpbaaDoor.recCost
open Go.ChangeShapes Go.WideShapes Go.ChangeAt Go.RowKit
set_option maxRecDepth 100000

set_option maxHeartbeats 8000000 in
theorem walkN (w : World) (hH : Handle w) (q : Rc.R) (A : Option Addr) (n cap : Nat) (hn : q.sp.length = n) (hl : n ≤ cap) (hm : cap ≤ maxLen) (hB : Lies w A (flat q.sp)) (hS : Fine q.sp) :
    Calls Tryd.prog 5 #[recV q A n cap] w fun e w' => e = .returned (.bool true) ∧ Below w.heap.size w w' := by
  obtain ⟨P, hP⟩ : ∃ P, Rc.rput q = P := ⟨_, rfl⟩
  obtain ⟨m, hPm⟩ : ∃ m, P.length = m := ⟨_, rfl⟩
  have hmx := Rc.rput_max q
  have HPOS := Lib.hid (Rc.rput_pos q)
  obtain ⟨F, hF⟩ : ∃ F, (Fra.put (Rc.rput q)).length = F := ⟨_, rfl⟩
  obtain ⟨CN, hCN⟩ : ∃ CN, Rc.cost q.sp = CN := ⟨_, rfl⟩
  have hcn : CN ≤ 100000 := by
    rw [← hCN]
    have := Plain.tput_len q.sp
    unfold Rc.cost
    split <;> omega
  have HSEAL := Lib.hid (fun (h : Rc.right q = true) (hk : q.kind = 1) => Rc.cost_seal h hk)
  have HOTH := Lib.hid (fun (h : Rc.right q = true) (hk : q.kind ≠ 1) => Rc.cost_other h hk)
  rw [hF, hCN] at HSEAL
  rw [hF] at HOTH
  have HPU := Lib.hid (fun (W : World) (h : Below w.heap.size w W) => put13_any q A n cap W P m hP hPm hn (by omega) (hB.below h) hS)
  have HCO := Lib.hid (fun (W : World) (h : Below w.heap.size w W) => dcost13_any A n cap q.sp W hn (by omega) (hB.below h) hS)
  rw [hCN] at HCO
  rw [hP, hPm] at hmx HPOS
  rw [hP] at HSEAL hF
  obtain ⟨RR, hRR⟩ : ∃ RR, Rc.right q = RR := ⟨_, rfl⟩
  rw [hRR] at HPOS HSEAL HOTH
  have HG := Lib.hid (fun (W : World) (h : Below w.heap.size w W) => great_any A n cap q.sp W hn hl hm (hB.below h))
  obtain ⟨kind, id, cls, tick, pin, sp⟩ := q
  unfold recV recCs at *
  simp only at hn hB hS HPU HG HCO HSEAL HOTH
  have hbx := Blk.new w #[.int .i64 kind, .int .i64 id, .int .i64 cls, .int .i64 tick, .bool pin, .slice A n cap] 24
  have hB0 : Below w.heap.size w (w.alloc (.cells #[.int .i64 kind, .int .i64 id, .int .i64 cls, .int .i64 tick, .bool pin, .slice A n cap] 24)) := (Below.refl _ _).alloc (Nat.le_refl _) _
  have HBX := Lib.hid hbx
  have HB0 := Lib.hid hB0
  have HH0 := Lib.hid (up13_any _ (handle13_below hH hB0))
  have HPM := Lib.hid hPm
  have HF := Lib.hid hF
  clear hbx hB0 hRR hP hPm hB hS hn hH hl hm hF hCN
  go_enter Tryd.func5, Tryd.ntmps5
  go_wp2_with fail
  refine HH0.out.mono ?_
  rintro e w1 ⟨rfl, hb1⟩
  have HB1 := Lib.hid (HB0.out.trans (hb1.mono HB0.out.size))
  have HX1 := Lib.hid (show Blk w1 w.heap.size _ _ from (hb1.block _ HBX.out.lt).trans HBX.out)
  obtain ⟨x0, x1, x2, x3, x4, x5⟩ := six13 HX1.out
  clear hb1
  go_wp2_with fail
  refine (HPU.out w1 HB1.out).mono ?_
  rintro e w2 ⟨A4, cap4, rfl, hl4, hm4, hL4, hb2⟩
  have HB2 := Lib.hid (HB1.out.trans (hb2.mono HB1.out.size))
  have HX2 := Lib.hid (show Blk w2 w.heap.size _ _ from (hb2.block _ HX1.out.lt).trans HX1.out)
  have HL2 := Lib.hid hL4
  clear hb2 hL4 x0 x1 x2 x3 x4 x5
  obtain ⟨x0, x1, x2, x3, x4, x5⟩ := six13 HX2.out
  go_wp2_with fail
  refine (HG.out w2 HB2.out).mono ?_
  rintro e w3 ⟨g, rfl, -, hb3⟩
  have HB3 := Lib.hid (HB2.out.trans (hb3.mono HB2.out.size))
  have HX3 := Lib.hid (show Blk w3 w.heap.size _ _ from (hb3.block _ HX2.out.lt).trans HX2.out)
  have HL3 := Lib.hid (HL2.out.below hb3)
  clear hb3 x0 x1 x2 x3 x4 x5
  rcases g with _ | _
  rotate_left
  · go_wp2
    go_ret
    exact ⟨rfl, HB3.out⟩
  by_cases ht0 : m = 0
  · subst ht0
    go_wp2
    go_ret
    exact ⟨rfl, HB3.out⟩
  have hTs := HPOS.out.1 (by omega)
  have hne : ((m : Int) == 0) = false := beq_eq_false_iff_ne.2 (by omega)
  have HFP := Lib.hid (fput_any A4 m cap4 P w3 HPM.out HL3.out)
  by_cases hk1 : kind = 1
  · obtain ⟨-, -, g1, g2, g3⟩ := HSEAL.out hTs hk1
    have d1 : (kind == 1) = true := by rw [beq_iff_eq]; exact hk1
    clear hk1 hTs HSEAL HOTH
    go_wp2_with fail
    refine HFP.out.mono ?_
    rintro e w4 ⟨v4, rfl, ho4, hb4⟩
    rw [HF.out] at ho4
    obtain ⟨A7, c7, rfl, -, -, -, -⟩ := own_form ho4
    have HB4 := Lib.hid (HB3.out.trans (hb4.mono HB3.out.size))
    have HX4 := Lib.hid (show Blk w4 w.heap.size _ _ from (hb4.block _ HX3.out.lt).trans HX3.out)
    clear hb4 ho4
    obtain ⟨x0, x1, x2, x3, x4, x5⟩ := six13 HX4.out
    go_wp2_with fail
    refine (HCO.out w4 HB4.out).mono ?_
    rintro e w5 ⟨rfl, hb5⟩
    have HB5 := Lib.hid (HB4.out.trans (hb5.mono HB4.out.size))
    have HX5 := Lib.hid (show Blk w5 w.heap.size _ _ from (hb5.block _ HX4.out.lt).trans HX4.out)
    clear hb5 x0 x1 x2 x3 x4 x5
    obtain ⟨x0, x1, x2, x3, x4, x5⟩ := six13 HX5.out
    go_wp2_with fail
    refine (HCO.out w5 HB5.out).mono ?_
    rintro e w6 ⟨rfl, hb6⟩
    have HB6 := Lib.hid (HB5.out.trans (hb6.mono HB5.out.size))
    clear hb6 x0 x1 x2 x3 x4 x5
    go_wp2
    go_ret
    exact ⟨ret13 (by rw [decide_eq_true_eq]; omega), HB6.out⟩
  · obtain ⟨g1, g2⟩ := HOTH.out hTs hk1
    have d1 : (kind == 1) = false := by rw [beq_eq_false_iff_ne]; exact hk1
    clear hk1 hTs HSEAL HOTH
    go_wp2_with fail
    refine HFP.out.mono ?_
    rintro e w4 ⟨v4, rfl, ho4, hb4⟩
    rw [HF.out] at ho4
    obtain ⟨A7, c7, rfl, -, -, -, -⟩ := own_form ho4
    have HB4 := Lib.hid (HB3.out.trans (hb4.mono HB3.out.size))
    have HX4 := Lib.hid (show Blk w4 w.heap.size _ _ from (hb4.block _ HX3.out.lt).trans HX3.out)
    clear hb4 ho4
    obtain ⟨x0, x1, x2, x3, x4, x5⟩ := six13 HX4.out
    go_wp2
    go_ret
    exact ⟨ret13 (by rw [decide_eq_true_eq]; omega), HB4.out⟩

theorem walk (w : World) (hH : Handle w) (q : Rc.R) (A : Option Addr) (cap : Nat) (hl : q.sp.length ≤ cap) (hm : cap ≤ maxLen) (hB : Lies w A (flat q.sp)) (hS : Fine q.sp) :
    Calls Tryd.prog 5 #[recV q A q.sp.length cap] w fun e w' => e = .returned (.bool true) ∧ Below w.heap.size w w' :=
  walkN w hH q A q.sp.length cap rfl hl hm hB hS


set_option maxRecDepth 100000 in
theorem lifted (os : Os) (started : os.Started) (H : Type) (enc : TypeId × Value → H) :
    ReturnsInHanded {} Tryd.checked os 5 .any (fun w args => (Rows.recCostSpec.pre enc Tryd.prog Tryd.f5 [] false w args ∧ laidMetH Tryd.prog laidHere w) ∧ sizedMet enc Tryd.prog Tryd.f5 (OpenSpec.ofChange Rows.recCostSpec) false w args) (Rows.recCostSpec.post enc Tryd.prog Tryd.f5 false true false false) := by
  refine returnsInHanded_of_change_and (C := Tryd.checked) (X := fun w _ => laidMetH Tryd.prog laidHere w) (fun _ _ _ hh h => h.of_heap hh) own started (by kernel_rfl) Tryd.func5
    (ChangeSpec.witness_at (enc := enc) (C := Tryd.checked) (os := os) (X := fun w _ => laidMetH Tryd.prog laidHere w) false (laidWorld os) #[.agg #[.int .i64 0, .int .i64 0, .int .i64 0, .int .i64 0, .bool false, .slice none 0 0]] 8 rfl (by kernel_rfl) (by kernel_rfl) (by kernel_rfl) (by kernel_rfl) (by kernel_rfl) (laidWorld_met os _)) ?_
  intro W base args ds gs before hval0 hW _ _ hL _
  have hval : ∀ (j : Nat) t v, Tryd.f5.params[j]? = some t → args[j]? = some v → Value.okWide Tryd.prog W .any base t v := hval0
  have hfin := fun W' => law_post (enc := enc) (P := Tryd.prog) (f := Tryd.f5) (s := Rows.recCostSpec) (tb := 4) (W := W) (W' := W') (args := args) (ds := ds) (gs := gs) (before := before) laidOut rfl (by kernel_rfl) Tryd.underlying4 (by kernel_rfl) (fun xs h => by rw [Tryd.params5] at h; match xs, h with | [_], _ => rfl) hW
  have hlt : ∀ x ∈ before, x.block < W.heap.size := fun x hx => hW.lt x hx
  obtain ⟨p, q, hA0, hV, rfl, hfz, hnd⟩ := hW
  have hA : DataW.TrodAll enc Tryd.prog W 0 (fun _ => true) true Tryd.f5.params.toList args.toList ds p := hA0
  rw [Tryd.params5] at hA hval
  obtain ⟨v0, vs0, d0, ds0, p0, q0, hargs, rfl, rfl, h0, r0⟩ := trodAll_cons hA
  obtain ⟨rfl, rfl, rfl⟩ := trodAll_nil r0
  obtain rfl : args = #[v0] := by cases args; simp_all
  obtain ⟨q0, A0, cap0, rfl, hl0, hm0, hB0, hS0⟩ := open_rec (hval 0 24 v0 rfl rfl) h0 (fun x hx => hlt x (by simp [hx]))
  refine (walk W (of_laid hL) q0 A0 cap0 hl0 hm0 hB0 hS0).mono fun e W' ⟨he, hg⟩ => ?_
  subst he
  exact ⟨_, rfl, hfin W' hg⟩

theorem proved : Rows.RecCostSaid :=
  OpenClaim.holds_of_wide 5 Tryd.f5 rfl rfl rfl rfl rfl rfl rfl ⟨rfl, rfl, rfl, rfl, rfl⟩ rfl rfl rfl rfl rfl (by kernel_rfl) Tryd.func5 (by kernel_rfl)
    (of_decide_eq_true (by kernel_rfl)) (by unfold Func.isWrapper; first | (rw [if_pos (by decide +kernel)]; kernel_rfl) | (rw [if_neg (by decide +kernel)]; exact ⟨rfl, rfl⟩))
    (fun os started H enc _ => lifted os started H enc)

set_option maxRecDepth 100000 in
theorem card : Rows.RecCostCardSaid :=
  Claim7.holds_tied_plain_at .later [] laidKindsHere true _ true
    proved (fun _ h => by cases h) (by kernel_rfl) (fun _ h => by cases h) recCost_row_tie rfl ⟨rfl, rfl⟩ (by kernel_rfl) rfl
    (fun f fn hf hfn => by
      obtain rfl : f = 5 := Option.some.inj ((show Tryd.prog.funcNamed "turntable/turntablelaw13.RecCost" = some 5 by kernel_rfl).symm.trans hf) |>.symm
      obtain rfl : fn = Tryd.f5 := (Option.some.inj (Tryd.func5.symm.trans hfn)).symm
      exact ⟨by kernel_rfl, fun j t ht => by
        rw [Tryd.params5] at ht
        have hm : t ∈ [24] := Array.mem_def.1 (Array.mem_of_getElem? ht)
        have hall : ([24].all fun u => !Tryd.prog.wantsStandIn u) = true := by kernel_rfl
        exact (show Tryd.prog.wantsStandIn t = false by simpa using List.all_eq_true.1 hall t hm)⟩)
    (by kernel_rfl)
#print axioms card
end Go.Proofs.YtdfeccmcefcpbaaDoor.recCost
