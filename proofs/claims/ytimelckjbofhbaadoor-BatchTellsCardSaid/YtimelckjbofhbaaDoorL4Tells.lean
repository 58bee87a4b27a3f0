/-
  P4.1, BatchTells: for all spans and all bytes the law returns true: any spans' bytes, and the spans of any bytes, or what is wrong, and where, are the document's. No condition; what the row lists is tied to the program's text.
-/
import Derived.Test.YtimelckjbofhbaaDoorBatHd
namespace Go.Proofs.YtimelckjbofhbaaDoor.batchTells
open Go.ChangeShapes Go.WideShapes Go.ChangeAt Go.RowKit
set_option maxRecDepth 100000

set_option maxHeartbeats 4000000 in
theorem walk (w : World) (hT : Handle w ∧ Tab w) (A : Option Addr) (cap : Nat) (l : List Plain.Sp) (hl : l.length ≤ cap) (hm : cap ≤ maxLen) (hA : Lies w A (flat l)) (hS : ∀ x ∈ l, x.sv.length ≤ maxLen ∧ x.nm.length ≤ maxLen) (B : Option Addr) (capb : Nat) (b : List UInt8) (hlb : b.length ≤ capb) (hmb : capb ≤ maxLen) (hB : Lies w B (cells b)) :
    Calls Tryd.prog 3 #[.slice A l.length cap, .slice B b.length capb] w fun e w' => e = .returned (.bool true) ∧ Below w.heap.size w w' := by
  have HA := Lib.hid hA
  have HB := Lib.hid hB
  have HT := Lib.hid hT
  have HS := Lib.hid (show Fine l from hS)
  obtain ⟨n, hn⟩ : ∃ n, l.length = n := ⟨_, rfl⟩
  rw [hn] at hl ⊢
  have HN := Lib.hid hn
  have HM := Lib.hid hm
  obtain ⟨nb, hnb⟩ : ∃ nb, b.length = nb := ⟨_, rfl⟩
  rw [hnb] at hlb ⊢
  have HNB := Lib.hid hnb
  have HMB := Lib.hid hmb
  unfold maxLen at hm hmb
  clear hA hT hS hn hB hnb
  go_enter Tryd.func3, Tryd.ntmps3
  go_wp2_with fail
  refine (head_any w HT.out).mono ?_
  rintro e w1 ⟨rfl, c1⟩
  go_wp2_with fail
  refine (great_any A n cap l w1 HN.out hl HM.out (HA.out.below c1)).mono ?_
  rintro e w2 ⟨g, rfl, hg, d2⟩
  have c2 := c1.trans (d2.mono c1.size)
  rcases g with _ | _
  rotate_left
  · go_wp2
    go_ret
    exact ⟨rfl, c2⟩
  have h300 := hg rfl
  clear hg
  by_cases h20 : 20000 < nb
  · go_wp2
    go_ret
    exact ⟨rfl, c2⟩
  have HG := Lib.hid (batchGet_any B nb capb b w2 (HT.out.1.below HT.out.1.lt c2) (HT.out.2.below c2 (Nat.le_refl _)) HNB.out hlb HMB.out (by omega) (HB.out.below c2))
  have HRG := Lib.hid (fun (u : World) (hu : Below w.heap.size w u) => rbatchGet_any B nb capb b u HNB.out hlb HMB.out (by omega) (HB.out.below hu))
  generalize Plain.bget b = r at *
  obtain ⟨y, P, C⟩ := r
  go_wp2_with fail
  refine HG.out.mono ?_
  rintro e w3 ⟨v3, rfl, A3, cap3, rfl, hl3, hm3, hL3, d3⟩
  have c3 := c2.trans (d3.mono c2.size)
  have HL3 := Lib.hid hL3
  clear hL3
  simp only at hl3 HL3
  go_wp2_with fail
  refine (HRG.out w3 c3).mono ?_
  rintro e w4 ⟨v4, rfl, A4, cap4, rfl, hl4, hm4, hL4, d4⟩
  have c4 := c3.trans (d4.mono c3.size)
  have HL4 := Lib.hid hL4
  clear hL4
  simp only at hl4 HL4
  obtain ⟨m, hm0⟩ : ∃ m, y.length = m := ⟨_, rfl⟩
  have HSM := Lib.hid (fun (W : World) (h : Below w4.heap.size w4 W) => same_yes A3 A4 m cap3 cap4 y W hm0 (by omega) (by omega) hm3 hm4 ((HL3.out.below d4).below h) (HL4.out.below h))
  rw [hm0]
  clear hm0 hl3 hl4 HG HRG
  obtain ⟨T, hTT⟩ : ∃ T, Plain.bput l = T := ⟨_, rfl⟩
  have HP := Lib.hid (fun (W : World) (h : Below w4.heap.size w4 W) => batchPut_any A n cap l W (HT.out.2.below (c4.trans (h.mono c4.size)) (Nat.le_refl _)) HN.out (Nat.le_trans hl HM.out) (HA.out.below (c4.trans (h.mono c4.size))) HS.out)
  have HRP := Lib.hid (fun (W : World) (h : Below w4.heap.size w4 W) => rbatchPut_any A n cap l W HN.out (Nat.le_trans hl HM.out) (HA.out.below (c4.trans (h.mono c4.size))) HS.out)
  rw [hTT] at HP HRP
  clear hTT
  have EQT := Lib.hid (fun (W : World) => eq_same W T)
  have hbd : Below w4.heap.size w4 w4.drew := (Below.refl _ _).drew
  go_wp2
  refine wp_soft (by kernel_rfl) 58 [(33, [5]), (34, [33]), (35, [0, 34]), (36, [35, 34]), (37, [36, 34]), (38, [0, 34]), (39, [38, 34]), (40, [39, 34]), (41, [37, 40, 34]), (42, [34, 41]), (43, [42]), (44, [6, 43]), (45, [9, 43]), (46, [44, 45, 43]), (47, [43, 46]), (48, [47]), (49, [7, 48]), (50, [10, 48]), (51, [49, 50, 48]), (52, [48, 51]), (53, [52]), (54, [8, 53]), (55, [11, 53]), (56, [54, 55, 53]), (57, [53, 56]), (4, [57])]
    [Fact.is (.bool true), Fact.is (.bool true), Fact.is (.slice A n cap), Fact.own T, Fact.is (.string (str T)), Fact.is (.slice A n cap), Fact.own T, Fact.is (.string (str T)), Fact.is (.bool true), Fact.is (.bool true), Fact.is (.bool true), Fact.is (.slice A3 m cap3), Fact.is (.slice A4 m cap4), Fact.is (.bool true), Fact.is (.bool true), Fact.is (.bool true), Fact.is (.int .i64 P), Fact.is (.int .i64 P), Fact.is (.bool true), Fact.is (.bool true), Fact.is (.bool true), Fact.is (.int .i64 C), Fact.is (.int .i64 C), Fact.is (.bool true), Fact.is (.bool true), Fact.is (.bool true)]
    (by kernel_rfl) rfl rfl ⟨?s0, ?s1, ?s2, ?s3, ?s4, ?s5, ?s6, ?s7, ?s8, ?s9, ?s10, ?s11, ?s12, ?s13, ?s14, ?s15, ?s16, ?s17, ?s18, ?s19, ?s20, ?s21, ?s22, ?s23, ?s24, ?s25, trivial⟩ ?fin
  case s0 =>
    intro ρ W hb hc hf hr
    obtain ⟨r5, -⟩ := hr
    have e5 : ρ (.tmp 5) = .bool true := r5
    clear r5
    refine under_none rfl ?_
    exact ⟨e5, Below.refl _ _⟩
  case s1 =>
    intro ρ W hb hc hf hr
    obtain ⟨r33, -⟩ := hr
    have e33 : ρ (.tmp 33) = .bool true := r33
    clear r33
    refine under_none rfl ?_
    exact ⟨e33, Below.refl _ _⟩
  case s2 =>
    intro ρ W hb hc hf hr
    obtain ⟨r0, r34, -⟩ := hr
    have e0 : ρ (.tmp 0) = .slice A n cap := r0
    clear r0
    have e34 : ρ (.tmp 34) = .bool true := r34
    clear r34
    refine ⟨34, rfl, .inl ⟨e34, ?_⟩⟩
    exact ⟨e0, Below.refl _ _⟩
  case s3 =>
    intro ρ W hb hc hf hr
    obtain ⟨r35, r34, -⟩ := hr
    have e35 : ρ (.tmp 35) = .slice A n cap := r35
    clear r35
    have e34 : ρ (.tmp 34) = .bool true := r34
    clear r34
    refine ⟨34, rfl, .inl ⟨e34, ?_⟩⟩
    exact soft_call1 hf e35 (HP.out W (hbd.trans (hb.mono (by simp)))) rfl (by kernel_rfl) made_own
  case s4 =>
    intro ρ W hb hc hf hr
    obtain ⟨r36, r34, -⟩ := hr
    have e34 : ρ (.tmp 34) = .bool true := r34
    clear r34
    refine ⟨34, rfl, .inl ⟨e34, ?_⟩⟩
    exact soft_own r36 rfl
  case s5 =>
    intro ρ W hb hc hf hr
    obtain ⟨r0, r34, -⟩ := hr
    have e0 : ρ (.tmp 0) = .slice A n cap := r0
    clear r0
    have e34 : ρ (.tmp 34) = .bool true := r34
    clear r34
    refine ⟨34, rfl, .inl ⟨e34, ?_⟩⟩
    exact ⟨e0, Below.refl _ _⟩
  case s6 =>
    intro ρ W hb hc hf hr
    obtain ⟨r38, r34, -⟩ := hr
    have e38 : ρ (.tmp 38) = .slice A n cap := r38
    clear r38
    have e34 : ρ (.tmp 34) = .bool true := r34
    clear r34
    refine ⟨34, rfl, .inl ⟨e34, ?_⟩⟩
    exact soft_call1 hf e38 (HRP.out W (hbd.trans (hb.mono (by simp)))) rfl (by kernel_rfl) made_own
  case s7 =>
    intro ρ W hb hc hf hr
    obtain ⟨r39, r34, -⟩ := hr
    have e34 : ρ (.tmp 34) = .bool true := r34
    clear r34
    refine ⟨34, rfl, .inl ⟨e34, ?_⟩⟩
    exact soft_own r39 rfl
  case s8 =>
    intro ρ W hb hc hf hr
    obtain ⟨r37, r40, r34, -⟩ := hr
    have e37 : ρ (.tmp 37) = .string (str T) := r37
    clear r37
    have e40 : ρ (.tmp 40) = .string (str T) := r40
    clear r40
    have e34 : ρ (.tmp 34) = .bool true := r34
    clear r34
    refine ⟨34, rfl, .inl ⟨e34, ?_⟩⟩
    exact soft_bin e37 e40 rfl rfl (EQT.out W)
  case s9 =>
    intro ρ W hb hc hf hr
    obtain ⟨r34, r41, -⟩ := hr
    have e34 : ρ (.tmp 34) = .bool true := r34
    clear r34
    have e41 : ρ (.tmp 41) = .bool true := r41
    clear r41
    refine under_none rfl ?_
    simp [execOp, e34, e41, hc, go_sem, softUpon, Fact.is, Below.refl]
  case s10 =>
    intro ρ W hb hc hf hr
    obtain ⟨r42, -⟩ := hr
    have e42 : ρ (.tmp 42) = .bool true := r42
    clear r42
    refine under_none rfl ?_
    exact ⟨e42, Below.refl _ _⟩
  case s11 =>
    intro ρ W hb hc hf hr
    obtain ⟨r6, r43, -⟩ := hr
    have e6 : ρ (.tmp 6) = .slice A3 m cap3 := r6
    clear r6
    have e43 : ρ (.tmp 43) = .bool true := r43
    clear r43
    refine ⟨43, rfl, .inl ⟨e43, ?_⟩⟩
    exact ⟨e6, Below.refl _ _⟩
  case s12 =>
    intro ρ W hb hc hf hr
    obtain ⟨r9, r43, -⟩ := hr
    have e9 : ρ (.tmp 9) = .slice A4 m cap4 := r9
    clear r9
    have e43 : ρ (.tmp 43) = .bool true := r43
    clear r43
    refine ⟨43, rfl, .inl ⟨e43, ?_⟩⟩
    exact ⟨e9, Below.refl _ _⟩
  case s13 =>
    intro ρ W hb hc hf hr
    obtain ⟨r44, r45, r43, -⟩ := hr
    have e44 : ρ (.tmp 44) = .slice A3 m cap3 := r44
    clear r44
    have e45 : ρ (.tmp 45) = .slice A4 m cap4 := r45
    clear r45
    have e43 : ρ (.tmp 43) = .bool true := r43
    clear r43
    refine ⟨43, rfl, .inl ⟨e43, ?_⟩⟩
    exact soft_call2 hf e44 e45 (HSM.out W (hbd.trans (hb.mono (by simp)))) rfl (by kernel_rfl) below_is
  case s14 =>
    intro ρ W hb hc hf hr
    obtain ⟨r43, r46, -⟩ := hr
    have e43 : ρ (.tmp 43) = .bool true := r43
    clear r43
    have e46 : ρ (.tmp 46) = .bool true := r46
    clear r46
    refine under_none rfl ?_
    simp [execOp, e43, e46, hc, go_sem, softUpon, Fact.is, Below.refl]
  case s15 =>
    intro ρ W hb hc hf hr
    obtain ⟨r47, -⟩ := hr
    have e47 : ρ (.tmp 47) = .bool true := r47
    clear r47
    refine under_none rfl ?_
    exact ⟨e47, Below.refl _ _⟩
  case s16 =>
    intro ρ W hb hc hf hr
    obtain ⟨r7, r48, -⟩ := hr
    have e7 : ρ (.tmp 7) = .int .i64 P := r7
    clear r7
    have e48 : ρ (.tmp 48) = .bool true := r48
    clear r48
    refine ⟨48, rfl, .inl ⟨e48, ?_⟩⟩
    exact ⟨e7, Below.refl _ _⟩
  case s17 =>
    intro ρ W hb hc hf hr
    obtain ⟨r10, r48, -⟩ := hr
    have e10 : ρ (.tmp 10) = .int .i64 P := r10
    clear r10
    have e48 : ρ (.tmp 48) = .bool true := r48
    clear r48
    refine ⟨48, rfl, .inl ⟨e48, ?_⟩⟩
    exact ⟨e10, Below.refl _ _⟩
  case s18 =>
    intro ρ W hb hc hf hr
    obtain ⟨r49, r50, r48, -⟩ := hr
    have e49 : ρ (.tmp 49) = .int .i64 P := r49
    clear r49
    have e50 : ρ (.tmp 50) = .int .i64 P := r50
    clear r50
    have e48 : ρ (.tmp 48) = .bool true := r48
    clear r48
    refine ⟨48, rfl, .inl ⟨e48, ?_⟩⟩
    simp [execOp, e49, e50, go_sem, softUpon, Fact.is, Below.refl]
  case s19 =>
    intro ρ W hb hc hf hr
    obtain ⟨r48, r51, -⟩ := hr
    have e48 : ρ (.tmp 48) = .bool true := r48
    clear r48
    have e51 : ρ (.tmp 51) = .bool true := r51
    clear r51
    refine under_none rfl ?_
    simp [execOp, e48, e51, hc, go_sem, softUpon, Fact.is, Below.refl]
  case s20 =>
    intro ρ W hb hc hf hr
    obtain ⟨r52, -⟩ := hr
    have e52 : ρ (.tmp 52) = .bool true := r52
    clear r52
    refine under_none rfl ?_
    exact ⟨e52, Below.refl _ _⟩
  case s21 =>
    intro ρ W hb hc hf hr
    obtain ⟨r8, r53, -⟩ := hr
    have e8 : ρ (.tmp 8) = .int .i64 C := r8
    clear r8
    have e53 : ρ (.tmp 53) = .bool true := r53
    clear r53
    refine ⟨53, rfl, .inl ⟨e53, ?_⟩⟩
    exact ⟨e8, Below.refl _ _⟩
  case s22 =>
    intro ρ W hb hc hf hr
    obtain ⟨r11, r53, -⟩ := hr
    have e11 : ρ (.tmp 11) = .int .i64 C := r11
    clear r11
    have e53 : ρ (.tmp 53) = .bool true := r53
    clear r53
    refine ⟨53, rfl, .inl ⟨e53, ?_⟩⟩
    exact ⟨e11, Below.refl _ _⟩
  case s23 =>
    intro ρ W hb hc hf hr
    obtain ⟨r54, r55, r53, -⟩ := hr
    have e54 : ρ (.tmp 54) = .int .i64 C := r54
    clear r54
    have e55 : ρ (.tmp 55) = .int .i64 C := r55
    clear r55
    have e53 : ρ (.tmp 53) = .bool true := r53
    clear r53
    refine ⟨53, rfl, .inl ⟨e53, ?_⟩⟩
    simp [execOp, e54, e55, go_sem, softUpon, Fact.is, Below.refl]
  case s24 =>
    intro ρ W hb hc hf hr
    obtain ⟨r53, r56, -⟩ := hr
    have e53 : ρ (.tmp 53) = .bool true := r53
    clear r53
    have e56 : ρ (.tmp 56) = .bool true := r56
    clear r56
    refine under_none rfl ?_
    simp [execOp, e53, e56, hc, go_sem, softUpon, Fact.is, Below.refl]
  case s25 =>
    intro ρ W hb hc hf hr
    obtain ⟨r57, -⟩ := hr
    have e57 : ρ (.tmp 57) = .bool true := r57
    clear r57
    refine under_none rfl ?_
    exact ⟨e57, Below.refl _ _⟩
  case fin =>
    intro a u4 hb hd hk
    have h4 : a.tmps.getD 4 undef = .bool true := hk 4
    clear hk
    go_wp2
    refine bodyPost_ret (results_tmp rfl _ _ _) hd ?_
    exact ⟨by rw [h4], c4.trans ((hbd.trans (hb.mono (by simp))).mono c4.size)⟩


set_option maxRecDepth 100000 in
theorem lifted (os : Os) (started : os.Started) (H : Type) (enc : TypeId × Value → H) :
    ReturnsInHanded {} Tryd.checked os 3 .any (fun w args => (Rows.batchTellsSpec.pre enc Tryd.prog Tryd.f3 [] false w args ∧ laidMetH Tryd.prog laidBoth w) ∧ sizedMet enc Tryd.prog Tryd.f3 (OpenSpec.ofChange Rows.batchTellsSpec) false w args) (Rows.batchTellsSpec.post enc Tryd.prog Tryd.f3 false true false false) := by
  refine returnsInHanded_of_change_and (C := Tryd.checked) (X := fun w _ => laidMetH Tryd.prog laidBoth w) (fun _ _ _ hh h => h.of_heap hh) own started (by kernel_rfl) Tryd.func3
    (ChangeSpec.witness_at (enc := enc) (C := Tryd.checked) (os := os) (X := fun w _ => laidMetH Tryd.prog laidBoth w) false (bothWorld os) #[.slice none 0 0, .slice none 0 0] 8 rfl (by kernel_rfl) (by kernel_rfl) (by kernel_rfl) (by kernel_rfl) (by kernel_rfl) (bothWorld_met os _)) ?_
  intro W base args ds gs before hval0 hW _ _ hL _
  have hval : ∀ (j : Nat) t v, Tryd.f3.params[j]? = some t → args[j]? = some v → Value.okWide Tryd.prog W .any base t v := hval0
  have hfin := fun W' => law_post (enc := enc) (P := Tryd.prog) (f := Tryd.f3) (s := Rows.batchTellsSpec) (tb := 4) (W := W) (W' := W') (args := args) (ds := ds) (gs := gs) (before := before) laidOut rfl (by kernel_rfl) Tryd.underlying4 (by kernel_rfl) (fun xs h => by rw [Tryd.params3] at h; match xs, h with | [_, _], _ => rfl) hW
  have hlt : ∀ x ∈ before, x.block < W.heap.size := fun x hx => hW.lt x hx
  obtain ⟨p, q, hA0, hV, rfl, hfz, hnd⟩ := hW
  have hA : DataW.TrodAll enc Tryd.prog W 0 (fun _ => true) true Tryd.f3.params.toList args.toList ds p := hA0
  rw [Tryd.params3] at hA hval
  obtain ⟨v0, vs0, d0, ds0, p0, q0, hargs, rfl, rfl, h0, r0⟩ := trodAll_cons hA
  obtain ⟨v1, vs1, d1, ds1, p1, q1, rfl, rfl, rfl, h1, r1⟩ := trodAll_cons r0
  obtain ⟨rfl, rfl, rfl⟩ := trodAll_nil r1
  obtain rfl : args = #[v0, v1] := by cases args; simp_all
  obtain ⟨A0, cap0, l0, rfl, hl0, hm0, hB0, hS0⟩ := open_spans (hval 0 22 v0 rfl rfl) h0 (fun x hx => hlt x (by simp [hx]))
  obtain ⟨A1, cap1, b1, rfl, hl1, hm1, hB1⟩ := open_bytes (hval 1 23 v1 rfl rfl) h1 (fun x hx => hlt x (by simp [hx]))
  refine (walk W (of_both hL) A0 cap0 l0 hl0 hm0 hB0 hS0 A1 cap1 b1 hl1 hm1 hB1).mono fun e W' ⟨he, hg⟩ => ?_
  subst he
  exact ⟨_, rfl, hfin W' hg⟩

theorem proved : Rows.BatchTellsSaid :=
  OpenClaim.holds_of_wide 3 Tryd.f3 rfl rfl rfl rfl rfl rfl rfl ⟨rfl, rfl, rfl, rfl, rfl⟩ rfl rfl rfl rfl rfl (by kernel_rfl) Tryd.func3 (by kernel_rfl)
    (of_decide_eq_true (by kernel_rfl)) (by unfold Func.isWrapper; first | (rw [if_pos (by decide +kernel)]; kernel_rfl) | (rw [if_neg (by decide +kernel)]; exact ⟨rfl, rfl⟩))
    (fun os started H enc _ => lifted os started H enc)

set_option maxRecDepth 100000 in
theorem card : Rows.BatchTellsCardSaid :=
  Claim7.holds_tied_plain_at .later [] kindsBoth true _ true
    proved (fun _ h => by cases h) (by kernel_rfl) (fun _ h => by cases h) batchTells_row_tie rfl ⟨rfl, rfl⟩ (by kernel_rfl) rfl
    (fun f fn hf hfn => by
      obtain rfl : f = 3 := Option.some.inj ((show Tryd.prog.funcNamed "turntable/turntablelaw04.BatchTells" = some 3 by kernel_rfl).symm.trans hf) |>.symm
      obtain rfl : fn = Tryd.f3 := (Option.some.inj (Tryd.func3.symm.trans hfn)).symm
      exact ⟨by kernel_rfl, fun j t ht => by
        rw [Tryd.params3] at ht
        have hm : t ∈ [22, 23] := by simpa using Array.mem_of_getElem? ht
        have hall : ([22, 23].all fun u => !Tryd.prog.wantsStandIn u) = true := by kernel_rfl
        exact (show Tryd.prog.wantsStandIn t = false by simpa using List.all_eq_true.1 hall t hm)⟩)
    (by kernel_rfl)
#print axioms card
end Go.Proofs.YtimelckjbofhbaaDoor.batchTells
