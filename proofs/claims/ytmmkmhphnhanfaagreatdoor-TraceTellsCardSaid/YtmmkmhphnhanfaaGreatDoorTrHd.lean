/-
  Layer 5: the laws' live question (turntablelaw05.head) answers true, and turns nothing that was there. Assumed: that errors.errorType is what its own text lays.
-/
import Derived.Test.YtmmkmhphnhanfaaGreatDoorTrT
import Derived.Test.YtmmkmhphnhanfaaGreatDoorTrS
import Derived.Test.YtmmkmhphnhanfaaGreatDoorTrP
import Derived.Test.YtmmkmhphnhanfaaGreatDoorBatC

namespace Go.Proofs.YtmmkmhphnhanfaaGreatDoor
open Go.RowKit
set_option maxRecDepth 100000

theorem one5_any (t i : Int) (w : World) (hi : 0 ≤ i) (hi2 : i ≤ 1000) :
    Calls Tryz.prog 25 #[.int .i64 t, .int .i64 i] w fun e w' => e = .returned (.agg #[.int .i64 t, .int .i64 i, .int .i64 0, .int .i64 (10 * i), .int .i64 5, .string ⟨#[119, 101, 98]⟩, .string ⟨#[110]⟩]) ∧ Below w.heap.size w w' := by
  obtain ⟨y0, y1, y2, y3, y4, y5, y6⟩ := (Blk.new w #[.int .i64 t, .int .i64 i, .int .i64 0, .int .i64 (10 * i), .int .i64 5, .string ⟨#[119, 101, 98]⟩, .string ⟨#[110]⟩] 40).seven
  go_enter Tryz.func25, Tryz.ntmps25
  go_wp2
  refine bodyPost_ret (v := .agg #[.int .i64 t, .int .i64 i, .int .i64 0, .int .i64 (10 * i), .int .i64 5, .string ⟨#[119, 101, 98]⟩, .string ⟨#[110]⟩]) (by simp [results, Tryz.results25, go_sem, y0, y1, y2, y3, y4, y5, y6]) rfl ?_
  exact ⟨rfl, by go_grown⟩

def oa : Plain.Sp := ⟨3, 1, 0, 10, 5, [119, 101, 98], [110]⟩
def ob : Plain.Sp := ⟨3, 2, 0, 20, 5, [100, 98], [110]⟩
theorem ab_isT : Plain.isT [oa, ob] = true := by decide +kernel
theorem ba_not : Plain.isT [ob, oa] = false := by decide +kernel
theorem ba_ts : Plain.isT (Plain.srt [ob, oa]) = true ∧ Plain.ts [ob, oa] = [oa, ob] := by
  have h := Plain.ts_of (d := [oa, ob]) (l := [ob, oa]) (List.Perm.swap _ _ _) (by decide +kernel)
  exact ⟨h.1 ▸ ab_isT, (h.2 ab_isT).symm⟩
theorem aa_not : Plain.isT (Plain.srt [oa, oa]) = false := by
  rw [Bool.eq_false_iff, ne_eq, Plain.isT_srt]
  decide +kernel
theorem g_nil5 : Plain.tget [] = ([], 11) := rfl
theorem g_zero5 : Plain.tget [0] = ([], 12) := by decide +kernel
theorem ab_svs : Plain.svs [oa, ob] = [[100, 98], [119, 101, 98]] := by
  refine Plain.up_eq (Plain.svs_up _) (by unfold Plain.up; decide +kernel) fun s => ?_
  rw [Plain.svs_mem]
  simp only [List.mem_cons, List.not_mem_nil, or_false, exists_eq_or_imp, exists_eq_left]
  constructor
  · rintro (h | h)
    · exact .inr h.symm
    · exact .inl h.symm
  · rintro (h | h)
    · exact .inr h.symm
    · exact .inl h.symm
theorem ab_brief : Plain.brief [oa, ob] = ⟨3, 10, 25, 2, [[100, 98], [119, 101, 98]]⟩ := by
  rw [Plain.brief_yes ab_isT, ab_svs]
  decide +kernel
theorem fine_of {l : List Plain.Sp} (h : ∀ x ∈ l, x.right = true) : Fine l := fun x hx => by
  have := (Plain.Sp.right_iff x).1 (h x hx)
  unfold maxLen
  omega
theorem fine_ba : Fine [ob, oa] := fine_of (by decide +kernel)
theorem fine_aa : Fine [oa, oa] := fine_of (by decide +kernel)
theorem fine_ab : Fine [oa, ob] := fine_of (by decide +kernel)
theorem fine_isT {l : List Plain.Sp} (h : Plain.isT l = true) : Fine l := fine_of (Plain.isT_right h)
theorem fine_ts (l : List Plain.Sp) : Fine (Plain.ts l) := by
  by_cases h : Plain.isT (Plain.srt l) = true
  · rw [Plain.ts_yes h]; exact fine_isT h
  · rw [Plain.ts_no (by simpa using h)]; intro x hx; cases hx
theorem lies_two (w : World) (x y : Plain.Sp) (cs : Array Value) (h : flat [x, y] = cs.toList) : Lies (w.alloc (.cells cs 40)) (some ⟨w.heap.size, 0, none⟩) (flat [x, y]) := lies_made w _ _ _ _ h rfl

theorem eqs_same (W : World) (a : List UInt8) : (binOp .eql 9 (.string (str a)) (.string (str a))).run Tryz.prog W = .ok (.bool true) W := by
  go_simp
theorem eqs_texts (W : World) (a b : List UInt8) : (binOp .eql 9 (.string (str a)) (.string (str b))).run Tryz.prog W = .ok (.bool (decide (a = b))) W := by
  have h : ((str a).toList == (str b).toList) = decide (a = b) := beq_str a b
  go_simp

set_option maxHeartbeats 8000000 in
theorem head_any (w : World) (hH : Handle w) : Calls Tryz.prog 10 #[] w fun e w' => e = .returned (.bool true) ∧ Below w.heap.size w w' := by
  have HH := Lib.hid (show ∀ u, Below w.heap.size w u → Handle u from fun u h => hH.below hH.lt h)
  clear hH
  go_enter Tryz.func10, Tryz.ntmps10
  go_wp2_with fail
  refine (one5_any 3 1 w (by omega) (by omega)).mono ?_
  rintro e w1 ⟨rfl, c1⟩
  have bA := Blk.new w1 #[.int .i64 3, .int .i64 1, .int .i64 0, .int .i64 10, .int .i64 5, .string ⟨#[119, 101, 98]⟩, .string ⟨#[110]⟩] 40
  have cA : Below w.heap.size w (w1.alloc (.cells #[.int .i64 3, .int .i64 1, .int .i64 0, .int .i64 10, .int .i64 5, .string ⟨#[119, 101, 98]⟩, .string ⟨#[110]⟩] 40)) := c1.alloc c1.size _
  go_wp2_with fail
  refine (one5_any 3 2 _ (by omega) (by omega)).mono ?_
  rintro e w2 ⟨rfl, d2⟩
  have c2 := cA.trans (d2.mono cA.size)
  have bA2 := (Kept.of d2 []).blk bA (by simp)
  have bB := Blk.new w2 #[.int .i64 3, .int .i64 2, .int .i64 0, .int .i64 20, .int .i64 5, .string ⟨#[100, 98]⟩, .string ⟨#[110]⟩] 40
  obtain ⟨V, hV⟩ : ∃ V, w2.alloc (.cells #[.int .i64 3, .int .i64 2, .int .i64 0, .int .i64 20, .int .i64 5, .string ⟨#[100, 98]⟩, .string ⟨#[110]⟩] 40) = V := ⟨_, rfl⟩
  have dV : Below w2.heap.size w2 V := by rw [← hV]; exact (Below.refl _ _).alloc (Nat.le_refl _) _
  have bAV := (Kept.of dV []).blk bA2 (by simp)
  have cV := c2.trans (dV.mono c2.size)
  rw [hV] at bB
  have HXA := Lib.hid (fun (u : World) (h : Below V.heap.size V u) => ((Kept.of h []).blk bAV (by simp)).seven)
  have HXB := Lib.hid (fun (u : World) (h : Below V.heap.size V u) => ((Kept.of h []).blk bB (by simp)).seven)
  have hs2 := bA2.lt
  have sV : V.heap.size = w2.heap.size + 1 := by rw [← hV]; simp
  obtain ⟨x0, x1, x2, x3, x4, x5, x6⟩ := bA2.seven
  have HV := Lib.hid hV
  clear hV bA cA bAV
  go_wp2_with fail
  clear x0 x1 x2 x3 x4 x5 x6
  rw [HV.out]
  have cS : Below V.heap.size V (V.alloc (.cells #[.int .i64 3, .int .i64 2, .int .i64 0, .int .i64 20, .int .i64 5, .string ⟨#[100, 98]⟩, .string ⟨#[110]⟩, .int .i64 3, .int .i64 1, .int .i64 0, .int .i64 10, .int .i64 5, .string ⟨#[119, 101, 98]⟩, .string ⟨#[110]⟩] 40)) := (Below.refl _ _).alloc (Nat.le_refl _) _
  have HS3 := Lib.hid (tsort_any (some ⟨V.heap.size, 0, none⟩) 2 2 [ob, oa] (V.alloc (.cells #[.int .i64 3, .int .i64 2, .int .i64 0, .int .i64 20, .int .i64 5, .string ⟨#[100, 98]⟩, .string ⟨#[110]⟩, .int .i64 3, .int .i64 1, .int .i64 0, .int .i64 10, .int .i64 5, .string ⟨#[119, 101, 98]⟩, .string ⟨#[110]⟩] 40)) rfl (by unfold maxLen; omega) (lies_two V ob oa _ rfl) fine_ba)
  rw [sV, ba_ts.1, ba_ts.2] at HS3
  refine HS3.out.mono ?_
  rintro e w3 ⟨v3, rfl, A3, cap3, rfl, hl3, hm3, hL3, d3⟩
  have k3 := cS.trans (d3.mono cS.size)
  have c3 := cV.trans (k3.mono cV.size)
  have hl3 : 2 ≤ cap3 := hl3
  have HL3 := Lib.hid hL3
  have e2 : ([oa, ob] : List Plain.Sp).length = 2 := rfl
  rw [e2]
  clear HS3 hL3 cS d3
  go_wp2_with fail
  refine (tput_any A3 2 cap3 [oa, ob] w3 rfl (by unfold maxLen; omega) HL3.out fine_ab).mono ?_
  rintro e w4 ⟨v4, rfl, ho4, d4⟩
  obtain ⟨A4, cap4, rfl, hl4, hm4, -, hL4⟩ := own_form ho4
  have k4 := k3.trans (d4.mono k3.size)
  have c4 := cV.trans (k4.mono cV.size)
  have HL4 := Lib.hid (HL3.out.below d4)
  have HM4 := Lib.hid hL4
  have hgt := Plain.tget_tput ab_isT
  have htl := Plain.tput_len [oa, ob]
  obtain ⟨T, hT⟩ : ∃ T, Plain.tput [oa, ob] = T := ⟨_, rfl⟩
  rw [hT] at hgt HM4 hl4 htl ⊢
  have HGT := Lib.hid (tget_any A4 T.length cap4 T w4 (HH.out _ c4) rfl hl4 hm4 (by omega) HM4.out)
  rw [hgt] at HGT
  clear ho4 hL4 hgt hT d4 HL3
  go_wp2_with fail
  refine HGT.out.mono ?_
  rintro e w5 ⟨v5, rfl, A5, cap5, rfl, hl5, hm5, hL5, d5⟩
  have k5 := k4.trans (d5.mono k4.size)
  have c5 := cV.trans (k5.mono cV.size)
  have HL5 := Lib.hid (HL4.out.below d5)
  have HX5 := Lib.hid hL5
  simp only [e2] at hl5 ⊢
  clear HGT HM4 hL5 d5 HL4
  have HGN := Lib.hid (tget_any none 0 0 [] w5 (HH.out _ c5) rfl (by omega) (by unfold maxLen; omega) (by omega) Lies.nil)
  rw [g_nil5] at HGN
  go_wp2_with fail
  refine HGN.out.mono ?_
  rintro e w6 ⟨v6, rfl, A6, cap6, rfl, -, -, -, d6⟩
  have k6 := k5.trans (d6.mono k5.size)
  have c6 := cV.trans (k6.mono cV.size)
  have HL6 := Lib.hid (HL5.out.below d6)
  have HX6 := Lib.hid (HX5.out.below d6)
  simp only [List.length_nil]
  clear HGN HL5 HX5 d6
  have f6 : Below w6.heap.size w6 (w6.alloc (.cells #[.int .u8 0] 5)) := (Below.refl _ _).alloc (Nat.le_refl _) _
  have HGZ := Lib.hid (tget_any (some ⟨w6.heap.size, 0, none⟩) 1 1 [0] (w6.alloc (.cells #[.int .u8 0] 5)) (HH.out _ (c6.trans (f6.mono c6.size))) rfl (by omega) (by unfold maxLen; omega) (by omega) (lies_made w6 _ _ _ _ rfl rfl))
  rw [g_zero5] at HGZ
  go_wp2_with fail
  refine HGZ.out.mono ?_
  rintro e w7 ⟨v7, rfl, A7, cap7, rfl, -, -, -, d7⟩
  have d7' := f6.trans (d7.mono f6.size)
  have k7 := k6.trans (d7'.mono k6.size)
  have c7 := cV.trans (k7.mono cV.size)
  have HL7 := Lib.hid (HL6.out.below d7')
  have HX7 := Lib.hid (HX6.out.below d7')
  simp only [List.length_nil]
  clear HGZ HL6 HX6 d7 d7' f6
  obtain ⟨x0, x1, x2, x3, x4, x5, x6⟩ := HXA.out w7 k7
  have f7 : Below w7.heap.size w7 (w7.alloc (.cells #[.int .i64 3, .int .i64 1, .int .i64 0, .int .i64 10, .int .i64 5, .string ⟨#[119, 101, 98]⟩, .string ⟨#[110]⟩, .int .i64 3, .int .i64 1, .int .i64 0, .int .i64 10, .int .i64 5, .string ⟨#[119, 101, 98]⟩, .string ⟨#[110]⟩] 40)) := (Below.refl _ _).alloc (Nat.le_refl _) _
  have HSA := Lib.hid (tsort_any (some ⟨w7.heap.size, 0, none⟩) 2 2 [oa, oa] (w7.alloc (.cells #[.int .i64 3, .int .i64 1, .int .i64 0, .int .i64 10, .int .i64 5, .string ⟨#[119, 101, 98]⟩, .string ⟨#[110]⟩, .int .i64 3, .int .i64 1, .int .i64 0, .int .i64 10, .int .i64 5, .string ⟨#[119, 101, 98]⟩, .string ⟨#[110]⟩] 40)) rfl (by unfold maxLen; omega) (lies_two w7 oa oa _ rfl) fine_aa)
  rw [aa_not] at HSA
  go_wp2_with fail
  clear x0 x1 x2 x3 x4 x5 x6
  refine HSA.out.mono ?_
  rintro e w8 ⟨v8, rfl, A8, cap8, rfl, -, -, -, d8⟩
  have d8' := f7.trans (d8.mono f7.size)
  have k8 := k7.trans (d8'.mono k7.size)
  have c8 := cV.trans (k8.mono cV.size)
  have HL8 := Lib.hid (HL7.out.below d8')
  have HX8 := Lib.hid (HX7.out.below d8')
  generalize (Plain.ts [oa, oa]).length = n8 at *
  clear HSA HL7 HX7 d8 d8' f7
  obtain ⟨x0, x1, x2, x3, x4, x5, x6⟩ := HXA.out w8 k8
  obtain ⟨y0, y1, y2, y3, y4, y5, y6⟩ := HXB.out w8 k8
  have f8 : Below w8.heap.size w8 (w8.alloc (.cells #[.int .i64 3, .int .i64 1, .int .i64 0, .int .i64 10, .int .i64 5, .string ⟨#[119, 101, 98]⟩, .string ⟨#[110]⟩, .int .i64 3, .int .i64 2, .int .i64 0, .int .i64 20, .int .i64 5, .string ⟨#[100, 98]⟩, .string ⟨#[110]⟩] 40)) := (Below.refl _ _).alloc (Nat.le_refl _) _
  have HSM := Lib.hid (same_any A3 (some ⟨w8.heap.size, 0, none⟩) 2 2 cap3 2 [oa, ob] [oa, ob] (w8.alloc (.cells #[.int .i64 3, .int .i64 1, .int .i64 0, .int .i64 10, .int .i64 5, .string ⟨#[119, 101, 98]⟩, .string ⟨#[110]⟩, .int .i64 3, .int .i64 2, .int .i64 0, .int .i64 20, .int .i64 5, .string ⟨#[100, 98]⟩, .string ⟨#[110]⟩] 40)) rfl rfl hl3 (by omega) hm3 (by unfold maxLen; omega) (HL8.out.below f8) (lies_two w8 oa ob _ rfl))
  rw [decide_eq_true rfl] at HSM
  go_wp2_with fail
  clear x0 x1 x2 x3 x4 x5 x6 y0 y1 y2 y3 y4 y5 y6
  refine HSM.out.mono ?_
  rintro e w9 ⟨rfl, d9⟩
  have d9' := f8.trans (d9.mono f8.size)
  have k9 := k8.trans (d9'.mono k8.size)
  have c9 := cV.trans (k9.mono cV.size)
  have HL9 := Lib.hid (HL8.out.below d9')
  have HX9 := Lib.hid (HX8.out.below d9')
  clear HSM HL8 HX8 d9 d9' f8
  have HSN := Lib.hid (same_any A5 A3 2 2 cap5 cap3 [oa, ob] [oa, ob] w9 rfl rfl hl5 hl3 hm5 hm3 HX9.out HL9.out)
  rw [decide_eq_true rfl] at HSN
  go_wp2_with fail
  refine HSN.out.mono ?_
  rintro e wa ⟨rfl, da⟩
  have ka := k9.trans (da.mono k9.size)
  have ca := cV.trans (ka.mono cV.size)
  have HLa := Lib.hid (HL9.out.below da)
  clear HSN HL9 HX9 da
  have HOF := Lib.hid (tof_any A3 2 cap3 [oa, ob] wa rfl (by unfold maxLen; omega) HLa.out fine_ab)
  rw [ab_brief] at HOF
  go_wp2_with fail
  refine HOF.out.mono ?_
  rintro e wb ⟨vb, rfl, Ab, capb, rfl, hlb, hmb, hLb, db⟩
  have kb := ka.trans (db.mono ka.size)
  have cb := cV.trans (kb.mono cV.size)
  have HLb := Lib.hid (HLa.out.below db)
  have fb : Below wb.heap.size wb (wb.alloc (.cells #[.string ⟨#[100, 98]⟩, .string ⟨#[119, 101, 98]⟩] 9)) := (Below.refl _ _).alloc (Nat.le_refl _) _
  have HSB := Lib.hid (sameB_any ⟨3, 10, 25, 2, [[100, 98], [119, 101, 98]]⟩ ⟨3, 10, 25, 2, [[100, 98], [119, 101, 98]]⟩ Ab (some ⟨wb.heap.size, 0, none⟩) capb 2 (wb.alloc (.cells #[.string ⟨#[100, 98]⟩, .string ⟨#[119, 101, 98]⟩] 9)) hlb (Nat.le_refl _) hmb (by unfold maxLen; omega) (hLb.below fb) (lies_made wb _ _ _ _ rfl rfl))
  rw [decide_eq_true rfl] at HSB
  have hlb : 2 ≤ capb := hlb
  have e2b : ([[100, 98], [119, 101, 98]] : List (List UInt8)).length = 2 := rfl
  simp only [e2b] at HSB ⊢
  clear HOF HLa hLb db e2b
  go_wp2_with fail
  refine HSB.out.mono ?_
  rintro e wc ⟨rfl, dc⟩
  have dc' := fb.trans (dc.mono fb.size)
  have kc := kb.trans (dc'.mono kb.size)
  have cc := cV.trans (kc.mono cV.size)
  have HLc := Lib.hid (HLb.out.below dc')
  clear HSB HLb dc dc' fb
  have HRT := Lib.hid (tright_any A3 2 cap3 [oa, ob] wc rfl (by unfold maxLen; omega) HLc.out fine_ab)
  rw [ab_isT] at HRT
  go_wp2_with fail
  refine HRT.out.mono ?_
  rintro e wd ⟨rfl, dd⟩
  have kd := kc.trans (dd.mono kc.size)
  have cd := cV.trans (kd.mono cV.size)
  clear HRT HLc dd
  obtain ⟨x0, x1, x2, x3, x4, x5, x6⟩ := HXA.out wd kd
  obtain ⟨y0, y1, y2, y3, y4, y5, y6⟩ := HXB.out wd kd
  have fd : Below wd.heap.size wd (wd.alloc (.cells #[.int .i64 3, .int .i64 2, .int .i64 0, .int .i64 20, .int .i64 5, .string ⟨#[100, 98]⟩, .string ⟨#[110]⟩, .int .i64 3, .int .i64 1, .int .i64 0, .int .i64 10, .int .i64 5, .string ⟨#[119, 101, 98]⟩, .string ⟨#[110]⟩] 40)) := (Below.refl _ _).alloc (Nat.le_refl _) _
  have HRB := Lib.hid (tright_any (some ⟨wd.heap.size, 0, none⟩) 2 2 [ob, oa] (wd.alloc (.cells #[.int .i64 3, .int .i64 2, .int .i64 0, .int .i64 20, .int .i64 5, .string ⟨#[100, 98]⟩, .string ⟨#[110]⟩, .int .i64 3, .int .i64 1, .int .i64 0, .int .i64 10, .int .i64 5, .string ⟨#[119, 101, 98]⟩, .string ⟨#[110]⟩] 40)) rfl (by unfold maxLen; omega) (lies_two wd ob oa _ rfl) fine_ba)
  rw [ba_not] at HRB
  go_wp2_with fail
  clear x0 x1 x2 x3 x4 x5 x6 y0 y1 y2 y3 y4 y5 y6
  refine HRB.out.mono ?_
  rintro e we ⟨rfl, de⟩
  have de' := fd.trans (de.mono fd.size)
  have ke := kd.trans (de'.mono kd.size)
  have ce := cV.trans (ke.mono cV.size)
  clear HRB de de' fd
  have HRN := Lib.hid (tright_any none 0 0 [] we rfl (by unfold maxLen; omega) Lies.nil (fun x hx => by cases hx))
  rw [Plain.isT_nil] at HRN
  go_wp2_with fail
  refine HRN.out.mono ?_
  rintro e wf ⟨rfl, df⟩
  go_wp2
  go_ret
  exact ⟨rfl, ce.trans (df.mono ce.size)⟩
end Go.Proofs.YtmmkmhphnhanfaaGreatDoor
