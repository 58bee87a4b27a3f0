/-
  P5.2, TraceCut: for all spans, every place and every byte the law returns true: a trace's bytes that are cut are ErrShort; with something behind them ErrForm. No condition; what the row lists is tied to the program's text.
-/
import Derived.Test.YtmmkmhphnhanfaaGreatDoorTrHd
namespace Go.Proofs.YtmmkmhphnhanfaaGreatDoor.traceCut
open Go.ChangeShapes Go.WideShapes Go.ChangeAt Go.RowKit
set_option maxRecDepth 100000

/-- Get, where its error is known -/
theorem get_err (A : Option Addr) (n cap : Nat) (b : List UInt8) (w : World) (c : Nat) (hT : Handle w) (hn : b.length = n) (hl : n ≤ cap) (hm : cap ≤ maxLen) (hf : n ≤ 9000) (hA : Lies w A (cells b)) (hc : (Plain.tget b).2 = c) :
    Calls Tryz.prog 14 #[.slice A n cap] w fun e w' => ∃ v, e = .returned (.tuple #[v, .int .i64 (c : Int)]) ∧ Below w.heap.size w w' := by
  refine (tget_any A n cap b w hT hn hl hm (by omega) hA).mono ?_
  rw [← hc]
  rintro e w' ⟨v, rfl, A5, cap5, _, _, _, _, h4⟩
  exact ⟨v, rfl, h4⟩

set_option maxHeartbeats 8000000 in
theorem walk (w : World) (hT : Handle w) (A : Option Addr) (cap : Nat) (l : List Plain.Sp) (hl : l.length ≤ cap) (hm : cap ≤ maxLen) (hA : Lies w A (flat l)) (hS : ∀ x ∈ l, x.sv.length ≤ maxLen ∧ x.nm.length ≤ maxLen) (x1 : Int) (hx1 : 0 ≤ x1 ∧ x1 ≤ 65535) (x2 : Int) (hx2 : 0 ≤ x2 ∧ x2 ≤ 255) :
    Calls Tryz.prog 9 #[.slice A l.length cap, .int .u16 x1, .int .u8 x2] w fun e w' => e = .returned (.bool true) ∧ Below w.heap.size w w' := by
  have HA := Lib.hid hA
  have HH := Lib.hid (show ∀ u, Below w.heap.size w u → Handle u from fun u h => hT.below hT.lt h)
  have HT := Lib.hid hT
  have HS := Lib.hid (show Fine l from hS)
  obtain ⟨n, hn⟩ : ∃ n, l.length = n := ⟨_, rfl⟩
  rw [hn] at hl ⊢
  have HN := Lib.hid hn
  have HM := Lib.hid hm
  unfold maxLen at hm
  clear hA hT hS hn
  go_enter Tryz.func9, Tryz.ntmps9
  go_wp2_with fail
  refine (head_any w HT.out).mono ?_
  rintro e w1 ⟨rfl, c1⟩
  go_wp2_with fail
  refine (great_any A n cap l w1 HN.out hl HM.out (HA.out.below c1)).mono ?_
  rintro e w2 ⟨g, rfl, hg, d2⟩
  have c2 := c1.trans (d2.mono c1.size)
  rcases g with _ | _
  rotate_left
  · go_wp2
    go_ret
    exact ⟨rfl, c2⟩
  have h300 := hg rfl
  clear hg
  obtain ⟨X, rfl⟩ := Int.eq_ofNat_of_zero_le hx1.1
  have hX : X ≤ 65535 := by omega
  obtain ⟨Y, rfl⟩ := Int.eq_ofNat_of_zero_le hx2.1
  have hY : Y ≤ 255 := by omega
  clear hx1 hx2
  have HSO := Lib.hid (tsort_any A n cap l w2 HN.out (Nat.le_trans hl HM.out) (HA.out.below c2) HS.out)
  have hf := fine_ts l
  have htl := Plain.ts_len l
  obtain ⟨R, hR⟩ : ∃ R, Plain.isT (Plain.srt l) = R := ⟨_, rfl⟩
  rw [hR] at HSO
  obtain ⟨s, hs⟩ : ∃ s, Plain.ts l = s := ⟨_, rfl⟩
  rw [hs] at HSO hf htl
  clear hR hs
  go_wp2_with fail
  refine HSO.out.mono ?_
  rintro e w3 ⟨v3, rfl, A3, cap3, rfl, hl3, hm3, hL3, d3⟩
  have c3 := c2.trans (d3.mono c2.size)
  obtain ⟨m3, hm3l⟩ : ∃ m3, s.length = m3 := ⟨_, rfl⟩
  have HP := Lib.hid (tput_any A3 m3 cap3 s w3 hm3l (by unfold maxLen; omega) hL3 hf)
  rw [hm3l] at hl3 htl ⊢
  have hpl := Plain.tput_len s
  have HPOS := Lib.hid (Plain.tput_pos s)
  have HCUT := Lib.hid (Plain.tget_cut (l := s))
  have HMORE := Lib.hid (Plain.tget_more (l := s))
  obtain ⟨T, hTT⟩ : ∃ T, Plain.tput s = T := ⟨_, rfl⟩
  rw [hTT] at HP hpl HPOS HCUT HMORE
  clear hTT hL3 hm3l hf HSO
  go_wp2_with fail
  refine HP.out.mono ?_
  rintro e w4 ⟨v4, rfl, ho4, d4⟩
  obtain ⟨A4, cap4, rfl, hl4, hm4, -, hL4⟩ := own_form ho4
  have c4 := c3.trans (d4.mono c3.size)
  have HL4 := Lib.hid hL4
  clear ho4 hL4 HP
  obtain ⟨tl, htl4⟩ : ∃ tl, T.length = tl := ⟨_, rfl⟩
  rw [htl4] at hl4 hpl HPOS HCUT ⊢
  have HTL := Lib.hid htl4
  clear htl4
  by_cases ht0 : tl = 0
  · subst ht0
    go_wp2
    go_ret
    exact ⟨rfl, c4⟩
  have hTs := HPOS.out.1 (by omega)
  have hj : X % tl < tl := Nat.mod_lt _ (by omega)
  have HC1 := Lib.hid (HCUT.out hTs (X % tl) hj)
  have hne : ((tl : Int) == 0) = false := beq_eq_false_iff_ne.2 (by omega)
  have hm4' := hm4
  unfold maxLen at hm4'
  have HG1 := Lib.hid (get_err A4 (X % tl) cap4 (T.take (X % tl)) w4 11 (HH.out _ c4) (by rw [List.length_take, HTL.out]; omega) (by omega) hm4 (by omega) (by rw [← cells_take]; exact HL4.out.take (X % tl)) HC1.out)
  clear HC1
  go_wp2_with fail
  refine HG1.out.mono ?_
  rintro e w5 ⟨v5, rfl, d5⟩
  have c5 := c4.trans (d5.mono c4.size)
  have HL5 := Lib.hid (HL4.out.below d5)
  clear HG1 HL4
  obtain ⟨i0, hi, hz0, hz1, hz2⟩ := info_parts infoU8
  have HCT := Lib.hid (show (cells T).length = tl by rw [cells_length, HTL.out])
  have hsz5 := c5.size
  go_wp2_with (at_builtin; refine wpList_app rfl _ _ 23 rfl w5.heap.size 5 i0 (.int .u8 0) Tryz.underlying23 hi hz0 hz1 hz2 rfl (.slice (some ⟨w5.heap.size, 0, none⟩) 0 0) 0 [] rfl ?a1 A4 tl cap4 (cells T) rfl HCT.out ?a3 (cells_one T) (by omega) ?a5 ?a6)
  case a1 =>
    have := World.ownsRow_lit (base := w5.heap.size) (e := 5) (size := 1) w5 #[] 0 (Nat.le_refl _) (by unfold maxLen; omega) rfl
    simpa using this
  case a3 => exact HL5.out.keep (by simp) fun p hp => World.cell?_alloc_lt w5 _ p hp
  case a5 => simp
  case a6 =>
    intro v6 w6 ho6 hg6 _
    have k6 : Below w5.heap.size w5 w6 := ((Below.refl _ _).alloc (Nat.le_refl _) _).grown hg6 (by simp) (fun g hg => by simp [Value.ownBlock] at hg; omega)
    have HO6 := Lib.hid (ho6.alloc (.cells #[.int .u8 (Y : Int)] 5))
    have hs6 := k6.size
    have HY6 := Lib.hid (lies_made w6 w6.heap.size [.int .u8 (Y : Int)] #[.int .u8 (Y : Int)] 5 rfl rfl)
    clear ho6 hg6
    go_wp2_with (at_builtin; refine wpList_app rfl _ _ 23 rfl w5.heap.size 5 i0 (.int .u8 0) Tryz.underlying23 hi hz0 hz1 hz2 rfl v6 tl (cells T) rfl HO6.out (some ⟨w6.heap.size, 0, none⟩) 1 1 [.int .u8 (Y : Int)] rfl rfl HY6.out (by simp [Value.oneCell']) (by omega) (by simp; omega) ?_)
    intro v7 w7 ho7 hg7 _
    have k7 : Below w5.heap.size w5 w7 := (k6.alloc k6.size _).grown hg7 (by simp; omega) (fun g hg => (HO6.out.lt g hg).1)
    have c7 := c5.trans (k7.mono c5.size)
    have eT : cells T ++ [.int .u8 (Y : Int)] = cells (T ++ [UInt8.ofNat Y]) := by
      rw [cells_append]
      have : (UInt8.ofNat Y).toNat = Y := by simp [UInt8.toNat_ofNat']; omega
      simp [cells, this]
    rw [eT] at ho7
    obtain ⟨A7, cap7, rfl, hl7, hm7, -, hL7⟩ := own_form ho7
    have HG2 := Lib.hid (get_err A7 (tl + 1) cap7 (T ++ [UInt8.ofNat Y]) w7 12 (HH.out _ c7) (by rw [List.length_append, HTL.out]; rfl) hl7 hm7 (by omega) hL7 (HMORE.out hTs (UInt8.ofNat Y)))
    clear ho7 hg7 eT hL7 hTs HO6 HY6
    go_wp2_with fail
    refine HG2.out.mono ?_
    rintro e w8 ⟨v8, rfl, d8⟩
    have c8 := c7.trans (d8.mono c7.size)
    go_wp2
    go_ret
    exact ⟨rfl, c8⟩


set_option maxRecDepth 100000 in
theorem lifted (os : Os) (started : os.Started) (H : Type) (enc : TypeId × Value → H) :
    ReturnsInHanded {} Tryz.checked os 9 .any (fun w args => (Rows.traceCutSpec.pre enc Tryz.prog Tryz.f9 [] false w args ∧ laidMetH Tryz.prog laidHere w) ∧ sizedMet enc Tryz.prog Tryz.f9 (OpenSpec.ofChange Rows.traceCutSpec) false w args) (Rows.traceCutSpec.post enc Tryz.prog Tryz.f9 false true false false) := by
  refine returnsInHanded_of_change_and (C := Tryz.checked) (X := fun w _ => laidMetH Tryz.prog laidHere w) (fun _ _ _ hh h => h.of_heap hh) own started (by kernel_rfl) Tryz.func9
    (ChangeSpec.witness_at (enc := enc) (C := Tryz.checked) (os := os) (X := fun w _ => laidMetH Tryz.prog laidHere w) false (laidWorld os) #[.slice none 0 0, .int .u16 0, .int .u8 0] 8 rfl (by kernel_rfl) (by kernel_rfl) (by kernel_rfl) (by kernel_rfl) (by kernel_rfl) (laidWorld_met os _)) ?_
  intro W base args ds gs before hval0 hW _ _ hL _
  have hval : ∀ (j : Nat) t v, Tryz.f9.params[j]? = some t → args[j]? = some v → Value.okWide Tryz.prog W .any base t v := hval0
  have hfin := fun W' => law_post (enc := enc) (P := Tryz.prog) (f := Tryz.f9) (s := Rows.traceCutSpec) (tb := 4) (W := W) (W' := W') (args := args) (ds := ds) (gs := gs) (before := before) laidOut rfl (by kernel_rfl) Tryz.underlying4 (by kernel_rfl) (fun xs h => by rw [Tryz.params9] at h; match xs, h with | [_, _, _], _ => rfl) hW
  have hlt : ∀ x ∈ before, x.block < W.heap.size := fun x hx => hW.lt x hx
  obtain ⟨p, q, hA0, hV, rfl, hfz, hnd⟩ := hW
  have hA : DataW.TrodAll enc Tryz.prog W 0 (fun _ => true) true Tryz.f9.params.toList args.toList ds p := hA0
  rw [Tryz.params9] at hA hval
  obtain ⟨v0, vs0, d0, ds0, p0, q0, hargs, rfl, rfl, h0, r0⟩ := trodAll_cons hA
  obtain ⟨v1, vs1, d1, ds1, p1, q1, rfl, rfl, rfl, h1, r1⟩ := trodAll_cons r0
  obtain ⟨v2, vs2, d2, ds2, p2, q2, rfl, rfl, rfl, h2, r2⟩ := trodAll_cons r1
  obtain ⟨rfl, rfl, rfl⟩ := trodAll_nil r2
  obtain rfl : args = #[v0, v1, v2] := by cases args; simp_all
  obtain ⟨A0, cap0, l0, rfl, hl0, hm0, hB0, hS0⟩ := open_spans (hval 0 22 v0 rfl rfl) h0 (fun x hx => hlt x (by simp [hx]))
  obtain ⟨a1, rfl, rfl, rfl, w1⟩ := open_int Tryz.underlying44 (hval 1 44 v1 rfl rfl) h1
  obtain ⟨a2, rfl, rfl, rfl, w2⟩ := open_int Tryz.underlying5 (hval 2 5 v2 rfl rfl) h2
  refine (walk W (of_laid hL) A0 cap0 l0 hl0 hm0 hB0 hS0 a1 (bounds_u16 w1) a2 (bounds_u8 w2)).mono fun e W' ⟨he, hg⟩ => ?_
  subst he
  exact ⟨_, rfl, hfin W' hg⟩

theorem proved : Rows.TraceCutSaid :=
  OpenClaim.holds_of_wide 9 Tryz.f9 rfl rfl rfl rfl rfl rfl rfl ⟨rfl, rfl, rfl, rfl, rfl⟩ rfl rfl rfl rfl rfl (by kernel_rfl) Tryz.func9 (by kernel_rfl)
    (of_decide_eq_true (by kernel_rfl)) (by unfold Func.isWrapper; first | (rw [if_pos (by decide +kernel)]; kernel_rfl) | (rw [if_neg (by decide +kernel)]; exact ⟨rfl, rfl⟩))
    (fun os started H enc _ => lifted os started H enc)

set_option maxRecDepth 100000 in
theorem card : Rows.TraceCutCardSaid :=
  Claim7.holds_tied_plain_at .later [] laidKindsHere true _ true
    proved (fun _ h => by cases h) (by kernel_rfl) (fun _ h => by cases h) traceCut_row_tie rfl ⟨rfl, rfl⟩ (by kernel_rfl) rfl
    (fun f fn hf hfn => by
      obtain rfl : f = 9 := Option.some.inj ((show Tryz.prog.funcNamed "turntable/turntablelaw05.TraceCut" = some 9 by kernel_rfl).symm.trans hf) |>.symm
      obtain rfl : fn = Tryz.f9 := (Option.some.inj (Tryz.func9.symm.trans hfn)).symm
      exact ⟨by kernel_rfl, fun j t ht => by
        rw [Tryz.params9] at ht
        have hm : t ∈ [22, 44, 5] := by simpa using Array.mem_of_getElem? ht
        have hall : ([22, 44, 5].all fun u => !Tryz.prog.wantsStandIn u) = true := by kernel_rfl
        exact (show Tryz.prog.wantsStandIn t = false by simpa using List.all_eq_true.1 hall t hm)⟩)
    (by kernel_rfl)
#print axioms card
end Go.Proofs.YtmmkmhphnhanfaaGreatDoor.traceCut
