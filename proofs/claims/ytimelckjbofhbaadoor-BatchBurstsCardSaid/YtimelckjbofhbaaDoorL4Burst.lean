/-
  P4.3, BatchBursts: for all spans, places and bits the law returns true: bytes of a batch in which something within 32 bits has turned are none. No condition; what the row lists is tied to the program's text.
-/
import Derived.Test.YtimelckjbofhbaaDoorBatHd
import Derived.Test.YtimelckjbofhbaaDoorCrcC
import Derived.BigRegion
namespace Go.Proofs.YtimelckjbofhbaaDoor.batchBursts
open Go.ChangeShapes Go.WideShapes Go.ChangeAt Go.RowKit
set_option maxRecDepth 100000

set_option maxHeartbeats 8000000 in
theorem walkN (w : World) (hT : Handle w ∧ Tab w) (A : Option Addr) (cap n : Nat) (l : List Plain.Sp) (hn : l.length = n) (hl : n ≤ cap) (hm : cap ≤ maxLen) (hA : Lies w A (flat l)) (hS : Fine l) (at_ : Nat) (hat : at_ < 65536) (x : Nat) (hx : x < 4294967296) :
    Calls Tryd.prog 6 #[.slice A n cap, .int .u16 (at_ : Int), .int .u32 (x : Int)] w fun e w' => e = .returned (.bool true) ∧ Below w.heap.size w w' := by
  obtain ⟨i0, hi, hz0, hz1, hz2⟩ := info_parts infoU8
  have HA := Lib.hid hA
  have HT := Lib.hid hT
  have HS := Lib.hid hS
  have HN := Lib.hid hn
  have HM := Lib.hid hm
  unfold maxLen at hm
  clear hA hT hS hn
  go_enter Tryd.func6, Tryd.ntmps6
  go_wp2_with fail
  refine (head_any w HT.out).mono ?_
  rintro e w1 ⟨rfl, c1⟩
  have hple := Plain.bput_le l
  have HPOS := Lib.hid (Plain.bput_pos l)
  have HGB := Lib.hid (Plain.bget_bput l)
  have HPY := Lib.hid (Plain.bput_yes l)
  have HPL := Lib.hid (Plain.bput_len l)
  obtain ⟨T, hTT⟩ : ∃ T, Plain.bput l = T := ⟨_, rfl⟩
  have HP := Lib.hid (batchPut_any A n cap l w1 (HT.out.2.below c1 (Nat.le_refl _)) HN.out (Nat.le_trans hl HM.out) (HA.out.below c1) HS.out)
  rw [hTT] at HP hple HPOS HGB HPY HPL
  clear hTT
  go_wp2_with fail
  refine HP.out.mono ?_
  rintro e w2 ⟨v2, rfl, ho2, d2⟩
  obtain ⟨A2, cap2, rfl, hl2, hm2, -, hL2⟩ := own_form ho2
  have c2 := c1.trans (d2.mono c1.size)
  have HL2 := Lib.hid hL2
  clear ho2 hL2 HP
  obtain ⟨tl, htl⟩ : ∃ tl, T.length = tl := ⟨_, rfl⟩
  rw [htl] at hl2 hple HPOS HGB HPL ⊢
  have HTL := Lib.hid htl
  clear htl
  go_wp2_with fail
  refine (great_any A n cap l w2 HN.out hl HM.out (HA.out.below c2)).mono ?_
  rintro e w3 ⟨g, rfl, -, d3⟩
  have c3 := c2.trans (d3.mono c2.size)
  have HL3 := Lib.hid (HL2.out.below d3)
  clear HL2
  rcases g with _ | _
  rotate_left
  · go_wp2
    go_ret
    exact ⟨rfl, c3⟩
  by_cases ht0 : 0 < tl
  rotate_left
  · obtain rfl : tl = 0 := by omega
    go_wp2
    go_ret
    exact ⟨rfl, c3⟩
  have hB := HPOS.out.1 ht0
  have HTS := Lib.hid (HPY.out hB)
  have hgb := HGB.out hB
  have htl7 : 7 ≤ tl := by rw [HPL.out hB]; split <;> omega
  have HB2 := Lib.hid hB
  have HGG := Lib.hid hgb
  have hne : ((tl : Int) == 0) = false := beq_eq_false_iff_ne.2 (by omega)
  have hbl : (Plain.body l).length + 4 = tl := by rw [← HTL.out, HTS.out, Crc.sealed_length]
  have HBLL := Lib.hid hbl
  clear hB hgb HPOS HGB HPY HPL hbl
  go_wp2_with (at_builtin; refine wpList_app rfl _ _ 23 rfl w3.heap.size 5 i0 (.int .u8 0) Tryd.underlying23 hi hz0 hz1 hz2 rfl (.slice (some ⟨w3.heap.size, 0, none⟩) 0 0) 0 [] rfl ?a1 A2 tl cap2 (cells T) rfl ?a2 ?a3 (cells_one T) ?a4 ?a5 ?a6)
  case a1 =>
    have := World.ownsRow_lit (base := w3.heap.size) (e := 5) (size := 1) w3 #[] 0 (Nat.le_refl _) (by unfold maxLen; omega) rfl
    simpa using this
  case a2 => rw [cells_length]; exact HTL.out
  case a3 => exact HL3.out.keep (by simp) fun p hp => World.cell?_alloc_lt _ _ p hp
  case a4 => omega
  case a5 => simp
  case a6 =>
    intro v4 w4 ho4 hg4 hat4
    have b4 : Below w3.heap.size w3 w4 := ((Below.refl _ _).alloc (Nat.le_refl _) _).grown hg4 (by simp) (fun g hg => by simp [Value.ownBlock] at hg; omega)
    obtain ⟨g4, cap4, rfl, hl4, hm4, -⟩ := own_some ho4 ht0
    have HO4 := Lib.hid ho4
    clear ho4 hg4 hat4
    unfold maxLen at hm4
    go_wp2
    obtain ⟨K, hK, hK2⟩ : ∃ K : Nat, (at_ : Int) % (8 * (tl : Int) - 31) = (K : Int) ∧ K + 32 ≤ 8 * tl := by
      have h1 := Int.emod_nonneg (at_ : Int) (b := 8 * (tl : Int) - 31) (by omega)
      have h2 := Int.emod_lt_of_pos (at_ : Int) (b := 8 * (tl : Int) - 31) (by omega)
      obtain ⟨K, hK⟩ := Int.eq_ofNat_of_zero_le h1
      exact ⟨K, hK, by omega⟩
    rw [hK]
    clear hK hat
    go_loopw [11] (fun vi wr => ∃ (i : Nat) (X : List UInt8), vi = .int .i64 i ∧ i ≤ 32 ∧ wr.ownsRow w3.heap.size 5 1 (.slice (some ⟨g4, 0, none⟩) tl cap4) tl (cells X) ∧ Below w3.heap.size w3 wr ∧ Turned T X K x i) (fun vi _ => 32 - (intOf vi).toNat)
    case atStart => exact ⟨0, _, rfl, by omega, HO4.out, b4, Turned.start _ _ _⟩
    case round =>
      obtain ⟨i, X, rfl, hi, hown, hbr, htu⟩ := hrel
      have HTU := Lib.hid htu
      clear htu
      by_cases h32 : i < 32
      · have HBG := Lib.hid (show w3.heap.size ≤ g4 from (hown.lt g4 rfl).1)
        by_cases hbit : x.testBit i = true
        · have hd := bit_yes hbit
          have HBIT := Lib.hid hbit
          clear hbit
          have hXl : X.length = tl := by have := hown.1; rw [cells_length] at this; omega
          obtain ⟨q, hq⟩ : ∃ q, (K + i) / 8 = q := ⟨_, rfl⟩
          obtain ⟨e, he⟩ : ∃ e, (K + i) % 8 = e := ⟨_, rfl⟩
          have hqz : ((K : Int) + (i : Int)) / 8 = (q : Int) := by omega
          have hez : ((K : Int) + (i : Int)) % 8 = (e : Int) := by omega
          have hqn : q < tl := by omega
          have he8 : e < 8 := by omega
          have hfz := hown.frozenAt q
          have hcc := hown.cellAt q (by omega)
          rw [List.getElem?_eq_getElem (by rw [cells_length]; omega), cells_at X q (by omega)] at hcc
          have HOW := Lib.hid hown
          obtain ⟨y, hy, hy8, hye⟩ := byte_turn (X[q]'(by omega)) e he8
          have HTN := Lib.hid (HTU.out.turn HBIT.out hq he (by omega) (UInt8.ofNat y) (by rw [← hye, UInt8.toNat_ofNat', Nat.mod_eq_of_lt (by omega)]))
          have HST := Lib.hid (cells_set [] X q (UInt8.ofNat y) (y : Int) (by rw [UInt8.toNat_ofNat', Nat.mod_eq_of_lt (by omega)]))
          clear hye
          have hcv := (X[q]'(by omega)).toNat_lt
          generalize (X[q]'(by omega)).toNat = cv at hcc hy hcv
          clear hown hXl hq he
          go_wp2
          go_region
          go_wp2
          go_roundw
          case rel =>
            have h2 := (HOW.out.stored q (.int .u8 (y : Int))).1
            have e2 := HST.out
            rw [List.nil_append, List.length_nil, Nat.zero_add, List.nil_append] at e2
            rw [e2] at h2
            exact ⟨i + 1, _, by go_num, by omega, h2.drew, (hbr.setCell (p := ⟨g4, q, none⟩) HBG.out _).drew, HTN.out⟩
          case measure => simp [intOf]; omega
        · have hbit' : x.testBit i = false := by simpa using hbit
          have hd := bit_no hbit'
          have HTN := Lib.hid (HTU.out.skip hbit')
          have HOW := Lib.hid hown
          clear hown hbit hbit'
          go_wp2
          go_roundw
          case rel => exact ⟨i + 1, X, by go_num, by omega, HOW.out, hbr, HTN.out⟩
          case measure => simp [intOf]; omega
      · obtain rfl : i = 32 := by omega
        have hXl : X.length = tl := by have := hown.1; rw [cells_length] at this; omega
        have HXL := Lib.hid hXl
        have cr := c3.trans (hbr.mono c3.size)
        have HG := Lib.hid (batchGet_any (some ⟨g4, 0, none⟩) tl cap4 X wr (HT.out.1.below HT.out.1.lt cr) (HT.out.2.below cr (Nat.le_refl _)) hXl hl4 (by unfold maxLen; omega) (by omega) (Lies.own hown))
        clear hown hXl
        by_cases h0 : x = 0
        · subst h0
          have hX : X = T := HTU.out.2.1 rfl
          subst hX
          rw [HGG.out] at HG
          clear HTU
          go_wp2_with fail
          refine HG.out.mono ?_
          rintro e w5 ⟨v5, rfl, A5, cap5, rfl, -, -, -, d5⟩
          go_wp2
          go_ret
          exact ⟨rfl, cr.trans (d5.mono cr.size)⟩
        · have hTU := HTU.out
          rw [HTS.out] at hTU
          have hg := Plain.bget_torn X (by rw [HXL.out]; exact htl7) (hTU.told (by have := HBLL.out; omega) hx h0)
          rw [hg] at HG
          clear hg hTU HTU
          have hx0 : ((x : Int) == 0) = false := by simp; omega
          go_wp2_with fail
          refine HG.out.mono ?_
          rintro e w5 ⟨v5, rfl, A5, cap5, rfl, -, -, -, d5⟩
          go_wp2
          go_ret
          exact ⟨rfl, cr.trans (d5.mono cr.size)⟩

theorem walk (w : World) (hT : Handle w ∧ Tab w) (A : Option Addr) (cap : Nat) (l : List Plain.Sp) (hl : l.length ≤ cap) (hm : cap ≤ maxLen) (hA : Lies w A (flat l)) (hS : ∀ x ∈ l, x.sv.length ≤ maxLen ∧ x.nm.length ≤ maxLen) (a : Int) (ha : 0 ≤ a ∧ a ≤ 65535) (b : Int) (hb : 0 ≤ b ∧ b ≤ 4294967295) :
    Calls Tryd.prog 6 #[.slice A l.length cap, .int .u16 a, .int .u32 b] w fun e w' => e = .returned (.bool true) ∧ Below w.heap.size w w' := by
  obtain ⟨s, rfl⟩ := Int.eq_ofNat_of_zero_le ha.1
  obtain ⟨t, rfl⟩ := Int.eq_ofNat_of_zero_le hb.1
  exact walkN w hT A cap l.length l rfl hl hm hA hS s (by omega) t (by omega)


set_option maxRecDepth 100000 in
theorem lifted (os : Os) (started : os.Started) (H : Type) (enc : TypeId × Value → H) :
    ReturnsInHanded {} Tryd.checked os 6 .any (fun w args => (Rows.batchBurstsSpec.pre enc Tryd.prog Tryd.f6 [] false w args ∧ laidMetH Tryd.prog laidBoth w) ∧ sizedMet enc Tryd.prog Tryd.f6 (OpenSpec.ofChange Rows.batchBurstsSpec) false w args) (Rows.batchBurstsSpec.post enc Tryd.prog Tryd.f6 false true false false) := by
  refine returnsInHanded_of_change_and (C := Tryd.checked) (X := fun w _ => laidMetH Tryd.prog laidBoth w) (fun _ _ _ hh h => h.of_heap hh) own started (by kernel_rfl) Tryd.func6
    (ChangeSpec.witness_at (enc := enc) (C := Tryd.checked) (os := os) (X := fun w _ => laidMetH Tryd.prog laidBoth w) false (bothWorld os) #[.slice none 0 0, .int .u16 0, .int .u32 0] 8 rfl (by kernel_rfl) (by kernel_rfl) (by kernel_rfl) (by kernel_rfl) (by kernel_rfl) (bothWorld_met os _)) ?_
  intro W base args ds gs before hval0 hW _ _ hL _
  have hval : ∀ (j : Nat) t v, Tryd.f6.params[j]? = some t → args[j]? = some v → Value.okWide Tryd.prog W .any base t v := hval0
  have hfin := fun W' => law_post (enc := enc) (P := Tryd.prog) (f := Tryd.f6) (s := Rows.batchBurstsSpec) (tb := 4) (W := W) (W' := W') (args := args) (ds := ds) (gs := gs) (before := before) laidOut rfl (by kernel_rfl) Tryd.underlying4 (by kernel_rfl) (fun xs h => by rw [Tryd.params6] at h; match xs, h with | [_, _, _], _ => rfl) hW
  have hlt : ∀ x ∈ before, x.block < W.heap.size := fun x hx => hW.lt x hx
  obtain ⟨p, q, hA0, hV, rfl, hfz, hnd⟩ := hW
  have hA : DataW.TrodAll enc Tryd.prog W 0 (fun _ => true) true Tryd.f6.params.toList args.toList ds p := hA0
  rw [Tryd.params6] at hA hval
  obtain ⟨v0, vs0, d0, ds0, p0, q0, hargs, rfl, rfl, h0, r0⟩ := trodAll_cons hA
  obtain ⟨v1, vs1, d1, ds1, p1, q1, rfl, rfl, rfl, h1, r1⟩ := trodAll_cons r0
  obtain ⟨v2, vs2, d2, ds2, p2, q2, rfl, rfl, rfl, h2, r2⟩ := trodAll_cons r1
  obtain ⟨rfl, rfl, rfl⟩ := trodAll_nil r2
  obtain rfl : args = #[v0, v1, v2] := by cases args; simp_all
  obtain ⟨A0, cap0, l0, rfl, hl0, hm0, hB0, hS0⟩ := open_spans (hval 0 22 v0 rfl rfl) h0 (fun x hx => hlt x (by simp [hx]))
  obtain ⟨a1, rfl, rfl, rfl, w1⟩ := open_int Tryd.underlying34 (hval 1 34 v1 rfl rfl) h1
  obtain ⟨a2, rfl, rfl, rfl, w2⟩ := open_int Tryd.underlying35 (hval 2 35 v2 rfl rfl) h2
  refine (walk W (of_both hL) A0 cap0 l0 hl0 hm0 hB0 hS0 a1 (bounds_u16 w1) a2 (bounds_u32 w2)).mono fun e W' ⟨he, hg⟩ => ?_
  subst he
  exact ⟨_, rfl, hfin W' hg⟩

theorem proved : Rows.BatchBurstsSaid :=
  OpenClaim.holds_of_wide 6 Tryd.f6 rfl rfl rfl rfl rfl rfl rfl ⟨rfl, rfl, rfl, rfl, rfl⟩ rfl rfl rfl rfl rfl (by kernel_rfl) Tryd.func6 (by kernel_rfl)
    (of_decide_eq_true (by kernel_rfl)) (by unfold Func.isWrapper; first | (rw [if_pos (by decide +kernel)]; kernel_rfl) | (rw [if_neg (by decide +kernel)]; exact ⟨rfl, rfl⟩))
    (fun os started H enc _ => lifted os started H enc)

set_option maxRecDepth 100000 in
theorem card : Rows.BatchBurstsCardSaid :=
  Claim7.holds_tied_plain_at .later [] kindsBoth true _ true
    proved (fun _ h => by cases h) (by kernel_rfl) (fun _ h => by cases h) batchBursts_row_tie rfl ⟨rfl, rfl⟩ (by kernel_rfl) rfl
    (fun f fn hf hfn => by
      obtain rfl : f = 6 := Option.some.inj ((show Tryd.prog.funcNamed "turntable/turntablelaw04.BatchBursts" = some 6 by kernel_rfl).symm.trans hf) |>.symm
      obtain rfl : fn = Tryd.f6 := (Option.some.inj (Tryd.func6.symm.trans hfn)).symm
      exact ⟨by kernel_rfl, fun j t ht => by
        rw [Tryd.params6] at ht
        have hm : t ∈ [22, 34, 35] := by simpa using Array.mem_of_getElem? ht
        have hall : ([22, 34, 35].all fun u => !Tryd.prog.wantsStandIn u) = true := by kernel_rfl
        exact (show Tryd.prog.wantsStandIn t = false by simpa using List.all_eq_true.1 hall t hm)⟩)
    (by kernel_rfl)
#print axioms card
end Go.Proofs.YtimelckjbofhbaaDoor.batchBursts
