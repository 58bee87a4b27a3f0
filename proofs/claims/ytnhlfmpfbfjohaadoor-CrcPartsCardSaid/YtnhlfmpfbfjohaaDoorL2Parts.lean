/-
  P2.2, CrcParts: for all bytes the law returns true: the sum of a text is that of its parts, wherever it is parted. No condition but that the program's table starts as its text lays it.
-/
import Derived.Test.YtnhlfmpfbfjohaaDoorHead2
import Derived.Test.YtnhlfmpfbfjohaaDoorLaid2
import Derived.Test.YtnhlfmpfbfjohaaDoorVApp
namespace Go.Proofs.YtnhlfmpfbfjohaaDoor.crcParts
open Go.ChangeShapes Go.WideShapes Go.ChangeAt Go.RowKit

set_option maxHeartbeats 1000000 in
set_option maxRecDepth 100000 in
theorem walk (w : World) (hT : Tab w) (A : Option Addr) (ca : Nat) (a : List UInt8) (_ : a.length ≤ ca) (_ : ca ≤ maxLen) (hA : Lies w A (cells a)) (za : ca ≤ reachBytes) (B : Option Addr) (cb : Nat) (b : List UInt8) (_ : b.length ≤ cb) (_ : cb ≤ maxLen) (hB : Lies w B (cells b)) (zb : cb ≤ reachBytes) (C : Option Addr) (cc : Nat) (c : List UInt8) (_ : c.length ≤ cc) (_ : cc ≤ maxLen) (hC : Lies w C (cells c)) (zc : cc ≤ reachBytes) :
    Calls Tryd.prog 4 #[.slice A a.length ca, .slice B b.length cb, .slice C c.length cc] w fun e w' => e = .returned (.bool true) ∧ Below w.heap.size w w' := by
  obtain ⟨i0, hi, hz0, hz1, hz2⟩ := info_parts infoU8
  have HT := Lib.hid hT
  clear hT
  unfold reachBytes at za zb zc
  by_cases h9 : 9000 < a.length + b.length + c.length
  · go_enter Tryd.func4, Tryd.ntmps4
    go_wp2_with fail
    refine (head_any _ HT.out).mono ?_
    rintro e w1 ⟨rfl, hb1⟩
    go_wp2
    go_ret
    exact ⟨rfl, hb1⟩
  · have hal : a.length ≤ 9000 := by omega
    have hbl : b.length ≤ 9000 := by omega
    have hcl : c.length ≤ 9000 := by omega
    have HF := Lib.hid (show ((Crc.more (BitVec.ofNat 32 (Crc.of a).toNat) b).toNat : Int) = (Crc.of (a ++ b)).toNat ∧ ((Crc.more (BitVec.ofNat 32 (Crc.of (a ++ b)).toNat) c).toNat : Int) = (Crc.of (a ++ b ++ c)).toNat by
      rw [ofNat_of, ofNat_of]; unfold Crc.of; rw [Crc.more_append (0#32) (a ++ b) c, Crc.more_append (0#32) a b]; exact ⟨rfl, rfl⟩)
    have hs1 := (Crc.of a).isLt
    have hs2 := (Crc.of (a ++ b)).isLt
    have HS1 := Lib.hid (rfl : ((Crc.of a).toNat : Int) = (Crc.of a).toNat)
    have HS2 := Lib.hid (rfl : ((Crc.of (a ++ b)).toNat : Int) = (Crc.of (a ++ b)).toNat)
    have HS3 := Lib.hid (rfl : ((Crc.of (a ++ b ++ c)).toNat : Int) = (Crc.of (a ++ b ++ c)).toNat)
    generalize hq1 : (Crc.of a).toNat = s1 at *
    generalize hq2 : (Crc.of (a ++ b)).toNat = s2 at *
    generalize hq3 : (Crc.of (a ++ b ++ c)).toNat = s3 at *
    have Q1 := Lib.hid hq1
    have Q2 := Lib.hid hq2
    have Q3 := Lib.hid hq3
    clear hq1 hq2 hq3 HS1 HS2 HS3
    go_enter Tryd.func4, Tryd.ntmps4
    go_wp2_with fail
    refine (head_any _ HT.out).mono ?_
    rintro e w1 ⟨rfl, hb1⟩
    have T1 := Lib.hid (HT.out.below hb1 (Nat.le_refl _))
    have hA1 := Lib.hid (hA.below hb1)
    have hB1 := Lib.hid (hB.below hb1)
    have hC1 := Lib.hid (hC.below hb1)
    clear hA hB hC
    go_wp2_with (at_builtin; refine wpList_app rfl _ _ 23 rfl w1.heap.size 5 i0 (.int .u8 0) Tryd.underlying23 hi hz0 hz1 hz2 rfl (.slice (some ⟨w1.heap.size, 0, none⟩) 0 0) 0 [] rfl ?a1 A a.length ca (cells a) rfl ?a2 ?a3 (cells_one a) ?a4 ?a5 ?a6)
    case a1 => exact World.ownsRow_lit w1 #[] 0 (Nat.le_refl _) (by unfold maxLen; omega) rfl
    case a2 => exact cells_length a
    case a3 => exact hA1.out.keep (by simp) fun p hp => World.cell?_alloc_lt w1 _ p hp
    case a4 => omega
    case a5 => simp
    case a6 =>
      intro v1 w2 hown1 hg1 hat1
      have b2 : Below w1.heap.size w1 w2 := ((Below.refl _ _).alloc (Nat.le_refl _) _).grown hg1 (by simp) (fun g hg => by simp [Value.ownBlock] at hg; omega)
      have HO1 := Lib.hid hown1
      clear hown1 hg1 hat1
      go_wp2_with (at_builtin; refine wpList_app rfl _ _ 23 rfl w1.heap.size 5 i0 (.int .u8 0) Tryd.underlying23 hi hz0 hz1 hz2 rfl v1 a.length (cells a) rfl ?b1 B b.length cb (cells b) rfl ?b2 ?b3 (cells_one b) ?b4 ?b5 ?b6)
      case b1 => exact HO1.out
      case b2 => exact cells_length b
      case b3 => exact hB1.out.below b2
      case b4 => omega
      case b5 => exact b2.size
      case b6 =>
        intro v2 w3 hown2 hg2 hat2
        have b3 : Below w1.heap.size w1 w3 := b2.grown hg2 b2.size (fun g hg => (HO1.out.lt g hg).1)
        rw [← cells_append] at hown2
        have HO2 := Lib.hid hown2
        clear hown2 hg2 hat2
        go_wp2_with (at_builtin; refine wpList_app rfl _ _ 23 rfl w1.heap.size 5 i0 (.int .u8 0) Tryd.underlying23 hi hz0 hz1 hz2 rfl v2 (a.length + b.length) (cells (a ++ b)) rfl ?c1 C c.length cc (cells c) rfl ?c2 ?c3 (cells_one c) ?c4 ?c5 ?c6)
        case c1 => exact HO2.out
        case c2 => exact cells_length c
        case c3 => exact hC1.out.below b3
        case c4 => omega
        case c5 => exact b3.size
        case c6 =>
          intro v3 w4 hown3 hg3 hat3
          have b4 : Below w1.heap.size w1 w4 := b3.grown hg3 b3.size (fun g hg => (HO2.out.lt g hg).1)
          rw [← cells_append] at hown3
          obtain ⟨A4, c4, rfl, hn4, hm4, hl4, hA4⟩ := own_form hown3
          have HL4 := Lib.hid hl4
          have HA4 := Lib.hid hA4
          clear hown3 hg3 hat3 hl4 hA4
          have T4 := Lib.hid (T1.out.below b4 (Nat.le_refl _))
          have hA4' := Lib.hid (hA1.out.below b4)
          have hB4' := Lib.hid (hB1.out.below b4)
          have hC4' := Lib.hid (hC1.out.below b4)
          go_wp2_with fail
          refine (of_is A4 c4 _ (a ++ b ++ c) s3 w4 (by rw [List.length_append, List.length_append]) (by omega) (by rw [Q3.out]) HA4.out T4.out).mono ?_
          rintro e w' ⟨rfl, rfl⟩
          go_wp2_with fail
          refine (of_is A ca _ a s1 w4 rfl (by omega) (by rw [Q1.out]) hA4'.out T4.out).mono ?_
          rintro e w' ⟨rfl, rfl⟩
          go_wp2_with fail
          refine (more_is s1 hs1 B cb _ b s2 w4 rfl (by omega) HF.out.1 hB4'.out T4.out).mono ?_
          rintro e w' ⟨rfl, rfl⟩
          go_wp2_with fail
          refine (more_is s2 hs2 C cc _ c s3 w4 rfl (by omega) HF.out.2 hC4'.out T4.out).mono ?_
          rintro e w' ⟨rfl, rfl⟩
          go_wp2_with fail
          refine (of_is A4 c4 _ (a ++ b ++ c) s3 w4 (by rw [List.length_append, List.length_append]) (by omega) (by rw [Q3.out]) HA4.out T4.out).mono ?_
          rintro e w' ⟨rfl, rfl⟩
          go_wp2_with (at_builtin; refine wpList_appG rfl _ _ 23 rfl w4.heap.size 5 i0 (.int .u8 0) Tryd.underlying23 hi hz0 hz1 hz2 rfl (.slice (some ⟨w4.heap.size, 0, none⟩) 0 0) 0 [] rfl ?d1 A a.length ca (cells a) rfl ?d2 ?d3 (cells_one a) ?d4 ?d5 ?d6)
          case d1 => exact World.ownsRow_lit w4 #[] 0 (Nat.le_refl _) (by unfold maxLen; omega) rfl
          case d2 => exact cells_length a
          case d3 => exact hA4'.out.keep (by simp) fun p hp => World.cell?_alloc_lt w4 _ p hp
          case d4 => omega
          case d5 => simp
          case d6 =>
            intro v5 w5 hown5 hg5 hat5
            have b5 : Below w4.heap.size w4 w5 := ((Below.refl _ _).alloc (Nat.le_refl _) _).grown hg5 (by simp) (fun g hg => by simp [Value.ownBlock] at hg; omega)
            have HO5 := Lib.hid hown5
            clear hown5 hg5 hat5
            go_wp2_with (at_builtin; refine wpList_appG rfl _ _ 23 rfl w4.heap.size 5 i0 (.int .u8 0) Tryd.underlying23 hi hz0 hz1 hz2 rfl v5 a.length (cells a) rfl ?e1 B b.length cb (cells b) rfl ?e2 ?e3 (cells_one b) ?e4 ?e5 ?e6)
            case e1 => exact HO5.out
            case e2 => exact cells_length b
            case e3 => exact hB4'.out.below b5
            case e4 => omega
            case e5 => exact b5.size
            case e6 =>
              intro v6 w6 hown6 hg6 hat6
              have b6 : Below w4.heap.size w4 w6 := b5.grown hg6 b5.size (fun g hg => (HO5.out.lt g hg).1)
              rw [← cells_append] at hown6
              obtain ⟨A6, c6, rfl, hn6, hm6, hl6, hA6⟩ := own_form hown6
              have HA6 := Lib.hid hA6
              have T6 := Lib.hid (T4.out.below b6 (Nat.le_refl _))
              clear hown6 hg6 hat6 hl6 hA6
              go_wp2_with fail
              refine (of_is A6 c6 _ (a ++ b) s2 w6 (by rw [List.length_append]) (by omega) (by rw [Q2.out]) HA6.out T6.out).mono ?_
              rintro e w' ⟨rfl, rfl⟩
              go_wp2_with fail
              refine (more_is s2 hs2 C cc _ c s3 w6 rfl (by omega) HF.out.2 (hC4'.out.below b6) T6.out).mono ?_
              rintro e w' ⟨rfl, rfl⟩
              go_wp2
              go_ret
              exact ⟨rfl, hb1.trans ((b4.trans (b6.mono b4.size)).mono hb1.size)⟩

set_option maxRecDepth 100000 in
theorem lifted (os : Os) (started : os.Started) (H : Type) (enc : TypeId × Value → H) :
    ReturnsInHanded {} Tryd.checked os 4 .any (fun w args => (Rows.crcPartsSpec.pre enc Tryd.prog Tryd.f4 [] false w args ∧ laidMetH Tryd.prog laidHere w) ∧ sizedMet enc Tryd.prog Tryd.f4 (OpenSpec.ofChange Rows.crcPartsSpec) false w args) (Rows.crcPartsSpec.post enc Tryd.prog Tryd.f4 false true false false) := by
  refine returnsInHanded_of_change_and (C := Tryd.checked) (X := fun w _ => laidMetH Tryd.prog laidHere w) (fun _ _ _ hh h => h.of_heap hh) own started (by kernel_rfl) Tryd.func4
    (ChangeSpec.witness_shaped (enc := enc) (C := Tryd.checked) (os := os) (X := fun w _ => laidMetH Tryd.prog laidHere w) false (World.doorLaid Tryd.prog doorSteps os) #[.slice none 0 0, .slice none 0 0, .slice none 0 0] 8 rfl (World.shaped_of_RefB (by kernel_rfl) (by kernel_rfl)) (by kernel_rfl) (by kernel_rfl) (by kernel_rfl) (door_met os _)) ?_
  intro W base args ds gs before hval0 hW _ hsz0 hL _
  have hval : ∀ (j : Nat) t v, Tryd.f4.params[j]? = some t → args[j]? = some v → Value.okWide Tryd.prog W .any base t v := hval0
  have hfin := fun W' => law_post (enc := enc) (P := Tryd.prog) (f := Tryd.f4) (s := Rows.crcPartsSpec) (tb := 4) (W := W) (W' := W') (args := args) (ds := ds) (gs := gs) (before := before) laidOut rfl (by kernel_rfl) Tryd.underlying4 (by kernel_rfl) (fun xs h => by rw [Tryd.params4] at h; match xs, h with | [_, _, _], _ => rfl) hW
  have hlt : ∀ x ∈ before, x.block < W.heap.size := fun x hx => hW.lt x hx
  obtain ⟨p, q, hA0, hV, rfl, hfz, hnd⟩ := hW
  have hA : DataW.TrodAll enc Tryd.prog W 0 (fun _ => true) true Tryd.f4.params.toList args.toList ds p := hA0
  have hsz : (DataW.weightsEach Tryd.prog (Tryd.f4.params.toList ++ Rows.crcPartsSpec.plain.varTypes Tryd.prog) (ds ++ gs)).all (· ≤ reachBytes) = true := hsz0
  rw [Tryd.params4] at hA hval hsz
  obtain ⟨v0, vs0, d0, ds0, p0, q0, hargs, rfl, rfl, h0, r0⟩ := trodAll_cons hA
  obtain ⟨v1, vs1, d1, ds1, p1, q1, rfl, rfl, rfl, h1, r1⟩ := trodAll_cons r0
  obtain ⟨v2, vs2, d2, ds2, p2, q2, rfl, rfl, rfl, h2, r2⟩ := trodAll_cons r1
  obtain ⟨rfl, rfl, rfl⟩ := trodAll_nil r2
  obtain rfl : args = #[v0, v1, v2] := by cases args; simp_all
  obtain ⟨A0, cap0, b0, rfl, hl0, hm0, hB0⟩ := open_bytes (hval 0 23 v0 rfl rfl) h0 (fun x hx => hlt x (by simp [hx]))
  have z0 := cap_sized h0 reachBytes fun el sp e => sized_slice hsz (j := 0) (t := 23) (e := 5) rfl (by rw [e]; rfl) Tryd.underlying23
  obtain ⟨A1, cap1, b1, rfl, hl1, hm1, hB1⟩ := open_bytes (hval 1 23 v1 rfl rfl) h1 (fun x hx => hlt x (by simp [hx]))
  have z1 := cap_sized h1 reachBytes fun el sp e => sized_slice hsz (j := 1) (t := 23) (e := 5) rfl (by rw [e]; rfl) Tryd.underlying23
  obtain ⟨A2, cap2, b2, rfl, hl2, hm2, hB2⟩ := open_bytes (hval 2 23 v2 rfl rfl) h2 (fun x hx => hlt x (by simp [hx]))
  have z2 := cap_sized h2 reachBytes fun el sp e => sized_slice hsz (j := 2) (t := 23) (e := 5) rfl (by rw [e]; rfl) Tryd.underlying23
  refine (walk W (of_laid hL) A0 cap0 b0 hl0 hm0 hB0 z0 A1 cap1 b1 hl1 hm1 hB1 z1 A2 cap2 b2 hl2 hm2 hB2 z2).mono fun e W' ⟨he, hg⟩ => ?_
  subst he
  exact ⟨_, rfl, hfin W' hg⟩

theorem proved : Rows.CrcPartsSaid :=
  OpenClaim.holds_of_wide 4 Tryd.f4 rfl rfl rfl rfl rfl rfl rfl ⟨rfl, rfl, rfl, rfl, rfl⟩ rfl rfl rfl rfl rfl (by kernel_rfl) Tryd.func4 (by kernel_rfl)
    (of_decide_eq_true (by kernel_rfl)) (by unfold Func.isWrapper; first | (rw [if_pos (by decide +kernel)]; kernel_rfl) | (rw [if_neg (by decide +kernel)]; exact ⟨rfl, rfl⟩))
    (fun os started H enc _ => lifted os started H enc)

set_option maxRecDepth 100000 in
theorem card : Rows.CrcPartsCardSaid :=
  Claim7.holds_tied_plain_at .later [] laidKindsHere true _ false
    proved (fun _ h => by cases h) (by kernel_rfl) (fun _ h => by cases h) crcParts_row_tie rfl ⟨rfl, rfl⟩ (by kernel_rfl) rfl
    (fun f fn hf hfn => by
      obtain rfl : f = 4 := Option.some.inj ((show Tryd.prog.funcNamed "turntable/turntablelaw02.CrcParts" = some 4 by kernel_rfl).symm.trans hf) |>.symm
      obtain rfl : fn = Tryd.f4 := (Option.some.inj (Tryd.func4.symm.trans hfn)).symm
      exact ⟨by kernel_rfl, fun j t ht => by
        rw [Tryd.params4] at ht
        have hm : t ∈ [23] := by simpa using Array.mem_of_getElem? ht
        have hall : ([23].all fun u => !Tryd.prog.wantsStandIn u) = true := by kernel_rfl
        exact (show Tryd.prog.wantsStandIn t = false by simpa using List.all_eq_true.1 hall t hm)⟩)
    (by kernel_rfl)
#print axioms card
end Go.Proofs.YtnhlfmpfbfjohaaDoor.crcParts
