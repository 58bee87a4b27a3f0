/-
  P2.1, CrcBack: for all bytes the law returns true: what is sealed is opened as it was; what any bytes open to, sealed, is they; what is handed out is one's own. No condition but that the program's table starts as its text lays it.
-/
import Derived.Test.YtnhlfmpfbfjohaaDoorHead2
import Derived.Test.YtnhlfmpfbfjohaaDoorLaid2
namespace Go.Proofs.YtnhlfmpfbfjohaaDoor.crcBack
open Go.ChangeShapes Go.WideShapes Go.ChangeAt Go.RowKit

set_option maxHeartbeats 2000000 in
set_option maxRecDepth 100000 in
theorem walkN (w : World) (hT : Tab w) (A : Option Addr) (cap n : Nat) (bs : List UInt8) (hn : bs.length = n) (hl : n ≤ cap) (hA : Lies w A (cells bs)) :
    Calls Tryd.prog 7 #[.slice A n cap] w fun e w' => e = .returned (.bool true) ∧ Below w.heap.size w w' := by
  have HT := Lib.hid hT
  clear hT
  by_cases h9 : 9000 < n
  · clear hn
    go_enter Tryd.func7, Tryd.ntmps7
    go_wp2_with fail
    refine (head_any _ HT.out).mono ?_
    rintro e w1 ⟨rfl, hb1⟩
    go_wp2
    go_ret
    exact ⟨rfl, hb1⟩
  · have HSL := Lib.hid (show (Crc.sealed bs).length = n + 4 by rw [Crc.sealed_length, hn])
    have HOP := Lib.hid (Crc.opens_sealed bs).1
    have HTK := Lib.hid (show (Crc.sealed bs).take n = bs by have := (Crc.opens_sealed bs).2; rw [Crc.sealed_length, Nat.add_sub_cancel, hn] at this; exact this)
    have HCV := Lib.hid (fun (u : World) (h : Lies u A (cells bs)) => conv_str (P := Tryd.prog) (c := cap) h 23 5 Tryd.underlying23 Tryd.underlying5 9 Tryd.underlying9)
    rw [hn] at HCV
    have HOB := Lib.hid (show Crc.opens bs → ∃ m, n = m + 4 ∧ Crc.sealed (bs.take m) = bs from fun h => ⟨n - 4, by have := h.1; omega, by rw [← hn]; exact h.2.symm⟩)
    have HN := Lib.hid hn
    clear hn
    generalize hqs : str bs = S at *
    have HQS := Lib.hid hqs
    clear hqs
    go_enter Tryd.func7, Tryd.ntmps7
    go_wp2_with fail
    refine (head_any _ HT.out).mono ?_
    rintro e w1 ⟨rfl, hb1⟩
    have T1 := Lib.hid (HT.out.below hb1 (Nat.le_refl _))
    have A1 := Lib.hid (hA.below hb1)
    clear hA
    have hc1 := HCV.out w1 A1.out
    go_wp2_with fail
    refine (seal_is A cap n bs w1 HN.out (by omega) A1.out T1.out).mono ?_
    rintro e w2 ⟨g2, c2, rfl, hk2, hm2, ho2, b2⟩
    clear hc1
    have HO2 := Lib.hid ho2
    have T2 := Lib.hid (T1.out.below b2 (Nat.le_refl _))
    have A2 := Lib.hid (A1.out.below b2)
    clear ho2
    go_wp2_with fail
    refine (open_yes _ c2 n (Crc.sealed bs) w2 HSL.out (by omega) hk2 (Lies.own HO2.out) T2.out HOP.out).mono ?_
    rintro e w3 ⟨g3, c3, rfl, ho3, b3⟩
    have hc3 := conv_open ho3
    rw [HTK.out, HQS.out] at hc3
    have HO3 := Lib.hid ho3
    clear ho3
    go_wp2
    clear hc3
    go_loopw [8] (fun vi wr => ∃ (k : Nat) (X : List UInt8), vi = .int .i64 k ∧ k ≤ n ∧ wr.ownsRow w2.heap.size 5 1 (.slice (some ⟨g3, 0, none⟩) (n + 4) c3) (n + 4) (cells X) ∧ Below w2.heap.size w2 wr) (fun vi _ => n - (intOf vi).toNat)
    case atStart => exact ⟨0, _, rfl, by omega, HO3.out, b3⟩
    case round =>
      obtain ⟨k, X, rfl, hk, hown, hbr⟩ := hrel
      have HBG := Lib.hid (show w2.heap.size ≤ g3 from (hown.lt g3 rfl).1)
      by_cases hkn : k < n
      · have hfz := hown.frozenAt k
        have hcc := hown.cellAt k (by omega)
        have hXl : X.length = n + 4 := by have := hown.1; rw [cells_length] at this; omega
        rw [List.getElem?_eq_getElem (by rw [cells_length]; omega), cells_at X k (by omega)] at hcc
        have HOW := Lib.hid hown
        generalize X[k] = cv at hcc
        have hxb := cv.toNat_lt
        have HST := Lib.hid (fun (v : Int) (hv : v = ((cv + 1).toNat : Int)) => (cells_set [] X k (cv + 1) v hv))
        have HAD := Lib.hid (show (((cv.toNat + 1) % 256 : Nat) : Int) = ((cv + 1).toNat : Int) by rw [UInt8.toNat_add]; rfl)
        generalize hq : cv.toNat = x at *
        clear hown hXl hq
        go_wp2
        go_roundw
        case rel =>
          have h2 := (HOW.out.stored k (.int .u8 (((x : Int) + 1) % 256))).1
          have e := HST.out (((x : Int) + 1) % 256) (by rw [← HAD.out]; omega)
          rw [List.nil_append, List.length_nil, Nat.zero_add, List.nil_append] at e
          rw [e] at h2
          exact ⟨k + 1, _, by go_num, by omega, h2, hbr.setCell (p := ⟨g3, k, none⟩) HBG.out _⟩
        case measure => simp [intOf]; omega
      · obtain rfl : k = n := by omega
        have T4 := Lib.hid (T2.out.below hbr (Nat.le_refl _))
        have A4 := Lib.hid (A2.out.below hbr)
        have HO4 := Lib.hid (own_keep HO2.out hbr)
        clear hown
        go_wp2_with fail
        refine (open_yes _ c2 k (Crc.sealed bs) wr HSL.out (by omega) hk2 (Lies.own HO4.out) T4.out HOP.out).mono ?_
        rintro e w5 ⟨g5, c5, rfl, ho5, b5⟩
        have HO5 := Lib.hid ho5
        have T5 := Lib.hid (T4.out.below b5 (Nat.le_refl _))
        have A5 := Lib.hid (A4.out.below b5)
        clear ho5
        have HB5 := Lib.hid (show Below w.heap.size w w5 by
          have s1 := hb1.size; have s2 := b2.size; have s3 := hbr.size
          exact hb1.trans ((b2.mono (by omega)).trans ((hbr.mono (by omega)).trans (b5.mono (by omega)))))
        by_cases hop : Crc.opens bs
        · obtain ⟨m, rfl, hse⟩ := HOB.out hop
          have HSE := Lib.hid hse
          clear hse
          go_wp2_with fail
          refine (open_yes A cap m bs w5 HN.out (by omega) hl A5.out T5.out hop).mono ?_
          rintro e w6 ⟨g6, c6, rfl, ho6, b6⟩
          have HO6 := Lib.hid ho6
          clear ho6
          have T6 := Lib.hid (T5.out.below b6 (Nat.le_refl _))
          have hcb := HCV.out w6 (A5.out.below b6)
          have hcz := conv_open (own_keep HO5.out b6)
          rw [HTK.out, HQS.out] at hcz
          go_wp2_with fail
          refine (seal_is _ m m (bs.take m) w6 (by rw [List.length_take, HN.out]; omega) (by omega) (by have := (Lies.own HO6.out).take m; rwa [cells_take] at this) T6.out).mono ?_
          rintro e w7 ⟨g7, c7, rfl, hk7, hm7, ho7, b7⟩
          rw [HSE.out] at ho7
          have hcs := conv_own ho7
          rw [HQS.out] at hcs
          clear ho7 hcb hcz
          go_wp2
          go_ret
          have s5 := HB5.out.size; have s6 := b6.size
          exact ⟨rfl, HB5.out.trans ((b6.mono (by omega)).trans (b7.mono (by omega)))⟩
        · go_wp2_with fail
          refine (open_no A cap k bs w5 HN.out (by omega) hl A5.out T5.out hop).mono ?_
          rintro e w6 ⟨rfl, b6⟩
          have hcb := HCV.out w6 (A5.out.below b6)
          have hcz := conv_open (own_keep HO5.out b6)
          rw [HTK.out, HQS.out] at hcz
          go_wp2
          go_ret
          exact ⟨rfl, HB5.out.trans (b6.mono HB5.out.size)⟩

theorem walk (w : World) (hT : Tab w) (A : Option Addr) (cap : Nat) (bs : List UInt8) (hl : bs.length ≤ cap) (_ : cap ≤ maxLen) (hA : Lies w A (cells bs)) :
    Calls Tryd.prog 7 #[.slice A bs.length cap] w fun e w' => e = .returned (.bool true) ∧ Below w.heap.size w w' := walkN w hT A cap bs.length bs rfl hl hA

set_option maxRecDepth 100000 in
theorem lifted (os : Os) (started : os.Started) (H : Type) (enc : TypeId × Value → H) :
    ReturnsInHanded {} Tryd.checked os 7 .any (fun w args => (Rows.crcBackSpec.pre enc Tryd.prog Tryd.f7 [] false w args ∧ laidMetH Tryd.prog laidHere w) ∧ sizedMet enc Tryd.prog Tryd.f7 (OpenSpec.ofChange Rows.crcBackSpec) false w args) (Rows.crcBackSpec.post enc Tryd.prog Tryd.f7 false true false false) := by
  refine returnsInHanded_of_change_and (C := Tryd.checked) (X := fun w _ => laidMetH Tryd.prog laidHere w) (fun _ _ _ hh h => h.of_heap hh) own started (by kernel_rfl) Tryd.func7
    (ChangeSpec.witness_shaped (enc := enc) (C := Tryd.checked) (os := os) (X := fun w _ => laidMetH Tryd.prog laidHere w) false (World.doorLaid Tryd.prog doorSteps os) #[.slice none 0 0] 8 rfl (World.shaped_of_RefB (by kernel_rfl) (by kernel_rfl)) (by kernel_rfl) (by kernel_rfl) (by kernel_rfl) (door_met os _)) ?_
  intro W base args ds gs before hval0 hW _ _ hL _
  have hval : ∀ (j : Nat) t v, Tryd.f7.params[j]? = some t → args[j]? = some v → Value.okWide Tryd.prog W .any base t v := hval0
  have hfin := fun W' => law_post (enc := enc) (P := Tryd.prog) (f := Tryd.f7) (s := Rows.crcBackSpec) (tb := 4) (W := W) (W' := W') (args := args) (ds := ds) (gs := gs) (before := before) laidOut rfl (by kernel_rfl) Tryd.underlying4 (by kernel_rfl) (fun xs h => by rw [Tryd.params7] at h; match xs, h with | [_], _ => rfl) hW
  have hlt : ∀ x ∈ before, x.block < W.heap.size := fun x hx => hW.lt x hx
  obtain ⟨p, q, hA0, hV, rfl, hfz, hnd⟩ := hW
  have hA : DataW.TrodAll enc Tryd.prog W 0 (fun _ => true) true Tryd.f7.params.toList args.toList ds p := hA0
  rw [Tryd.params7] at hA hval
  obtain ⟨v0, vs0, d0, ds0, p0, q0, hargs, rfl, rfl, h0, r0⟩ := trodAll_cons hA
  obtain ⟨rfl, rfl, rfl⟩ := trodAll_nil r0
  obtain rfl : args = #[v0] := by cases args; simp_all
  obtain ⟨A0, cap0, b0, rfl, hl0, hm0, hB0⟩ := open_bytes (hval 0 23 v0 rfl rfl) h0 (fun x hx => hlt x (by simp [hx]))
  refine (walk W (of_laid hL) A0 cap0 b0 hl0 hm0 hB0).mono fun e W' ⟨he, hg⟩ => ?_
  subst he
  exact ⟨_, rfl, hfin W' hg⟩

theorem proved : Rows.CrcBackSaid :=
  OpenClaim.holds_of_wide 7 Tryd.f7 rfl rfl rfl rfl rfl rfl rfl ⟨rfl, rfl, rfl, rfl, rfl⟩ rfl rfl rfl rfl rfl (by kernel_rfl) Tryd.func7 (by kernel_rfl)
    (of_decide_eq_true (by kernel_rfl)) (by unfold Func.isWrapper; first | (rw [if_pos (by decide +kernel)]; kernel_rfl) | (rw [if_neg (by decide +kernel)]; exact ⟨rfl, rfl⟩))
    (fun os started H enc _ => lifted os started H enc)

set_option maxRecDepth 100000 in
theorem card : Rows.CrcBackCardSaid :=
  Claim7.holds_tied_plain_at .later [] laidKindsHere true _ false
    proved (fun _ h => by cases h) (by kernel_rfl) (fun _ h => by cases h) crcBack_row_tie rfl ⟨rfl, rfl⟩ (by kernel_rfl) rfl
    (fun f fn hf hfn => by
      obtain rfl : f = 7 := Option.some.inj ((show Tryd.prog.funcNamed "turntable/turntablelaw02.CrcBack" = some 7 by kernel_rfl).symm.trans hf) |>.symm
      obtain rfl : fn = Tryd.f7 := (Option.some.inj (Tryd.func7.symm.trans hfn)).symm
      exact ⟨by kernel_rfl, fun j t ht => by
        rw [Tryd.params7] at ht
        have hm : t ∈ [23] := by simpa using Array.mem_of_getElem? ht
        have hall : ([23].all fun u => !Tryd.prog.wantsStandIn u) = true := by kernel_rfl
        exact (show Tryd.prog.wantsStandIn t = false by simpa using List.all_eq_true.1 hall t hm)⟩)
    (by kernel_rfl)
#print axioms card
end Go.Proofs.YtnhlfmpfbfjohaaDoor.crcBack
