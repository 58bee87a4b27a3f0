/-
  P2.3, CrcBursts: for all bytes, places and bits the law returns true: what is sealed, and of which bits have turned within 32 that stand together, one at least, is not opened, wherever they stand. No condition but that the program's table starts as its text lays it.
-/
import Derived.Test.YtnhlfmpfbfjohaaDoorHead2
import Derived.Test.YtnhlfmpfbfjohaaDoorLaid2
import Derived.BigRegion
namespace Go.Proofs.YtnhlfmpfbfjohaaDoor.crcBursts
open Go.ChangeShapes Go.WideShapes Go.ChangeAt Go.RowKit

/-- X is s with the first i of the bits x turned, from bit k on -/
def Turned (s X : List UInt8) (k x i : Nat) : Prop :=
  X.length = s.length ∧ (x = 0 → X = s) ∧ ∀ j (h : j / 8 < X.length) (h' : j / 8 < s.length), X[j / 8].toNat.testBit (j % 8) = (s[j / 8].toNat.testBit (j % 8) ^^ (decide (k ≤ j ∧ j < k + i) && x.testBit (j - k)))
theorem Turned.start (s : List UInt8) (k x : Nat) : Turned s s k x 0 := ⟨rfl, fun _ => rfl, fun j h h' => by
  have : decide (k ≤ j ∧ j < k + 0) = false := by simp
  rw [this]; simp⟩
theorem Turned.skip {s X : List UInt8} {k x i : Nat} (h : Turned s X k x i) (hb : x.testBit i = false) : Turned s X k x (i + 1) := by
  refine ⟨h.1, h.2.1, fun j h1 h2 => ?_⟩
  rw [h.2.2 j h1 h2]
  congr 1
  by_cases hj : j = k + i
  · subst hj
    rw [show k + i - k = i by omega, hb]; simp
  · congr 2
    simp only [eq_iff_iff]; omega
theorem Turned.turn {s X : List UInt8} {k x i q e : Nat} (h : Turned s X k x i) (hb : x.testBit i = true) (hq : (k + i) / 8 = q) (he : (k + i) % 8 = e) (hx : q < X.length) (c : UInt8) (hc : c.toNat = X[q].toNat ^^^ 2 ^ e) : Turned s (X.set q c) k x (i + 1) := by
  refine ⟨by rw [List.length_set]; exact h.1, fun h0 => by rw [h0] at hb; simp at hb, fun j h1 h2 => ?_⟩
  rw [List.length_set] at h1
  rw [List.getElem_set]
  by_cases hj : j = k + i
  · subst hj
    rw [if_pos hq.symm, hc, Nat.testBit_xor, he, Nat.testBit_two_pow_self]
    have h3 := h.2.2 (k + i) h1 h2
    rw [he] at h3
    have e0 : decide (k ≤ k + i ∧ k + i < k + i) = false := by simp
    have e1 : decide (k ≤ k + i ∧ k + i < k + (i + 1)) = true := by simp
    rw [e0, Bool.false_and, Bool.xor_false] at h3
    rw [e1, show k + i - k = i by omega, hb, ← h3]
    simp only [hq, Bool.true_and]
  · have e1 : decide (k ≤ j ∧ j < k + (i + 1)) = decide (k ≤ j ∧ j < k + i) := by
      congr 1
      simp only [eq_iff_iff]; omega
    rw [e1, ← h.2.2 j h1 h2]
    by_cases hjq : q = j / 8
    · rw [if_pos hjq, hc, Nat.testBit_xor, Nat.testBit_two_pow_of_ne (by omega)]
      simp only [hjq, Bool.xor_false]
    · rw [if_neg hjq]
theorem Turned.told {b X : List UInt8} {k x : Nat} (h : Turned (Crc.sealed b) X k x 32) (hk : k + 32 ≤ 8 * (b.length + 4)) (hx : x < 4294967296) (h0 : x ≠ 0) : ¬ Crc.opens X := by
  have hl : X.length = b.length + 4 := by rw [h.1, Crc.sealed_length]
  refine Crc.burst b X k (BitVec.ofNat 32 x) h.1 (by omega) (fun e => h0 ?_) ?_
  · have := congrArg BitVec.toNat e
    rw [BitVec.toNat_ofNat, Nat.mod_eq_of_lt hx] at this
    simpa using this
  · intro i p q hp hq
    have hi : i < (Crc.bitsOf X).length := by
      rcases Nat.lt_or_ge i (Crc.bitsOf X).length with h | h
      · exact h
      · rw [List.getElem?_eq_none h] at hp; cases hp
    rw [Crc.bitsOf_length] at hi
    have h1 : i / 8 < X.length := by omega
    have h2 : i / 8 < (Crc.sealed b).length := by rw [← h.1]; exact h1
    rw [Crc.bitsOf_at X i h1] at hp
    rw [Crc.bitsOf_at _ i h2] at hq
    have h3 := h.2.2 i h1 h2
    rw [Option.some.inj hp, Option.some.inj hq] at h3
    rw [h3, BitVec.getLsbD_ofNat]
    congr 1
    by_cases hki : k ≤ i
    · by_cases h32 : i < k + 32
      · simp [hki, h32]; omega
      · have : x.testBit (i - k) = false := Nat.testBit_lt_two_pow (Nat.lt_of_lt_of_le hx (by
          have : 2 ^ 32 ≤ 2 ^ (i - k) := Nat.pow_le_pow_right (by omega) (by omega)
          omega))
        simp [this]
    · simp [hki]

theorem bit_at (x i : Nat) : ((x : Int) / 2 ^ i).tmod 2 = ((x / 2 ^ i % 2 : Nat) : Int) := by
  have h : (x : Int) / 2 ^ i = ((x / 2 ^ i : Nat) : Int) := by rw [Int.natCast_ediv, Int.natCast_pow]; rfl
  rw [h]
  generalize x / 2 ^ i = y
  rw [Int.tmod_eq_emod_of_nonneg (by omega)]; omega
theorem bit_yes {x i : Nat} (h : x.testBit i = true) : (((x : Int) / 2 ^ i).tmod 2 == 1) = true := by
  rw [Nat.testBit_eq_decide_div_mod_eq] at h
  have h1 : x / 2 ^ i % 2 = 1 := by simpa using h
  rw [bit_at, h1]; rfl
theorem bit_no {x i : Nat} (h : x.testBit i = false) : (((x : Int) / 2 ^ i).tmod 2 == 1) = false := by
  rw [Nat.testBit_eq_decide_div_mod_eq] at h
  have h1 : x / 2 ^ i % 2 = 0 := by have : ¬ x / 2 ^ i % 2 = 1 := by simpa using h
                                    omega
  rw [bit_at, h1]; rfl
/-- one bit of a byte, turned -/
theorem byte_turn (c : UInt8) (e : Nat) (he : e < 8) : ∃ y : Nat, bits .xor .u8 (c.toNat : Int) (2 ^ e % 256) = (y : Int) ∧ y < 256 ∧ y = c.toNat ^^^ 2 ^ e := by
  have h1 : 2 ^ e < 256 := Nat.pow_lt_pow_right (a := 2) (n := 8) (by omega) he
  have h2 : ((2 : Int) ^ e % 256) = ((2 ^ e : Nat) : Int) := by
    have : ((2 ^ e : Nat) : Int) = (2 : Int) ^ e := by rw [Int.natCast_pow]; rfl
    rw [← this]
    exact Int.emod_eq_of_lt (Int.natCast_nonneg _) (Int.ofNat_lt.2 h1)
  have hc := c.toNat_lt
  refine ⟨c.toNat ^^^ 2 ^ e, ?_, Nat.xor_lt_two_pow (n := 8) (by omega) (by omega), rfl⟩
  rw [h2, u8_xor_nat _ _ (by omega) h1]

set_option maxHeartbeats 2000000 in
set_option maxRecDepth 100000 in
theorem walkN (w : World) (hT : Tab w) (A : Option Addr) (cap n : Nat) (bs : List UInt8) (hn : bs.length = n) (hA : Lies w A (cells bs)) (at_ : Nat) (hat : at_ < 65536) (x : Nat) (hx : x < 4294967296) :
    Calls Tryd.prog 5 #[.slice A n cap, .int .u16 (at_ : Int), .int .u32 (x : Int)] w fun e w' => e = .returned (.bool true) ∧ Below w.heap.size w w' := by
  have HT := Lib.hid hT
  clear hT
  by_cases h9 : 9000 < n
  · clear hn
    go_enter Tryd.func5, Tryd.ntmps5
    go_wp2_with fail
    refine (head_any _ HT.out).mono ?_
    rintro e w1 ⟨rfl, hb1⟩
    go_wp2
    go_ret
    exact ⟨rfl, hb1⟩
  · have HSL := Lib.hid (show (Crc.sealed bs).length = n + 4 by rw [Crc.sealed_length, hn])
    have HN := Lib.hid hn
    clear hn
    go_enter Tryd.func5, Tryd.ntmps5
    go_wp2_with fail
    refine (head_any _ HT.out).mono ?_
    rintro e w1 ⟨rfl, hb1⟩
    have T1 := Lib.hid (HT.out.below hb1 (Nat.le_refl _))
    have A1 := Lib.hid (hA.below hb1)
    clear hA
    go_wp2_with fail
    refine (seal_is A cap n bs w1 HN.out (by omega) A1.out T1.out).mono ?_
    rintro e w2 ⟨g2, c2, rfl, hk2, hm2, ho2, b2⟩
    have HO2 := Lib.hid ho2
    have T2 := Lib.hid (T1.out.below b2 (Nat.le_refl _))
    have A2 := Lib.hid (A1.out.below b2)
    clear ho2
    go_wp2
    obtain ⟨K, hK, hK2⟩ : ∃ K : Nat, (at_ : Int) % (8 * ((n : Int) + 4) - 31) = (K : Int) ∧ K + 32 ≤ 8 * (n + 4) := by
      have h1 := Int.emod_nonneg (at_ : Int) (b := 8 * ((n : Int) + 4) - 31) (by omega)
      have h2 := Int.emod_lt_of_pos (at_ : Int) (b := 8 * ((n : Int) + 4) - 31) (by omega)
      obtain ⟨K, hK⟩ := Int.eq_ofNat_of_zero_le h1
      exact ⟨K, hK, by omega⟩
    rw [hK]
    clear hK hat
    go_loopw [10] (fun vi wr => ∃ (i : Nat) (X : List UInt8), vi = .int .i64 i ∧ i ≤ 32 ∧ wr.ownsRow w1.heap.size 5 1 (.slice (some ⟨g2, 0, none⟩) (n + 4) c2) (n + 4) (cells X) ∧ Below w1.heap.size w1 wr ∧ Turned (Crc.sealed bs) X K x i) (fun vi _ => 32 - (intOf vi).toNat)
    case atStart => exact ⟨0, _, rfl, by omega, HO2.out, b2, Turned.start _ _ _⟩
    case round =>
      obtain ⟨i, X, rfl, hi, hown, hbr, htu⟩ := hrel
      have HTU := Lib.hid htu
      clear htu
      by_cases h32 : i < 32
      · have HBG := Lib.hid (show w1.heap.size ≤ g2 from (hown.lt g2 rfl).1)
        by_cases hbit : x.testBit i = true
        · have hd := bit_yes hbit
          have HBIT := Lib.hid hbit
          clear hbit
          have hXl : X.length = n + 4 := by have := hown.1; rw [cells_length] at this; omega
          obtain ⟨q, hq⟩ : ∃ q, (K + i) / 8 = q := ⟨_, rfl⟩
          obtain ⟨e, he⟩ : ∃ e, (K + i) % 8 = e := ⟨_, rfl⟩
          have hqz : ((K : Int) + (i : Int)) / 8 = (q : Int) := by omega
          have hez : ((K : Int) + (i : Int)) % 8 = (e : Int) := by omega
          have hqn : q < n + 4 := by omega
          have he8 : e < 8 := by omega
          have hfz := hown.frozenAt q
          have hcc := hown.cellAt q (by omega)
          rw [List.getElem?_eq_getElem (by rw [cells_length]; omega), cells_at X q (by omega)] at hcc
          have HOW := Lib.hid hown
          obtain ⟨y, hy, hy8, hye⟩ := byte_turn (X[q]'(by omega)) e he8
          have HTN := Lib.hid (HTU.out.turn HBIT.out hq he (by omega) (UInt8.ofNat y) (by rw [← hye, UInt8.toNat_ofNat', Nat.mod_eq_of_lt (by omega)]))
          have HST := Lib.hid (cells_set [] X q (UInt8.ofNat y) (y : Int) (by rw [UInt8.toNat_ofNat', Nat.mod_eq_of_lt (by omega)]))
          clear hye
          have hcv := (X[q]'(by omega)).toNat_lt
          generalize (X[q]'(by omega)).toNat = cv at hcc hy hcv
          clear hown hXl hq he
          go_wp2
          go_region
          go_wp2
          go_roundw
          case rel =>
            have h2 := (HOW.out.stored q (.int .u8 (y : Int))).1
            have e2 := HST.out
            rw [List.nil_append, List.length_nil, Nat.zero_add, List.nil_append] at e2
            rw [e2] at h2
            exact ⟨i + 1, _, by go_num, by omega, h2.drew, (hbr.setCell (p := ⟨g2, q, none⟩) HBG.out _).drew, HTN.out⟩
          case measure => simp [intOf]; omega
        · have hbit' : x.testBit i = false := by simpa using hbit
          have hd := bit_no hbit'
          have HTN := Lib.hid (HTU.out.skip hbit')
          have HOW := Lib.hid hown
          clear hown hbit hbit'
          go_wp2
          go_roundw
          case rel => exact ⟨i + 1, X, by go_num, by omega, HOW.out, hbr, HTN.out⟩
          case measure => simp [intOf]; omega
      · obtain rfl : i = 32 := by omega
        have hXl : X.length = n + 4 := by have := hown.1; rw [cells_length] at this; omega
        have HXL := Lib.hid hXl
        have HOW := Lib.hid hown
        have T3 := Lib.hid (T1.out.below hbr (Nat.le_refl _))
        have A3 := Lib.hid (A1.out.below hbr)
        clear hown hXl
        have HB := Lib.hid (hb1.trans (hbr.mono hb1.size))
        by_cases h0 : x = 0
        · subst h0
          have hX : X = Crc.sealed bs := HTU.out.2.1 rfl
          have HTK := Lib.hid (show X.take n = bs by have := (Crc.opens_sealed bs).2; rw [Crc.sealed_length, Nat.add_sub_cancel, HN.out] at this; rw [hX]; exact this)
          have HOP := Lib.hid (show Crc.opens X by rw [hX]; exact (Crc.opens_sealed bs).1)
          clear hX
          go_wp2_with fail
          refine (open_yes _ c2 n X wr HXL.out (by omega) hk2 (Lies.own HOW.out) T3.out HOP.out).mono ?_
          rintro e w3 ⟨g3, c3, rfl, ho3, b3⟩
          have hcz := conv_open ho3
          rw [HTK.out] at hcz
          have hcb := conv_str (P := Tryd.prog) (c := cap) (A3.out.below b3) 23 5 Tryd.underlying23 Tryd.underlying5 9 Tryd.underlying9
          rw [HN.out] at hcb
          clear ho3
          generalize str bs = S at *
          go_wp2
          go_ret
          exact ⟨rfl, HB.out.trans (b3.mono HB.out.size)⟩
        · have HNO := Lib.hid (HTU.out.told (by rw [HN.out]; omega) hx h0)
          have hx0 : ((x : Int) == 0) = false := by simp; omega
          go_wp2_with fail
          refine (open_no _ c2 (n + 4) X wr HXL.out (by omega) hk2 (Lies.own HOW.out) T3.out HNO.out).mono ?_
          rintro e w3 ⟨rfl, b3⟩
          go_wp2
          go_ret
          exact ⟨rfl, HB.out.trans (b3.mono HB.out.size)⟩

theorem walk (w : World) (hT : Tab w) (A : Option Addr) (cap : Nat) (bs : List UInt8) (_ : bs.length ≤ cap) (_ : cap ≤ maxLen) (hA : Lies w A (cells bs)) (a : Int) (ha : 0 ≤ a ∧ a ≤ 65535) (b : Int) (hb : 0 ≤ b ∧ b ≤ 4294967295) :
    Calls Tryd.prog 5 #[.slice A bs.length cap, .int .u16 a, .int .u32 b] w fun e w' => e = .returned (.bool true) ∧ Below w.heap.size w w' := by
  obtain ⟨s, rfl⟩ := Int.eq_ofNat_of_zero_le ha.1
  obtain ⟨t, rfl⟩ := Int.eq_ofNat_of_zero_le hb.1
  exact walkN w hT A cap bs.length bs rfl hA s (by omega) t (by omega)

set_option maxRecDepth 100000 in
theorem lifted (os : Os) (started : os.Started) (H : Type) (enc : TypeId × Value → H) :
    ReturnsInHanded {} Tryd.checked os 5 .any (fun w args => (Rows.crcBurstsSpec.pre enc Tryd.prog Tryd.f5 [] false w args ∧ laidMetH Tryd.prog laidHere w) ∧ sizedMet enc Tryd.prog Tryd.f5 (OpenSpec.ofChange Rows.crcBurstsSpec) false w args) (Rows.crcBurstsSpec.post enc Tryd.prog Tryd.f5 false true false false) := by
  refine returnsInHanded_of_change_and (C := Tryd.checked) (X := fun w _ => laidMetH Tryd.prog laidHere w) (fun _ _ _ hh h => h.of_heap hh) own started (by kernel_rfl) Tryd.func5
    (ChangeSpec.witness_shaped (enc := enc) (C := Tryd.checked) (os := os) (X := fun w _ => laidMetH Tryd.prog laidHere w) false (World.doorLaid Tryd.prog doorSteps os) #[.slice none 0 0, .int .u16 0, .int .u32 0] 8 rfl (World.shaped_of_RefB (by kernel_rfl) (by kernel_rfl)) (by kernel_rfl) (by kernel_rfl) (by kernel_rfl) (door_met os _)) ?_
  intro W base args ds gs before hval0 hW _ _ hL _
  have hval : ∀ (j : Nat) t v, Tryd.f5.params[j]? = some t → args[j]? = some v → Value.okWide Tryd.prog W .any base t v := hval0
  have hfin := fun W' => law_post (enc := enc) (P := Tryd.prog) (f := Tryd.f5) (s := Rows.crcBurstsSpec) (tb := 4) (W := W) (W' := W') (args := args) (ds := ds) (gs := gs) (before := before) laidOut rfl (by kernel_rfl) Tryd.underlying4 (by kernel_rfl) (fun xs h => by rw [Tryd.params5] at h; match xs, h with | [_, _, _], _ => rfl) hW
  have hlt : ∀ x ∈ before, x.block < W.heap.size := fun x hx => hW.lt x hx
  obtain ⟨p, q, hA0, hV, rfl, hfz, hnd⟩ := hW
  have hA : DataW.TrodAll enc Tryd.prog W 0 (fun _ => true) true Tryd.f5.params.toList args.toList ds p := hA0
  rw [Tryd.params5] at hA hval
  obtain ⟨v0, vs0, d0, ds0, p0, q0, hargs, rfl, rfl, h0, r0⟩ := trodAll_cons hA
  obtain ⟨v1, vs1, d1, ds1, p1, q1, rfl, rfl, rfl, h1, r1⟩ := trodAll_cons r0
  obtain ⟨v2, vs2, d2, ds2, p2, q2, rfl, rfl, rfl, h2, r2⟩ := trodAll_cons r1
  obtain ⟨rfl, rfl, rfl⟩ := trodAll_nil r2
  obtain rfl : args = #[v0, v1, v2] := by cases args; simp_all
  obtain ⟨A0, cap0, b0, rfl, hl0, hm0, hB0⟩ := open_bytes (hval 0 23 v0 rfl rfl) h0 (fun x hx => hlt x (by simp [hx]))
  obtain ⟨a1, rfl, rfl, rfl, w1⟩ := open_int Tryd.underlying32 (hval 1 32 v1 rfl rfl) h1
  obtain ⟨a2, rfl, rfl, rfl, w2⟩ := open_int Tryd.underlying22 (hval 2 22 v2 rfl rfl) h2
  refine (walk W (of_laid hL) A0 cap0 b0 hl0 hm0 hB0 a1 (bounds_u16 w1) a2 (bounds_u32 w2)).mono fun e W' ⟨he, hg⟩ => ?_
  subst he
  exact ⟨_, rfl, hfin W' hg⟩

theorem proved : Rows.CrcBurstsSaid :=
  OpenClaim.holds_of_wide 5 Tryd.f5 rfl rfl rfl rfl rfl rfl rfl ⟨rfl, rfl, rfl, rfl, rfl⟩ rfl rfl rfl rfl rfl (by kernel_rfl) Tryd.func5 (by kernel_rfl)
    (of_decide_eq_true (by kernel_rfl)) (by unfold Func.isWrapper; first | (rw [if_pos (by decide +kernel)]; kernel_rfl) | (rw [if_neg (by decide +kernel)]; exact ⟨rfl, rfl⟩))
    (fun os started H enc _ => lifted os started H enc)

set_option maxRecDepth 100000 in
theorem card : Rows.CrcBurstsCardSaid :=
  Claim7.holds_tied_plain_at .later [] laidKindsHere true _ false
    proved (fun _ h => by cases h) (by kernel_rfl) (fun _ h => by cases h) crcBursts_row_tie rfl ⟨rfl, rfl⟩ (by kernel_rfl) rfl
    (fun f fn hf hfn => by
      obtain rfl : f = 5 := Option.some.inj ((show Tryd.prog.funcNamed "turntable/turntablelaw02.CrcBursts" = some 5 by kernel_rfl).symm.trans hf) |>.symm
      obtain rfl : fn = Tryd.f5 := (Option.some.inj (Tryd.func5.symm.trans hfn)).symm
      exact ⟨by kernel_rfl, fun j t ht => by
        rw [Tryd.params5] at ht
        have hm : t ∈ [23, 32, 22] := by simpa using Array.mem_of_getElem? ht
        have hall : ([23, 32, 22].all fun u => !Tryd.prog.wantsStandIn u) = true := by kernel_rfl
        exact (show Tryd.prog.wantsStandIn t = false by simpa using List.all_eq_true.1 hall t hm)⟩)
    (by kernel_rfl)
#print axioms card
end Go.Proofs.YtnhlfmpfbfjohaaDoor.crcBursts
