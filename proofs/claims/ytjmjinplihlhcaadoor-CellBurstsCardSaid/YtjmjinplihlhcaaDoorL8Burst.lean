/-
  P8.4, CellBursts: for all numbers, places, bytes, and all bits that turn, the law returns true: a sector in which something within 32 bits has turned is none. No condition but that the program's table starts as its text lays it.
-/
import Derived.Test.YtjmjinplihlhcaaDoorHd8
import Derived.Test.YtjmjinplihlhcaaDoorLaid2
import Derived.BigRegion
namespace Go.Proofs.YtjmjinplihlhcaaDoor.cellBursts
open Go.ChangeShapes Go.WideShapes Go.ChangeAt Go.RowKit

/-- a sector of one's own, as a row -/
theorem own_sec {w : World} {g B : Nat} {s : List UInt8} (h : Blk w g (cells s).toArray 37) (hs : s.length = 64) (hg : B ≤ g) : w.ownsRow B 37 1 (.slice (some ⟨g, 0, none⟩) 64 64) 64 (cells s) :=
  ⟨by rw [cells_length, hs], .inr ⟨g, 64, _, rfl, hg, h, Nat.le_refl _, by unfold maxLen; omega, by rw [cells_size, hs], List.take_of_length_le (by rw [cells_length, hs]; exact Nat.le_refl _)⟩⟩

set_option maxHeartbeats 2000000 in
set_option maxRecDepth 100000 in
theorem walkN (w : World) (hT : Tab w) (a : Nat) (ha : a < 4294967296) (p : Nat) (hp : p ≤ 255) (A : Option Addr) (cap n : Nat) (bs : List UInt8) (hn : bs.length = n) (hc : n ≤ cap) (hA : Lies w A (cells bs)) (at_ : Nat) (hat : at_ < 65536) (x : Nat) (hx : x < 4294967296) :
    Calls Tryd.prog 6 #[.int .u32 (a : Int), .int .u8 (p : Int), .slice A n cap, .int .u16 (at_ : Int), .int .u32 (x : Int)] w fun e w' => e = .returned (.bool true) ∧ Below w.heap.size w w' := by
  have HT := Lib.hid hT
  obtain ⟨r, hr, hrn, hr59⟩ : ∃ r : Nat, min n 59 = r ∧ r ≤ n ∧ r ≤ 59 := ⟨_, rfl, Nat.min_le_left .., Nat.min_le_right ..⟩
  have HTL := Lib.hid (show (bs.take r).length = r by rw [List.length_take]; omega)
  have hAt : Lies w A (cells (bs.take r)) := by have := hA.take r; rwa [cells_take] at this
  have hmin : ∀ W : World, (Builtin.min_ #[3, 3] 3 #[.int .i64 (n : Int), .int .i64 59]).run Tryd.prog W = .ok (.int .i64 (r : Int)) W := by
    intro W
    exact min_at n 59 r hr W
  have HR := Lib.hid (show Ce.right (1 + (a : Int) / 2) (p : Int) = true by rw [Ce.right_iff]; omega)
  have HAT := Lib.hid hAt
  have HOK := Lib.hid (Ce.got_put (bs := bs.take r) HR.out (by rw [HTL.out]; exact hr59)).1
  have HBU := Lib.hid (fun (X : List UInt8) (k : Nat) (ht : Turned (Ce.put (1 + (a : Int) / 2) (p : Int) (bs.take r)) X k x 32) (hk : k + 32 ≤ 512) (h0 : x ≠ 0) => Ce.burst HR.out (by rw [HTL.out]; exact hr59) ht hk hx h0)
  have HPL := Lib.hid (show (Ce.put (1 + (a : Int) / 2) (p : Int) (bs.take r)).length = 64 by rw [Ce.put_length, if_pos ⟨HR.out, by rw [HTL.out]; exact hr59⟩])
  clear hT hA hAt hn hr
  generalize bs.take r = xs at *
  go_enter Tryd.func6, Tryd.ntmps6
  go_wp2_with fail
  refine (head_any _ HT.out).mono ?_
  rintro e w1 ⟨rfl, hb1⟩
  have T1 := Lib.hid (HT.out.below hb1 (Nat.le_refl _))
  have A1 := Lib.hid (HAT.out.below hb1)
  go_wp2_with fail
  refine (cput_yes (1 + (a : Int) / 2) (p : Int) A cap r xs w1 HTL.out HR.out hr59 A1.out T1.out).mono ?_
  rintro e w2 ⟨g, rfl, hg, hb2, b2⟩
  have HO2 := Lib.hid (own_sec hb2 HPL.out hg)
  have HBG := Lib.hid hg
  have B2 := Lib.hid b2
  clear hb2 b2 hmin hg
  generalize Ce.put (1 + (a : Int) / 2) (p : Int) xs = S at *
  go_wp2
  obtain ⟨K, hK, hK2⟩ : ∃ K : Nat, (at_ : Int) % 481 = (K : Int) ∧ K + 32 ≤ 512 := by
    obtain ⟨K, hK⟩ := Int.eq_ofNat_of_zero_le (Int.emod_nonneg (at_ : Int) (b := 481) (by omega))
    exact ⟨K, hK, by omega⟩
  rw [hK]
  clear hK hat
  go_loopw [15] (fun vi wr => ∃ (i : Nat) (X : List UInt8), vi = .int .i64 i ∧ i ≤ 32 ∧ wr.ownsRow w1.heap.size 37 1 (.slice (some ⟨g, 0, none⟩) 64 64) 64 (cells X) ∧ Below w1.heap.size w1 wr ∧ Turned S X K x i) (fun vi _ => 32 - (intOf vi).toNat)
  case atStart => exact ⟨0, _, rfl, by omega, HO2.out, B2.out, Turned.start _ _ _⟩
  case round =>
    obtain ⟨i, X, rfl, hi, hown, hbr, htu⟩ := hrel
    have HTU := Lib.hid htu
    clear htu
    by_cases h32 : i < 32
    · by_cases hbit : x.testBit i = true
      · have hd := bit_yes hbit
        have HBIT := Lib.hid hbit
        clear hbit
        have hXl : X.length = 64 := by have := hown.1; rw [cells_length] at this; omega
        obtain ⟨q, hq⟩ : ∃ q, (K + i) / 8 = q := ⟨_, rfl⟩
        obtain ⟨e, he⟩ : ∃ e, (K + i) % 8 = e := ⟨_, rfl⟩
        have hqz : ((K : Int) + (i : Int)) / 8 = (q : Int) := by omega
        have hez : ((K : Int) + (i : Int)) % 8 = (e : Int) := by omega
        have hqn : q < 64 := by omega
        have he8 : e < 8 := by omega
        have hfz := hown.frozenAt q
        have hcc := hown.cellAt q (by omega)
        rw [List.getElem?_eq_getElem (by rw [cells_length]; omega), cells_at X q (by omega)] at hcc
        have HOW := Lib.hid hown
        obtain ⟨y, hy, hy8, hye⟩ := byte_turn (X[q]'(by omega)) e he8
        have HTN := Lib.hid (HTU.out.turn HBIT.out hq he (by omega) (UInt8.ofNat y) (by rw [← hye, UInt8.toNat_ofNat', Nat.mod_eq_of_lt (by omega)]))
        have HST := Lib.hid (cells_set [] X q (UInt8.ofNat y) (y : Int) (by rw [UInt8.toNat_ofNat', Nat.mod_eq_of_lt (by omega)]))
        clear hye
        have hcv := (X[q]'(by omega)).toNat_lt
        generalize (X[q]'(by omega)).toNat = cv at hcc hy hcv
        clear hown hXl hq he
        go_wp2
        go_region
        go_wp2
        go_roundw
        case rel =>
          have h2 := (HOW.out.stored q (.int .u8 (y : Int))).1
          have e2 := HST.out
          rw [List.nil_append, List.length_nil, Nat.zero_add, List.nil_append] at e2
          rw [e2] at h2
          exact ⟨i + 1, _, by go_num, by omega, h2.drew, (hbr.setCell (p := ⟨g, q, none⟩) HBG.out _).drew, HTN.out⟩
        case measure => simp [intOf]; omega
      · have hbit' : x.testBit i = false := by simpa using hbit
        have hd := bit_no hbit'
        have HTN := Lib.hid (HTU.out.skip hbit')
        have HOW := Lib.hid hown
        clear hown hbit hbit'
        go_wp2
        go_roundw
        case rel => exact ⟨i + 1, X, by go_num, by omega, HOW.out, hbr, HTN.out⟩
        case measure => simp [intOf]; omega
    · obtain rfl : i = 32 := by omega
      have hXl : X.length = 64 := by have := hown.1; rw [cells_length] at this; omega
      have HXL := Lib.hid hXl
      have LX := Lib.hid (Lies.own hown)
      have T3 := Lib.hid (T1.out.below hbr (Nat.le_refl _))
      have HB := Lib.hid (hb1.trans (hbr.mono hb1.size))
      clear hown hXl
      by_cases h0 : x = 0
      · subst h0
        have hX : X = S := HTU.out.2.1 rfl
        have HOX := Lib.hid (show Ce.ok (1 + (a : Int) / 2) (p : Int) X = true by rw [hX]; exact HOK.out)
        clear hX
        go_wp2_with fail
        refine (cget_flag (1 + (a : Int) / 2) (p : Int) _ 64 64 X wr true HXL.out HOX.out LX.out T3.out).mono ?_
        rintro e w3 ⟨A3, l3, rfl, -, -, b3⟩
        go_wp2
        go_ret
        exact ⟨rfl, HB.out.trans (b3.mono HB.out.size)⟩
      · have HOX := Lib.hid (HBU.out X K HTU.out hK2 h0)
        have hx0 : ((x : Int) == 0) = false := by simp; omega
        go_wp2_with fail
        refine (cget_flag (1 + (a : Int) / 2) (p : Int) _ 64 64 X wr false HXL.out HOX.out LX.out T3.out).mono ?_
        rintro e w3 ⟨A3, l3, rfl, hl3, -, b3⟩
        have hl0 : l3 = 0 := by rw [hl3]; rfl
        clear hl3
        subst hl0
        go_wp2
        go_ret
        exact ⟨rfl, HB.out.trans (b3.mono HB.out.size)⟩

theorem walk (w : World) (hT : Tab w) (a : Int) (ha : 0 ≤ a ∧ a ≤ 4294967295) (p : Int) (hp : 0 ≤ p ∧ p ≤ 255) (A : Option Addr) (cap : Nat) (bs : List UInt8) (hl : bs.length ≤ cap) (_ : cap ≤ maxLen) (hA : Lies w A (cells bs)) (t : Int) (ht : 0 ≤ t ∧ t ≤ 65535) (x : Int) (hx : 0 ≤ x ∧ x ≤ 4294967295) :
    Calls Tryd.prog 6 #[.int .u32 a, .int .u8 p, .slice A bs.length cap, .int .u16 t, .int .u32 x] w fun e w' => e = .returned (.bool true) ∧ Below w.heap.size w w' := by
  obtain ⟨a, rfl⟩ := Int.eq_ofNat_of_zero_le ha.1
  obtain ⟨p, rfl⟩ := Int.eq_ofNat_of_zero_le hp.1
  obtain ⟨t, rfl⟩ := Int.eq_ofNat_of_zero_le ht.1
  obtain ⟨x, rfl⟩ := Int.eq_ofNat_of_zero_le hx.1
  exact walkN w hT a (by omega) p (by omega) A cap bs.length bs rfl hl hA t (by omega) x (by omega)


set_option maxRecDepth 100000 in
theorem lifted (os : Os) (started : os.Started) (H : Type) (enc : TypeId × Value → H) :
    ReturnsInHanded {} Tryd.checked os 6 .any (fun w args => (Rows.cellBurstsSpec.pre enc Tryd.prog Tryd.f6 [] false w args ∧ laidMetH Tryd.prog laidHere w) ∧ sizedMet enc Tryd.prog Tryd.f6 (OpenSpec.ofChange Rows.cellBurstsSpec) false w args) (Rows.cellBurstsSpec.post enc Tryd.prog Tryd.f6 false true false false) := by
  refine returnsInHanded_of_change_and (C := Tryd.checked) (X := fun w _ => laidMetH Tryd.prog laidHere w) (fun _ _ _ hh h => h.of_heap hh) own started (by kernel_rfl) Tryd.func6
    (ChangeSpec.witness_shaped (enc := enc) (C := Tryd.checked) (os := os) (X := fun w _ => laidMetH Tryd.prog laidHere w) false (World.doorLaid Tryd.prog doorSteps os) #[.int .u32 0, .int .u8 0, .slice none 0 0, .int .u16 0, .int .u32 0] 8 rfl (World.shaped_of_RefB (by kernel_rfl) (by kernel_rfl)) (by kernel_rfl) (by kernel_rfl) (by kernel_rfl) (door_met os _)) ?_
  intro W base args ds gs before hval0 hW _ _ hL _
  have hval : ∀ (j : Nat) t v, Tryd.f6.params[j]? = some t → args[j]? = some v → Value.okWide Tryd.prog W .any base t v := hval0
  have hfin := fun W' => law_post (enc := enc) (P := Tryd.prog) (f := Tryd.f6) (s := Rows.cellBurstsSpec) (tb := 4) (W := W) (W' := W') (args := args) (ds := ds) (gs := gs) (before := before) laidOut rfl (by kernel_rfl) Tryd.underlying4 (by kernel_rfl) (fun xs h => by rw [Tryd.params6] at h; match xs, h with | [_, _, _, _, _], _ => rfl) hW
  have hlt : ∀ x ∈ before, x.block < W.heap.size := fun x hx => hW.lt x hx
  obtain ⟨p, q, hA0, hV, rfl, hfz, hnd⟩ := hW
  have hA : DataW.TrodAll enc Tryd.prog W 0 (fun _ => true) true Tryd.f6.params.toList args.toList ds p := hA0
  rw [Tryd.params6] at hA hval
  obtain ⟨v0, vs0, d0, ds0, p0, q0, hargs, rfl, rfl, h0, r0⟩ := trodAll_cons hA
  obtain ⟨v1, vs1, d1, ds1, p1, q1, rfl, rfl, rfl, h1, r1⟩ := trodAll_cons r0
  obtain ⟨v2, vs2, d2, ds2, p2, q2, rfl, rfl, rfl, h2, r2⟩ := trodAll_cons r1
  obtain ⟨v3, vs3, d3, ds3, p3, q3, rfl, rfl, rfl, h3, r3⟩ := trodAll_cons r2
  obtain ⟨v4, vs4, d4, ds4, p4, q4, rfl, rfl, rfl, h4, r4⟩ := trodAll_cons r3
  obtain ⟨rfl, rfl, rfl⟩ := trodAll_nil r4
  obtain rfl : args = #[v0, v1, v2, v3, v4] := by cases args; simp_all
  obtain ⟨a0, rfl, rfl, rfl, w0⟩ := open_int Tryd.underlying30 (hval 0 30 v0 rfl rfl) h0
  obtain ⟨a1, rfl, rfl, rfl, w1⟩ := open_int Tryd.underlying5 (hval 1 5 v1 rfl rfl) h1
  obtain ⟨A2, cap2, b2, rfl, hl2, hm2, hB2⟩ := open_bytes (hval 2 22 v2 rfl rfl) h2 (fun x hx => hlt x (by simp [hx]))
  obtain ⟨a3, rfl, rfl, rfl, w3⟩ := open_int Tryd.underlying33 (hval 3 33 v3 rfl rfl) h3
  obtain ⟨a4, rfl, rfl, rfl, w4⟩ := open_int Tryd.underlying30 (hval 4 30 v4 rfl rfl) h4
  refine (walk W (of_laid hL) a0 (bounds_u32 w0) a1 (bounds_u8 w1) A2 cap2 b2 hl2 hm2 hB2 a3 (bounds_u16 w3) a4 (bounds_u32 w4)).mono fun e W' ⟨he, hg⟩ => ?_
  subst he
  exact ⟨_, rfl, hfin W' hg⟩

theorem proved : Rows.CellBurstsSaid :=
  OpenClaim.holds_of_wide 6 Tryd.f6 rfl rfl rfl rfl rfl rfl rfl ⟨rfl, rfl, rfl, rfl, rfl⟩ rfl rfl rfl rfl rfl (by kernel_rfl) Tryd.func6 (by kernel_rfl)
    (of_decide_eq_true (by kernel_rfl)) (by unfold Func.isWrapper; first | (rw [if_pos (by decide +kernel)]; kernel_rfl) | (rw [if_neg (by decide +kernel)]; exact ⟨rfl, rfl⟩))
    (fun os started H enc _ => lifted os started H enc)

set_option maxRecDepth 100000 in
theorem card : Rows.CellBurstsCardSaid :=
  Claim7.holds_tied_plain_at .later [] laidKindsHere true _ false
    proved (fun _ h => by cases h) (by kernel_rfl) (fun _ h => by cases h) cellBursts_row_tie rfl ⟨rfl, rfl⟩ (by kernel_rfl) rfl
    (fun f fn hf hfn => by
      obtain rfl : f = 6 := Option.some.inj ((show Tryd.prog.funcNamed "turntable/turntablelaw08.CellBursts" = some 6 by kernel_rfl).symm.trans hf) |>.symm
      obtain rfl : fn = Tryd.f6 := (Option.some.inj (Tryd.func6.symm.trans hfn)).symm
      exact ⟨by kernel_rfl, fun j t ht => by
        rw [Tryd.params6] at ht
        have hm : t ∈ [30, 5, 22, 33, 30] := Array.mem_def.1 (Array.mem_of_getElem? ht)
        have hall : ([30, 5, 22, 33, 30].all fun u => !Tryd.prog.wantsStandIn u) = true := by kernel_rfl
        exact (show Tryd.prog.wantsStandIn t = false by simpa using List.all_eq_true.1 hall t hm)⟩)
    (by kernel_rfl)
#print axioms card
end Go.Proofs.YtjmjinplihlhcaaDoor.cellBursts
