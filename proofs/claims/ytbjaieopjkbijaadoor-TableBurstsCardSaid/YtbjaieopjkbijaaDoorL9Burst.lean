/-
  P9.2, TableBursts: for all tables, and all bits that turn, the law returns true: a sector in which something within 32 bits has turned behind its table's Gen is no table's. No condition but that the program's table starts as its text lays it.
-/
import Derived.Test.YtbjaieopjkbijaaDoorOpT
import Derived.Test.YtbjaieopjkbijaaDoorLaid2
import Derived.BigRegion
namespace Go.Proofs.YtbjaieopjkbijaaDoor.tableBursts
open Go.ChangeShapes Go.WideShapes Go.ChangeAt Go.RowKit

/-- a sector of one's own, as a row -/
theorem own_sec {w : World} {g B : Nat} {s : List UInt8} (h : Blk w g (cells s).toArray 71) (hs : s.length = 64) (hg : B ≤ g) : w.ownsRow B 71 1 (.slice (some ⟨g, 0, none⟩) 64 64) 64 (cells s) :=
  ⟨by rw [cells_length, hs], .inr ⟨g, 64, _, rfl, hg, h, Nat.le_refl _, by unfold maxLen; omega, by rw [cells_size, hs], List.take_of_length_le (by rw [cells_length, hs]; exact Nat.le_refl _)⟩⟩

set_option maxHeartbeats 2000000 in
set_option maxRecDepth 100000 in
theorem walkN (w : World) (hT : Tab w) (g o : Int) (A : Option Addr) (cap n : Nat) (xs : List Tb.Ext) (hn : xs.length = n) (hc : n ≤ cap) (hA : Lies w A (flatX xs)) (at_ : Nat) (hat : at_ < 65536) (x : Nat) (hx : x < 4294967296) :
    Calls Tryd.prog 6 #[tabV g o A n cap, .int .u16 (at_ : Int), .int .u32 (x : Int)] w fun e w' => e = .returned (.bool true) ∧ Below w.heap.size w w' := by
  have HX0 := Lib.hid (Blk.new w #[.int .i64 g, .int .i64 o, .slice A n cap] 24)
  have HB0 := Lib.hid ((Below.refl w.heap.size w).alloc (Nat.le_refl _) (.cells #[.int .i64 g, .int .i64 o, .slice A n cap] 24))
  have HA0 := Lib.hid (hA.below HB0.out)
  have HT0 := Lib.hid (hT.below HB0.out (Nat.le_refl _))
  have HN := Lib.hid hn
  clear hA hT hn
  go_enter Tryd.func6, Tryd.ntmps6
  go_wp2_with fail
  generalize w.alloc (.cells #[.int .i64 g, .int .i64 o, .slice A n cap] 24) = w0 at *
  refine (head_any w0 HT0.out).mono ?_
  rintro e w1 ⟨rfl, b1⟩
  have HX1 := Lib.hid (HX0.out.below b1 (Nat.le_refl _))
  have HA1 := Lib.hid (HA0.out.below b1)
  have HT1 := Lib.hid (HT0.out.below b1 (Nat.le_refl _))
  have HB1 := Lib.hid (HB0.out.trans (b1.mono HB0.out.size))
  clear b1
  obtain ⟨z0, z1, z2⟩ := HX1.out.three
  by_cases hr : Tb.right ⟨g, o, xs⟩ = true
  · have HPT := Lib.hid (tput_yes0 g o A cap n xs w1 HN.out hc HA1.out HT1.out hr)
    have HPL := Lib.hid (show (Tb.put ⟨g, o, xs⟩).length = 64 by rw [Tb.put_length, if_pos hr])
    have HOK := Lib.hid (Tb.ok_put hr)
    have HBU := Lib.hid (fun (X : List UInt8) (k : Nat) (ht : Turned (Tb.put ⟨g, o, xs⟩) X k x 32) (hk0 : 40 ≤ k) (hk : k + 32 ≤ 512) (h0 : x ≠ 0) => Tb.burst hr ht hk0 hk hx h0)
    generalize Tb.put ⟨g, o, xs⟩ = S at *
    clear hr
    go_wp2_with fail
    refine HPT.out.mono ?_
    rintro e w2 ⟨gs, rfl, hg, hb2, b2⟩
    have HO2 := Lib.hid (own_sec hb2 HPL.out hg)
    have HBG := Lib.hid hg
    have B2 := Lib.hid b2
    clear hb2 b2 hg z0 z1 z2 HPT
    go_wp2
    obtain ⟨K, hK, hK0, hK2⟩ : ∃ K : Nat, 40 + (at_ : Int) % 441 = (K : Int) ∧ 40 ≤ K ∧ K + 32 ≤ 512 := by
      obtain ⟨K, hK⟩ := Int.eq_ofNat_of_zero_le (Int.emod_nonneg (at_ : Int) (b := 441) (by omega))
      exact ⟨40 + K, by omega, by omega, by omega⟩
    rw [hK]
    clear hK hat
    go_loopw [10] (fun vi wr => ∃ (i : Nat) (X : List UInt8), vi = .int .i64 i ∧ i ≤ 32 ∧ wr.ownsRow w1.heap.size 71 1 (.slice (some ⟨gs, 0, none⟩) 64 64) 64 (cells X) ∧ Below w1.heap.size w1 wr ∧ Turned S X K x i) (fun vi _ => 32 - (intOf vi).toNat)
    case atStart => exact ⟨0, _, rfl, by omega, HO2.out, B2.out, Turned.start _ _ _⟩
    case round =>
      obtain ⟨i, X, rfl, hi, hown, hbr, htu⟩ := hrel
      have HTU := Lib.hid htu
      clear htu
      by_cases h32 : i < 32
      · by_cases hbit : x.testBit i = true
        · have hd := bit_yes hbit
          have HBIT := Lib.hid hbit
          clear hbit
          have hXl : X.length = 64 := by have := hown.1; rw [cells_length] at this; omega
          obtain ⟨q, hq⟩ : ∃ q, (K + i) / 8 = q := ⟨_, rfl⟩
          obtain ⟨e, he⟩ : ∃ e, (K + i) % 8 = e := ⟨_, rfl⟩
          have hqz : ((K : Int) + (i : Int)) / 8 = (q : Int) := by omega
          have hez : ((K : Int) + (i : Int)) % 8 = (e : Int) := by omega
          have hqn : q < 64 := by omega
          have he8 : e < 8 := by omega
          have hfz := hown.frozenAt q
          have hcc := hown.cellAt q (by omega)
          rw [List.getElem?_eq_getElem (by rw [cells_length]; omega), cells_at X q (by omega)] at hcc
          have HOW := Lib.hid hown
          obtain ⟨y, hy, hy8, hye⟩ := byte_turn (X[q]'(by omega)) e he8
          have HTN := Lib.hid (HTU.out.turn HBIT.out hq he (by omega) (UInt8.ofNat y) (by rw [← hye, UInt8.toNat_ofNat', Nat.mod_eq_of_lt (by omega)]))
          have HST := Lib.hid (cells_set [] X q (UInt8.ofNat y) (y : Int) (by rw [UInt8.toNat_ofNat', Nat.mod_eq_of_lt (by omega)]))
          clear hye
          have hcv := (X[q]'(by omega)).toNat_lt
          generalize (X[q]'(by omega)).toNat = cv at hcc hy hcv
          clear hown hXl hq he
          go_wp2
          go_region
          go_wp2
          go_roundw
          case rel =>
            have h2 := (HOW.out.stored q (.int .u8 (y : Int))).1
            have e2 := HST.out
            rw [List.nil_append, List.length_nil, Nat.zero_add, List.nil_append] at e2
            rw [e2] at h2
            exact ⟨i + 1, _, by go_num, by omega, h2.drew, (hbr.setCell (p := ⟨gs, q, none⟩) HBG.out _).drew, HTN.out⟩
          case measure => simp [intOf]; omega
        · have hbit' : x.testBit i = false := by simpa using hbit
          have hd := bit_no hbit'
          have HTN := Lib.hid (HTU.out.skip hbit')
          have HOW := Lib.hid hown
          clear hown hbit hbit'
          go_wp2
          go_roundw
          case rel => exact ⟨i + 1, X, by go_num, by omega, HOW.out, hbr, HTN.out⟩
          case measure => simp [intOf]; omega
      · obtain rfl : i = 32 := by omega
        have hXl : X.length = 64 := by have := hown.1; rw [cells_length] at this; omega
        have HXL := Lib.hid hXl
        have LX := Lib.hid (Lies.own hown)
        have T3 := Lib.hid (HT1.out.below hbr (Nat.le_refl _))
        have HB := Lib.hid (HB1.out.trans (hbr.mono HB1.out.size))
        clear hown hXl
        by_cases h0 : x = 0
        · subst h0
          have hX : X = S := HTU.out.2.1 rfl
          have HOX := Lib.hid (show Tb.ok X = true by rw [hX]; exact HOK.out)
          clear hX
          have HG := Lib.hid (tget_is _ 64 64 _ X _ _ _ true wr HXL.out (Nat.le_refl _) LX.out T3.out (show Tb.got X = ⟨(Tb.got X).gen, (Tb.got X).opn, (Tb.got X).xs⟩ from rfl) HOX.out rfl)
          generalize (Tb.got X).gen = p1 at *
          generalize (Tb.got X).opn = p2 at *
          generalize (Tb.got X).xs = p3 at *
          go_wp2_with fail
          refine HG.out.mono ?_
          rintro e w3 ⟨A3, c3, rfl, -, -, b3⟩
          go_wp2
          go_ret
          exact ⟨rfl, by have := HB.out.trans (b3.mono HB.out.size); exact this.alloc this.size _⟩
        · have HOX := Lib.hid (HBU.out X K HTU.out hK0 hK2 h0)
          have hx0 : ((x : Int) == 0) = false := by simp; omega
          have HG := Lib.hid (tget_is _ 64 64 0 X 0 0 [] false wr HXL.out (Nat.le_refl _) LX.out T3.out (by unfold Tb.got; rw [if_neg (by rw [HOX.out]; simp)]; rfl) HOX.out rfl)
          go_wp2_with fail
          refine HG.out.mono ?_
          rintro e w3 ⟨A3, c3, rfl, -, -, b3⟩
          go_wp2
          go_ret
          exact ⟨rfl, by have := HB.out.trans (b3.mono HB.out.size); exact this.alloc this.size _⟩
  · have HNO := Lib.hid (tput_no0 g o A cap n xs w1 HN.out hc HA1.out HT1.out (by simpa using hr))
    clear hr
    go_wp2_with fail
    refine HNO.out.mono ?_
    rintro e w2 ⟨rfl, b2⟩
    go_wp2
    go_ret
    exact ⟨rfl, HB1.out.trans (b2.mono HB1.out.size)⟩

theorem walk (w : World) (hT : Tab w) (g o : Int) (A : Option Addr) (cap : Nat) (xs : List Tb.Ext) (hl : xs.length ≤ cap) (_ : cap ≤ maxLen) (hA : Lies w A (flatX xs)) (t : Int) (ht : 0 ≤ t ∧ t ≤ 65535) (x : Int) (hx : 0 ≤ x ∧ x ≤ 4294967295) :
    Calls Tryd.prog 6 #[tabV g o A xs.length cap, .int .u16 t, .int .u32 x] w fun e w' => e = .returned (.bool true) ∧ Below w.heap.size w w' := by
  obtain ⟨t, rfl⟩ := Int.eq_ofNat_of_zero_le ht.1
  obtain ⟨x, rfl⟩ := Int.eq_ofNat_of_zero_le hx.1
  exact walkN w hT g o A cap xs.length xs rfl hl hA t (by omega) x (by omega)


set_option maxRecDepth 100000 in
theorem lifted (os : Os) (started : os.Started) (H : Type) (enc : TypeId × Value → H) :
    ReturnsInHanded {} Tryd.checked os 6 .any (fun w args => (Rows.tableBurstsSpec.pre enc Tryd.prog Tryd.f6 [] false w args ∧ laidMetH Tryd.prog laidHere w) ∧ sizedMet enc Tryd.prog Tryd.f6 (OpenSpec.ofChange Rows.tableBurstsSpec) false w args) (Rows.tableBurstsSpec.post enc Tryd.prog Tryd.f6 false true false false) := by
  refine returnsInHanded_of_change_and (C := Tryd.checked) (X := fun w _ => laidMetH Tryd.prog laidHere w) (fun _ _ _ hh h => h.of_heap hh) own started (by kernel_rfl) Tryd.func6
    (ChangeSpec.witness_shaped (enc := enc) (C := Tryd.checked) (os := os) (X := fun w _ => laidMetH Tryd.prog laidHere w) false (World.doorLaid Tryd.prog doorSteps os) #[.agg #[.int .i64 0, .int .i64 0, .slice none 0 0], .int .u16 0, .int .u32 0] 8 rfl (World.shaped_of_RefB (by kernel_rfl) (by kernel_rfl)) (by kernel_rfl) (by kernel_rfl) (by kernel_rfl) (door_met os _)) ?_
  intro W base args ds gs before hval0 hW _ _ hL _
  have hval : ∀ (j : Nat) t v, Tryd.f6.params[j]? = some t → args[j]? = some v → Value.okWide Tryd.prog W .any base t v := hval0
  have hfin := fun W' => law_post (enc := enc) (P := Tryd.prog) (f := Tryd.f6) (s := Rows.tableBurstsSpec) (tb := 4) (W := W) (W' := W') (args := args) (ds := ds) (gs := gs) (before := before) laidOut rfl (by kernel_rfl) Tryd.underlying4 (by kernel_rfl) (fun xs h => by rw [Tryd.params6] at h; match xs, h with | [_, _, _], _ => rfl) hW
  have hlt : ∀ x ∈ before, x.block < W.heap.size := fun x hx => hW.lt x hx
  obtain ⟨p, q, hA0, hV, rfl, hfz, hnd⟩ := hW
  have hA : DataW.TrodAll enc Tryd.prog W 0 (fun _ => true) true Tryd.f6.params.toList args.toList ds p := hA0
  rw [Tryd.params6] at hA hval
  obtain ⟨v0, vs0, d0, ds0, p0, q0, hargs, rfl, rfl, h0, r0⟩ := trodAll_cons hA
  obtain ⟨v1, vs1, d1, ds1, p1, q1, rfl, rfl, rfl, h1, r1⟩ := trodAll_cons r0
  obtain ⟨v2, vs2, d2, ds2, p2, q2, rfl, rfl, rfl, h2, r2⟩ := trodAll_cons r1
  obtain ⟨rfl, rfl, rfl⟩ := trodAll_nil r2
  obtain rfl : args = #[v0, v1, v2] := by cases args; simp_all
  obtain ⟨g0, o0, A0, cap0, l0, rfl, hl0, hm0, hB0⟩ := open_table (hval 0 24 v0 rfl rfl) h0 (fun x hx => hlt x (by simp [hx]))
  obtain ⟨a1, rfl, rfl, rfl, w1⟩ := open_int Tryd.underlying40 (hval 1 40 v1 rfl rfl) h1
  obtain ⟨a2, rfl, rfl, rfl, w2⟩ := open_int Tryd.underlying41 (hval 2 41 v2 rfl rfl) h2
  refine (walk W (of_laid hL) g0 o0 A0 cap0 l0 hl0 hm0 hB0 a1 (bounds_u16 w1) a2 (bounds_u32 w2)).mono fun e W' ⟨he, hg⟩ => ?_
  subst he
  exact ⟨_, rfl, hfin W' hg⟩

theorem proved : Rows.TableBurstsSaid :=
  OpenClaim.holds_of_wide 6 Tryd.f6 rfl rfl rfl rfl rfl rfl rfl ⟨rfl, rfl, rfl, rfl, rfl⟩ rfl rfl rfl rfl rfl (by kernel_rfl) Tryd.func6 (by kernel_rfl)
    (of_decide_eq_true (by kernel_rfl)) (by unfold Func.isWrapper; first | (rw [if_pos (by decide +kernel)]; kernel_rfl) | (rw [if_neg (by decide +kernel)]; exact ⟨rfl, rfl⟩))
    (fun os started H enc _ => lifted os started H enc)

set_option maxRecDepth 100000 in
theorem card : Rows.TableBurstsCardSaid :=
  Claim7.holds_tied_plain_at .later [] laidKindsHere true _ false
    proved (fun _ h => by cases h) (by kernel_rfl) (fun _ h => by cases h) tableBursts_row_tie rfl ⟨rfl, rfl⟩ (by kernel_rfl) rfl
    (fun f fn hf hfn => by
      obtain rfl : f = 6 := Option.some.inj ((show Tryd.prog.funcNamed "turntable/turntablelaw09.TableBursts" = some 6 by kernel_rfl).symm.trans hf) |>.symm
      obtain rfl : fn = Tryd.f6 := (Option.some.inj (Tryd.func6.symm.trans hfn)).symm
      exact ⟨by kernel_rfl, fun j t ht => by
        rw [Tryd.params6] at ht
        have hm : t ∈ [24, 40, 41] := Array.mem_def.1 (Array.mem_of_getElem? ht)
        have hall : ([24, 40, 41].all fun u => !Tryd.prog.wantsStandIn u) = true := by kernel_rfl
        exact (show Tryd.prog.wantsStandIn t = false by simpa using List.all_eq_true.1 hall t hm)⟩)
    (by kernel_rfl)
#print axioms card
end Go.Proofs.YtbjaieopjkbijaaDoor.tableBursts
