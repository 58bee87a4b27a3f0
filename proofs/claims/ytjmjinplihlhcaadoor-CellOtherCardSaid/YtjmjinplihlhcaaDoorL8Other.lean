/-
  P8.3, CellOther: for all numbers, places and bytes the law returns true: a sector is never one of another number with its place, nor of another place with its number. No condition but that the program's table starts as its text lays it.
-/
import Derived.Test.YtjmjinplihlhcaaDoorHd8
import Derived.Test.YtjmjinplihlhcaaDoorLaid2
namespace Go.Proofs.YtjmjinplihlhcaaDoor.cellOther
open Go.ChangeShapes Go.WideShapes Go.ChangeAt Go.RowKit

set_option maxHeartbeats 1000000 in
set_option maxRecDepth 100000 in
theorem walkN (w : World) (hT : Tab w) (a b : Nat) (ha : a < 4294967296) (hb : b < 4294967296) (k j : Nat) (hk : k ≤ 255) (hj : j ≤ 255) (A : Option Addr) (cap n : Nat) (bs : List UInt8) (hn : bs.length = n) (hc : n ≤ cap) (hA : Lies w A (cells bs)) :
    Calls Tryd.prog 5 #[.int .u32 (a : Int), .int .u32 (b : Int), .int .u8 (k : Int), .int .u8 (j : Int), .slice A n cap] w fun e w' => e = .returned (.bool true) ∧ Below w.heap.size w w' := by
  have HT := Lib.hid hT
  obtain ⟨r, hr, hrn, hr59⟩ : ∃ r : Nat, min n 59 = r ∧ r ≤ n ∧ r ≤ 59 := ⟨_, rfl, Nat.min_le_left .., Nat.min_le_right ..⟩
  have HTL := Lib.hid (show (bs.take r).length = r by rw [List.length_take]; omega)
  have hAt : Lies w A (cells (bs.take r)) := by have := hA.take r; rwa [cells_take] at this
  have hmin : ∀ W : World, (Builtin.min_ #[3, 3] 3 #[.int .i64 (n : Int), .int .i64 59]).run Tryd.prog W = .ok (.int .i64 (r : Int)) W := by
    intro W
    exact min_at n 59 r hr W
  have HR1 := Lib.hid (show Ce.right (1 + (a : Int) / 2) (k : Int) = true by rw [Ce.right_iff]; omega)
  have HR2 := Lib.hid (show Ce.right (1 + (b : Int) / 2) (k : Int) = true by rw [Ce.right_iff]; omega)
  have HR3 := Lib.hid (show Ce.right (1 + (a : Int) / 2) (j : Int) = true by rw [Ce.right_iff]; omega)
  have HAT := Lib.hid hAt
  have HO1 := Lib.hid (Ce.other_seq (bs := bs.take r) HR1.out HR2.out (by rw [HTL.out]; exact hr59))
  have HO2 := Lib.hid (Ce.other_place (bs := bs.take r) HR1.out HR3.out (by rw [HTL.out]; exact hr59))
  have HNB := Lib.hid (Ce.got_put (bs := bs.take r) HR1.out (by rw [HTL.out]; exact hr59)).2
  have HPL := Lib.hid (show (Ce.put (1 + (a : Int) / 2) (k : Int) (bs.take r)).length = 64 by rw [Ce.put_length, if_pos ⟨HR1.out, by rw [HTL.out]; exact hr59⟩])
  have HX := Lib.hid (show ((1 + (a : Int) / 2 == 1 + (b : Int) / 2) : Bool) = decide (1 + (a : Int) / 2 = 1 + (b : Int) / 2) from rfl)
  have HY := Lib.hid (show (((k : Int) == (j : Int)) : Bool) = decide ((k : Int) = (j : Int)) from rfl)
  generalize decide (1 + (a : Int) / 2 = 1 + (b : Int) / 2) = X at *
  generalize decide ((k : Int) = (j : Int)) = Y at *
  clear hT hA hAt hn hr
  generalize bs.take r = xs at *
  go_enter Tryd.func5, Tryd.ntmps5
  go_wp2_with fail
  refine (head_any _ HT.out).mono ?_
  rintro e w1 ⟨rfl, hb1⟩
  have T1 := Lib.hid (HT.out.below hb1 (Nat.le_refl _))
  have A1 := Lib.hid (HAT.out.below hb1)
  go_wp2_with fail
  refine (cput_yes (1 + (a : Int) / 2) (k : Int) A cap r xs w1 HTL.out HR1.out hr59 A1.out T1.out).mono ?_
  rintro e w2 ⟨g, rfl, hg, hb2, b2⟩
  have T2 := Lib.hid (T1.out.below b2 (Nat.le_refl _))
  have L2 := Lib.hid hb2.liesAll
  have B2 := Lib.hid (hb1.trans (b2.mono hb1.size))
  clear hg hb2 b2 hmin
  generalize Ce.put (1 + (a : Int) / 2) (k : Int) xs = S at *
  go_wp2_with fail
  refine (cget_flag (1 + (b : Int) / 2) (k : Int) _ 64 64 S w2 _ HPL.out HO1.out L2.out T2.out).mono ?_
  rintro e w3 ⟨A3, l3, rfl, -, -, b3⟩
  have T3 := Lib.hid (T2.out.below b3 (Nat.le_refl _))
  have L3 := Lib.hid (L2.out.below b3)
  have B3 := Lib.hid (B2.out.trans (b3.mono B2.out.size))
  clear b3
  go_wp2_with fail
  refine (cget_flag (1 + (a : Int) / 2) (j : Int) _ 64 64 S w3 _ HPL.out HO2.out L3.out T3.out).mono ?_
  rintro e w4 ⟨A4, l4, rfl, -, -, b4⟩
  have B4 := Lib.hid (B3.out.trans (b4.mono B3.out.size))
  clear b4
  have e1 := HX.out
  have e2 := HY.out
  generalize 1 + (a : Int) / 2 = N at *
  generalize 1 + (b : Int) / 2 = M at *
  generalize (k : Int) = K at *
  generalize (j : Int) = J at *
  cases X with
  | true =>
    cases Y with
    | true =>
      go_wp2
      go_ret
      exact ⟨rfl, B4.out⟩
    | false =>
      go_wp2
      go_ret
      exact ⟨rfl, B4.out⟩
  | false =>
    cases Y with
    | true =>
      go_wp2
      go_ret
      exact ⟨rfl, B4.out⟩
    | false =>
      go_wp2
      go_ret
      exact ⟨rfl, B4.out⟩

theorem walk (w : World) (hT : Tab w) (a : Int) (ha : 0 ≤ a ∧ a ≤ 4294967295) (b : Int) (hb : 0 ≤ b ∧ b ≤ 4294967295) (c : Int) (hc : 0 ≤ c ∧ c ≤ 255) (d : Int) (hd : 0 ≤ d ∧ d ≤ 255) (A : Option Addr) (cap : Nat) (bs : List UInt8) (hl : bs.length ≤ cap) (_ : cap ≤ maxLen) (hA : Lies w A (cells bs)) :
    Calls Tryd.prog 5 #[.int .u32 a, .int .u32 b, .int .u8 c, .int .u8 d, .slice A bs.length cap] w fun e w' => e = .returned (.bool true) ∧ Below w.heap.size w w' := by
  obtain ⟨a, rfl⟩ := Int.eq_ofNat_of_zero_le ha.1
  obtain ⟨b, rfl⟩ := Int.eq_ofNat_of_zero_le hb.1
  obtain ⟨c, rfl⟩ := Int.eq_ofNat_of_zero_le hc.1
  obtain ⟨d, rfl⟩ := Int.eq_ofNat_of_zero_le hd.1
  exact walkN w hT a b (by omega) (by omega) c d (by omega) (by omega) A cap bs.length bs rfl hl hA


set_option maxRecDepth 100000 in
theorem lifted (os : Os) (started : os.Started) (H : Type) (enc : TypeId × Value → H) :
    ReturnsInHanded {} Tryd.checked os 5 .any (fun w args => (Rows.cellOtherSpec.pre enc Tryd.prog Tryd.f5 [] false w args ∧ laidMetH Tryd.prog laidHere w) ∧ sizedMet enc Tryd.prog Tryd.f5 (OpenSpec.ofChange Rows.cellOtherSpec) false w args) (Rows.cellOtherSpec.post enc Tryd.prog Tryd.f5 false true false false) := by
  refine returnsInHanded_of_change_and (C := Tryd.checked) (X := fun w _ => laidMetH Tryd.prog laidHere w) (fun _ _ _ hh h => h.of_heap hh) own started (by kernel_rfl) Tryd.func5
    (ChangeSpec.witness_shaped (enc := enc) (C := Tryd.checked) (os := os) (X := fun w _ => laidMetH Tryd.prog laidHere w) false (World.doorLaid Tryd.prog doorSteps os) #[.int .u32 0, .int .u32 0, .int .u8 0, .int .u8 0, .slice none 0 0] 8 rfl (World.shaped_of_RefB (by kernel_rfl) (by kernel_rfl)) (by kernel_rfl) (by kernel_rfl) (by kernel_rfl) (door_met os _)) ?_
  intro W base args ds gs before hval0 hW _ _ hL _
  have hval : ∀ (j : Nat) t v, Tryd.f5.params[j]? = some t → args[j]? = some v → Value.okWide Tryd.prog W .any base t v := hval0
  have hfin := fun W' => law_post (enc := enc) (P := Tryd.prog) (f := Tryd.f5) (s := Rows.cellOtherSpec) (tb := 4) (W := W) (W' := W') (args := args) (ds := ds) (gs := gs) (before := before) laidOut rfl (by kernel_rfl) Tryd.underlying4 (by kernel_rfl) (fun xs h => by rw [Tryd.params5] at h; match xs, h with | [_, _, _, _, _], _ => rfl) hW
  have hlt : ∀ x ∈ before, x.block < W.heap.size := fun x hx => hW.lt x hx
  obtain ⟨p, q, hA0, hV, rfl, hfz, hnd⟩ := hW
  have hA : DataW.TrodAll enc Tryd.prog W 0 (fun _ => true) true Tryd.f5.params.toList args.toList ds p := hA0
  rw [Tryd.params5] at hA hval
  obtain ⟨v0, vs0, d0, ds0, p0, q0, hargs, rfl, rfl, h0, r0⟩ := trodAll_cons hA
  obtain ⟨v1, vs1, d1, ds1, p1, q1, rfl, rfl, rfl, h1, r1⟩ := trodAll_cons r0
  obtain ⟨v2, vs2, d2, ds2, p2, q2, rfl, rfl, rfl, h2, r2⟩ := trodAll_cons r1
  obtain ⟨v3, vs3, d3, ds3, p3, q3, rfl, rfl, rfl, h3, r3⟩ := trodAll_cons r2
  obtain ⟨v4, vs4, d4, ds4, p4, q4, rfl, rfl, rfl, h4, r4⟩ := trodAll_cons r3
  obtain ⟨rfl, rfl, rfl⟩ := trodAll_nil r4
  obtain rfl : args = #[v0, v1, v2, v3, v4] := by cases args; simp_all
  obtain ⟨a0, rfl, rfl, rfl, w0⟩ := open_int Tryd.underlying30 (hval 0 30 v0 rfl rfl) h0
  obtain ⟨a1, rfl, rfl, rfl, w1⟩ := open_int Tryd.underlying30 (hval 1 30 v1 rfl rfl) h1
  obtain ⟨a2, rfl, rfl, rfl, w2⟩ := open_int Tryd.underlying5 (hval 2 5 v2 rfl rfl) h2
  obtain ⟨a3, rfl, rfl, rfl, w3⟩ := open_int Tryd.underlying5 (hval 3 5 v3 rfl rfl) h3
  obtain ⟨A4, cap4, b4, rfl, hl4, hm4, hB4⟩ := open_bytes (hval 4 22 v4 rfl rfl) h4 (fun x hx => hlt x (by simp [hx]))
  refine (walk W (of_laid hL) a0 (bounds_u32 w0) a1 (bounds_u32 w1) a2 (bounds_u8 w2) a3 (bounds_u8 w3) A4 cap4 b4 hl4 hm4 hB4).mono fun e W' ⟨he, hg⟩ => ?_
  subst he
  exact ⟨_, rfl, hfin W' hg⟩

theorem proved : Rows.CellOtherSaid :=
  OpenClaim.holds_of_wide 5 Tryd.f5 rfl rfl rfl rfl rfl rfl rfl ⟨rfl, rfl, rfl, rfl, rfl⟩ rfl rfl rfl rfl rfl (by kernel_rfl) Tryd.func5 (by kernel_rfl)
    (of_decide_eq_true (by kernel_rfl)) (by unfold Func.isWrapper; first | (rw [if_pos (by decide +kernel)]; kernel_rfl) | (rw [if_neg (by decide +kernel)]; exact ⟨rfl, rfl⟩))
    (fun os started H enc _ => lifted os started H enc)

set_option maxRecDepth 100000 in
theorem card : Rows.CellOtherCardSaid :=
  Claim7.holds_tied_plain_at .later [] laidKindsHere true _ false
    proved (fun _ h => by cases h) (by kernel_rfl) (fun _ h => by cases h) cellOther_row_tie rfl ⟨rfl, rfl⟩ (by kernel_rfl) rfl
    (fun f fn hf hfn => by
      obtain rfl : f = 5 := Option.some.inj ((show Tryd.prog.funcNamed "turntable/turntablelaw08.CellOther" = some 5 by kernel_rfl).symm.trans hf) |>.symm
      obtain rfl : fn = Tryd.f5 := (Option.some.inj (Tryd.func5.symm.trans hfn)).symm
      exact ⟨by kernel_rfl, fun j t ht => by
        rw [Tryd.params5] at ht
        have hm : t ∈ [30, 30, 5, 5, 22] := Array.mem_def.1 (Array.mem_of_getElem? ht)
        have hall : ([30, 30, 5, 5, 22].all fun u => !Tryd.prog.wantsStandIn u) = true := by kernel_rfl
        exact (show Tryd.prog.wantsStandIn t = false by simpa using List.all_eq_true.1 hall t hm)⟩)
    (by kernel_rfl)
#print axioms card
end Go.Proofs.YtjmjinplihlhcaaDoor.cellOther
