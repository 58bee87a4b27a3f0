/-
  GeomCircle (turntablelaw17): holds for every input. No condition but that the inputs are a Geo and numbers. (Made by gen17/l17circle.py.)
-/
import Derived.Test.YtgicjdlpkphfnaaHd17
import Derived.Test.YtgicjdlpkphfnaaGeS
import Derived.BigRegion
import Derived.BigQuiet
import Derived.Deep.CutRange
import Derived.Test.YtgicjdlpkphfnaaGeZ
import Derived.Test.YtgicjdlpkphfnaaOpG

namespace Go.Proofs.Ytgicjdlpkphfnaa.geomCircle
open Go.RowKit Go.Maps
set_option maxRecDepth 100000

theorem rem17 (W : World) (a b c : Int) (h0 : 0 < b) (ha : 0 ≤ a) (h : a % b = c) (hb : b ≤ 1000000) (_ha2 : a ≤ 1000000) : (binOp .rem 3 (.int .i64 a) (.int .i64 b)).run Try.prog W = .ok (.int .i64 c) W := by
  have e : Int.tmod a b = c := by rw [Int.tmod_eq_emod_of_nonneg ha]; exact h
  have hb0 : b ≠ 0 := by omega
  have h2 : 0 ≤ a % b ∧ a % b < b := ⟨Int.emod_nonneg _ hb0, Int.emod_lt_of_pos _ h0⟩
  have hw := wrap17 c (by omega) (by omega)
  go_simp

set_option maxHeartbeats 8000000 in
theorem walkN (hOk : GeomOk) (w : World) (g : Ge.G) (z : Int) (hz : 0 ≤ z ∧ z ≤ 65535) : Calls Try.prog 7 #[.agg #[.int .i64 g.E, .int .i64 g.S, .int .i64 g.M], .int .u16 z] w fun e w' => e = .returned (.bool true) ∧ Below w.heap.size w w' := by
  have HH := Lib.hid (fun (W : World) => head17_any hOk W)
  have hb := Blk.new w #[.int .i64 g.E, .int .i64 g.S, .int .i64 g.M] 23
  have HB := Lib.hid (show Below w.heap.size w (w.alloc (.cells #[.int .i64 g.E, .int .i64 g.S, .int .i64 g.M] 23)) from (Below.refl _ _).alloc (Nat.le_refl _) _)
  obtain ⟨wa, hwa⟩ : ∃ wa, (w.alloc (.cells #[.int .i64 g.E, .int .i64 g.S, .int .i64 g.M] 23)) = wa := ⟨_, rfl⟩
  rw [hwa] at HB hb
  have HW := Lib.hid hwa
  have HX := Lib.hid (fun (W : World) (hW : Below wa.heap.size wa W) => show W.cell? ⟨w.heap.size, 0, none⟩ = some (.int .i64 g.E) ∧ W.cell? ⟨w.heap.size, 1, none⟩ = some (.int .i64 g.S) ∧ W.cell? ⟨w.heap.size, 2, none⟩ = some (.int .i64 g.M) from ⟨((Kept.of hW []).blk hb (by simp)).cell 0, ((Kept.of hW []).blk hb (by simp)).cell 1, ((Kept.of hW []).blk hb (by simp)).cell 2⟩)
  have HSA := Lib.hid (show w.heap.size < wa.heap.size from hb.lt)
  clear hb hwa
  by_cases hok : g.ok
  rotate_left
  · have hrt : Ge.right g = false := decide_eq_false hok
    have HR := Lib.hid (fun (W : World) => show Calls Try.prog 9 #[.agg #[.int .i64 g.E, .int .i64 g.S, .int .i64 g.M]] W (fun e w' => e = .returned (.bool false) ∧ Below W.heap.size W w') by have := hOk.right g W; rwa [hrt] at this)
    clear hok hrt hOk
    go_enter Try.func7, Try.ntmps7
    go_wp2_with fail
    rw [HW.out]
    refine (HH.out wa).mono ?_
    rintro e w1 ⟨rfl, d1⟩
    obtain ⟨x0, x1, x2⟩ := HX.out w1 d1
    go_wp2_with fail
    refine (HR.out w1).mono ?_
    rintro e w2 ⟨rfl, d2⟩
    have HB2 := Lib.hid (HB.out.trans ((d1.trans (d2.mono d1.size)).mono HB.out.size))
    clear d1 d2
    go_wp2
    go_ret
    exact ⟨rfl, HB2.out⟩
  · have hrt : Ge.right g = true := decide_eq_true hok
    have HR := Lib.hid (fun (W : World) => show Calls Try.prog 9 #[.agg #[.int .i64 g.E, .int .i64 g.S, .int .i64 g.M]] W (fun e w' => e = .returned (.bool true) ∧ Below W.heap.size W w') by have := hOk.right g W; rwa [hrt] at this)
    obtain ⟨sz, hsz⟩ : ∃ sz, Ge.size g = sz := ⟨_, rfl⟩
    have HSZ := Lib.hid (fun (W : World) => show Calls Try.prog 11 #[.agg #[.int .i64 g.E, .int .i64 g.S, .int .i64 g.M]] W (fun e w' => e = .returned (.int .i64 sz) ∧ Below W.heap.size W w') by have := hOk.size g W; rwa [hsz] at this)
    have hsl : 6 ≤ sz ∧ sz ≤ 514 := by rw [← hsz]; exact Ge.size_le hok
    obtain ⟨k, hk⟩ : ∃ k, Int.tmod z sz = k := ⟨_, rfl⟩
    have hk0 : 0 ≤ k ∧ k < sz := by rw [← hk, Int.tmod_eq_emod_of_nonneg hz.1]; exact ⟨Int.emod_nonneg _ (by omega), Int.emod_lt_of_pos _ (by omega)⟩
    have hwz := wrap17 z (by omega) (by omega)
    have HALL := Lib.hid (Ge.many_all hok (k := k) (by rw [hsz]; exact hk0.2))
    have HF := Lib.hid (fun (i : Int) (W : World) => hOk.first g i W)
    have HST := Lib.hid (fun (i : Int) (h0 : 0 ≤ i) (h1 : i < g.E) => Ge.many_step hok (k := k) h0 h1)
    have HFI := Lib.hid (fun (i : Int) (h0 : 0 ≤ i) (h1 : i < g.E) => Ge.first_in hok h0 h1)
    have hE : 4 ≤ g.E ∧ g.E ≤ 8 ∧ 1 ≤ g.S ∧ g.S ≤ 64 := by obtain ⟨h1, h2, h3, h4, -⟩ := hok; exact ⟨h1, h2, h3, h4⟩
    have HSL := Lib.hid (show Ge.size g ≤ 514 by rw [hsz]; exact hsl.2)
    clear hok hrt hOk hsz hz
    go_enter Try.func7, Try.ntmps7
    go_wp2_with fail
    rw [HW.out]
    refine (HH.out wa).mono ?_
    rintro e w1 ⟨rfl, d1⟩
    have H1 := Lib.hid d1
    obtain ⟨x0, x1, x2⟩ := HX.out w1 d1
    clear d1
    go_wp2_with fail
    refine (HR.out w1).mono ?_
    rintro e w2 ⟨rfl, d2⟩
    have H2 := Lib.hid (H1.out.trans (d2.mono H1.out.size))
    clear d2 x0 x1 x2
    obtain ⟨x0, x1, x2⟩ := HX.out w2 H2.out
    have hs := Nat.lt_of_lt_of_le HSA.out H2.out.size
    go_wp2_with fail
    refine (HSZ.out w2).mono ?_
    rintro e w3 ⟨rfl, d⟩
    have H3 := Lib.hid (H2.out.trans (d.mono H2.out.size))
    clear d x0 x1 x2 hs
    have hs := Nat.lt_of_lt_of_le HSA.out H3.out.size
    obtain ⟨x0, x1, x2⟩ := HX.out w3 H3.out
    go_wp2
    go_loopw [7, 8] (fun s7 s8 wr => ∃ i : Nat, s8 = .int .i64 (i : Int) ∧ (i : Int) ≤ g.E ∧ s7 = .int .i64 (Ge.many g k i) ∧ Below wa.heap.size wa wr) (fun _ i _ => 8 - (intOf i).toNat)
    case atStart => exact ⟨0, rfl, by omega, by rw [show ((0 : Nat) : Int) = 0 from rfl, Ge.many_zero], H3.out⟩
    case round =>
      obtain ⟨i, rfl, hi, rfl, hbr⟩ := hrel
      have HBR := Lib.hid hbr
      clear x0 x1 x2
      obtain ⟨x0, x1, x2⟩ := HX.out wr hbr
      have hml := Ge.many_le (g := g) (k := k) (i := (i : Int))
      by_cases hlt : (i : Int) < g.E
      · have hst := HST.out i (by omega) hlt
        have hfi := HFI.out i (by omega) hlt
        have hsl2 := HSL.out
        obtain ⟨mi, hmi⟩ : ∃ mi, Ge.many g k (i : Int) = mi := ⟨_, rfl⟩
        rw [hmi] at hst hml ⊢
        obtain ⟨f, hf⟩ : ∃ f, Ge.first g (i : Int) = f := ⟨_, rfl⟩
        have HF1 := Lib.hid (fun (W : World) => show Calls Try.prog 13 #[.agg #[.int .i64 g.E, .int .i64 g.S, .int .i64 g.M], .int .i64 (i : Int)] W (fun e w' => e = .returned (.int .i64 f) ∧ Below W.heap.size W w') by have := HF.out i W; rwa [hf] at this)
        rw [hf] at hst hfi
        have HMN := Lib.hid hst
        have hwf := wrap17 (f + g.S) (by omega) (by omega)
        have hwm := wrap17 (mi + 1) (by omega) (by omega)
        have q0 : decide ((i : Int) < g.E) = true := decide_eq_true hlt
        clear hst hf hmi hbr
        go_wp2_with fail
        refine (HF1.out wr).mono ?_
        rintro e wn ⟨rfl, d⟩
        have HBN := Lib.hid (HBR.out.trans (d.mono HBR.out.size))
        clear d x0 x1 x2
        obtain ⟨x0, x1, x2⟩ := HX.out wn HBN.out
        by_cases c1 : f ≤ k
        · have t1 : decide (f ≤ k) = true := decide_eq_true c1
          by_cases c2 : k < f + g.S
          · have t2 : decide (k < f + g.S) = true := decide_eq_true c2
            have HM2 := Lib.hid (show Ge.many g k ((i : Int) + 1) = mi + 1 by rw [HMN.out, if_pos ⟨c1, c2⟩])
            go_wp2
            go_roundw
            case rel => exact ⟨i + 1, by go_num, by omega, by rw [Int.natCast_add, Int.natCast_one, HM2.out], HBN.out⟩
            case measure => simp [intOf]; omega
          · have t2 : decide (k < f + g.S) = false := decide_eq_false c2
            have HM2 := Lib.hid (show Ge.many g k ((i : Int) + 1) = mi by rw [HMN.out, if_neg (fun h => c2 h.2)])
            go_wp2
            go_roundw
            case rel => exact ⟨i + 1, by go_num, by omega, by rw [Int.natCast_add, Int.natCast_one, HM2.out], HBN.out⟩
            case measure => simp [intOf]; omega
        · have t1 : decide (f ≤ k) = false := decide_eq_false c1
          have HM2 := Lib.hid (show Ge.many g k ((i : Int) + 1) = mi by rw [HMN.out, if_neg (fun h => c1 h.1)])
          go_wp2
          go_roundw
          case rel => exact ⟨i + 1, by go_num, by omega, by rw [Int.natCast_add, Int.natCast_one, HM2.out], HBN.out⟩
          case measure => simp [intOf]; omega
      · have q0 : decide ((i : Int) < g.E) = false := decide_eq_false hlt
        have he : (i : Int) = g.E := by omega
        have hall := HALL.out
        rw [← he] at hall
        rw [hall]
        have HE := Lib.hid (HB.out.trans (hbr.mono HB.out.size))
        clear hall hml hbr
        by_cases c : 2 ≤ k
        · rw [if_pos c]
          have t1 : decide (k < 2) = false := decide_eq_false (by omega)
          have t2 : decide (2 ≤ k) = true := decide_eq_true c
          clear he hlt
          go_wp2
          go_ret
          exact ⟨rfl, HE.out⟩
        · rw [if_neg c]
          have t1 : decide (k < 2) = true := decide_eq_true (by omega)
          clear he hlt
          go_wp2
          go_ret
          exact ⟨rfl, HE.out⟩

open Go.ChangeShapes Go.WideShapes Go.ChangeAt

theorem walk (w : World) (g : Ge.G) (z : Int) (hz : 0 ≤ z ∧ z ≤ 65535) :
    Calls Try.prog 7 #[.agg #[.int .i64 g.E, .int .i64 g.S, .int .i64 g.M], .int .u16 z] w fun e w' => e = .returned (.bool true) ∧ Below w.heap.size w w' :=
  walkN geomOk w g z hz

set_option maxRecDepth 100000 in
theorem lifted (os : Os) (started : os.Started) (H : Type) (enc : TypeId × Value → H) :
    ReturnsInHanded {} Try.checked os 7 .any (Rows.geomCircleSpec.pre6 enc Try.prog Try.f7 Rows.geomCircleRow.domain false) (Rows.geomCircleSpec.post enc Try.prog Try.f7 false true false false) := by
  refine returnsInHanded_of_change (C := Try.checked) own started (by kernel_rfl) Try.func7
    (ChangeSpec.witness6 (enc := enc) (C := Try.checked) false ⟨#[], #[.agg #[.int .i64 0, .int .i64 0, .int .i64 0], .int .u16 0], []⟩ 8 (by kernel_rfl) (by kernel_rfl) (by kernel_rfl) (by kernel_rfl)) ?_
  intro W base args ds gs before hval0 hW hcnd _
  have hval : ∀ (j : Nat) t v, Try.f7.params[j]? = some t → args[j]? = some v → Value.okWide Try.prog W .any base t v := hval0
  have hfin := fun W' => law_post (enc := enc) (P := Try.prog) (f := Try.f7) (s := Rows.geomCircleSpec) (tb := 4) (W := W) (W' := W') (args := args) (ds := ds) (gs := gs) (before := before) laidOut rfl (by kernel_rfl) Try.underlying4 (by kernel_rfl) (fun xs h => by rw [Try.params7] at h; match xs, h with | [_, _], _ => rfl) hW
  obtain ⟨p, q, hA0, hV, rfl, hfz, hnd⟩ := hW
  have hA : DataW.TrodAll enc Try.prog W 0 (fun _ => true) true Try.f7.params.toList args.toList ds p := hA0
  rw [Try.params7] at hA hval
  obtain ⟨v0, vs0, d0, ds0, p0, q0, hargs, rfl, rfl, h0, r0⟩ := trodAll_cons hA
  obtain ⟨v1, vs1, d1, ds1, p1, q1, rfl, rfl, rfl, h1, r1⟩ := trodAll_cons r0
  obtain ⟨rfl, rfl, rfl⟩ := trodAll_nil r1
  obtain rfl : args = #[v0, v1] := by cases args; simp_all
  obtain ⟨g0, rfl⟩ := open_geo (hval 0 23 v0 rfl rfl) h0
  obtain ⟨a1, rfl, rfl, rfl, w1⟩ := open_int Try.underlying37 (hval 1 37 v1 rfl rfl) h1
  refine (walk W g0 a1 (bounds_u16 w1)).mono fun e W' ⟨he, hg⟩ => ?_
  subst he
  exact ⟨_, rfl, hfin W' hg⟩

theorem proved : Rows.GeomCircleSaid :=
  OpenClaim.holds_of_wide 7 Try.f7 rfl rfl rfl rfl rfl rfl rfl ⟨rfl, rfl, rfl, rfl, rfl⟩ rfl rfl rfl rfl rfl (by kernel_rfl) Try.func7 (by kernel_rfl)
    (of_decide_eq_true (by kernel_rfl)) (by unfold Func.isWrapper; first | (rw [if_pos (by decide +kernel)]; kernel_rfl) | (rw [if_neg (by decide +kernel)]; exact ⟨rfl, rfl⟩))
    (fun os started H enc _ => lifted os started H enc)
#print axioms proved
end Go.Proofs.Ytgicjdlpkphfnaa.geomCircle
