/-
  GeomApart (turntablelaw17): holds for every input. No condition but that the inputs are a Geo and numbers. (Made by gen17/l17apart.py.)
-/
import Derived.Test.YtgicjdlpkphfnaaHd17
import Derived.Test.YtgicjdlpkphfnaaGeS
import Derived.BigRegion
import Derived.BigQuiet
import Derived.Deep.CutRange
import Derived.Test.YtgicjdlpkphfnaaRf9
import Derived.Test.YtgicjdlpkphfnaaGeZ
import Derived.Test.YtgicjdlpkphfnaaOpG

namespace Go.Proofs.Ytgicjdlpkphfnaa.geomApart
open Go.RowKit Go.Maps
set_option maxRecDepth 100000

theorem rem17 (W : World) (a b c : Int) (h0 : 0 < b) (ha : 0 ≤ a) (h : a % b = c) (hb : b ≤ 1000000) (_ha2 : a ≤ 1000000) : (binOp .rem 3 (.int .i64 a) (.int .i64 b)).run Try.prog W = .ok (.int .i64 c) W := by
  have e : Int.tmod a b = c := by rw [Int.tmod_eq_emod_of_nonneg ha]; exact h
  have hb0 : b ≠ 0 := by omega
  have h2 : 0 ≤ a % b ∧ a % b < b := ⟨Int.emod_nonneg _ hb0, Int.emod_lt_of_pos _ h0⟩
  have hw := wrap17 c (by omega) (by omega)
  go_simp
theorem blank_right {g : Ge.G} (h : g.ok) : Tb.right (blank17 g) = true := by
  unfold blank17
  rw [if_pos (Ge.right_iff.2 h)]
  rcases Ge.exts_of h with e | e | e | e | e <;> rw [e] <;> decide +kernel

set_option maxHeartbeats 8000000 in
theorem walkN (hOk : GeomOk) (w : World) (g : Ge.G) (a b : Int) (ha : 0 ≤ a ∧ a ≤ 255) (hb8 : 0 ≤ b ∧ b ≤ 255) : Calls Try.prog 4 #[.agg #[.int .i64 g.E, .int .i64 g.S, .int .i64 g.M], .int .u8 a, .int .u8 b] w fun e w' => e = .returned (.bool true) ∧ Below w.heap.size w w' := by
  have HH := Lib.hid (fun (W : World) => head17_any hOk W)
  have hb := Blk.new w #[.int .i64 g.E, .int .i64 g.S, .int .i64 g.M] 23
  have HB := Lib.hid (show Below w.heap.size w (w.alloc (.cells #[.int .i64 g.E, .int .i64 g.S, .int .i64 g.M] 23)) from (Below.refl _ _).alloc (Nat.le_refl _) _)
  obtain ⟨wa, hwa⟩ : ∃ wa, (w.alloc (.cells #[.int .i64 g.E, .int .i64 g.S, .int .i64 g.M] 23)) = wa := ⟨_, rfl⟩
  rw [hwa] at HB hb
  have HW := Lib.hid hwa
  have HX := Lib.hid (fun (W : World) (hW : Below wa.heap.size wa W) => show W.cell? ⟨w.heap.size, 0, none⟩ = some (.int .i64 g.E) ∧ W.cell? ⟨w.heap.size, 1, none⟩ = some (.int .i64 g.S) ∧ W.cell? ⟨w.heap.size, 2, none⟩ = some (.int .i64 g.M) from ⟨((Kept.of hW []).blk hb (by simp)).cell 0, ((Kept.of hW []).blk hb (by simp)).cell 1, ((Kept.of hW []).blk hb (by simp)).cell 2⟩)
  have HSA := Lib.hid (show w.heap.size < wa.heap.size from hb.lt)
  clear hb hwa
  by_cases hok : g.ok
  rotate_left
  · have hrt : Ge.right g = false := decide_eq_false hok
    have HR := Lib.hid (fun (W : World) => show Calls Try.prog 9 #[.agg #[.int .i64 g.E, .int .i64 g.S, .int .i64 g.M]] W (fun e w' => e = .returned (.bool false) ∧ Below W.heap.size W w') by have := hOk.right g W; rwa [hrt] at this)
    clear hok hrt hOk
    go_enter Try.func4, Try.ntmps4
    go_wp2_with fail
    rw [HW.out]
    refine (HH.out wa).mono ?_
    rintro e w1 ⟨rfl, d1⟩
    obtain ⟨x0, x1, x2⟩ := HX.out w1 d1
    go_wp2_with fail
    refine (HR.out w1).mono ?_
    rintro e w2 ⟨rfl, d2⟩
    have HB2 := Lib.hid (HB.out.trans ((d1.trans (d2.mono d1.size)).mono HB.out.size))
    clear d1 d2
    go_wp2
    go_ret
    exact ⟨rfl, HB2.out⟩
  · have hrt : Ge.right g = true := decide_eq_true hok
    have HR := Lib.hid (fun (W : World) => show Calls Try.prog 9 #[.agg #[.int .i64 g.E, .int .i64 g.S, .int .i64 g.M]] W (fun e w' => e = .returned (.bool true) ∧ Below W.heap.size W w') by have := hOk.right g W; rwa [hrt] at this)
    have hE : 4 ≤ g.E ∧ g.E ≤ 8 ∧ 1 ≤ g.S ∧ g.S ≤ 64 := by obtain ⟨h1, h2, h3, h4, -⟩ := hok; exact ⟨h1, h2, h3, h4⟩
    obtain ⟨i, hi⟩ : ∃ i, Int.tmod a g.E = i := ⟨_, rfl⟩
    obtain ⟨k, hk⟩ : ∃ k, Int.tmod b g.E = k := ⟨_, rfl⟩
    have hi0 : 0 ≤ i ∧ i < g.E := by rw [← hi, Int.tmod_eq_emod_of_nonneg ha.1]; exact ⟨Int.emod_nonneg _ (by omega), Int.emod_lt_of_pos _ (by omega)⟩
    have hk0 : 0 ≤ k ∧ k < g.E := by rw [← hk, Int.tmod_eq_emod_of_nonneg hb8.1]; exact ⟨Int.emod_nonneg _ (by omega), Int.emod_lt_of_pos _ (by omega)⟩
    have hw1 := wrap17 a (by omega) (by omega)
    have hw2 := wrap17 b (by omega) (by omega)
    have hx := Ge.first_in hok hi0.1 hi0.2
    have hy := Ge.first_in hok hk0.1 hk0.2
    have hxy := Ge.first_apart hok hi0.1 hi0.2 hk0.1 hk0.2
    have hz := Ge.size_le hok
    obtain ⟨x, hxx⟩ : ∃ x, Ge.first g i = x := ⟨_, rfl⟩
    obtain ⟨y, hyy⟩ : ∃ y, Ge.first g k = y := ⟨_, rfl⟩
    obtain ⟨n, hnn⟩ : ∃ n, Ge.size g = n := ⟨_, rfl⟩
    rw [hxx] at hx hxy
    rw [hyy] at hy hxy
    rw [hnn] at hx hy hz
    have FX := Lib.hid (fun (W : World) => show Calls Try.prog 13 #[.agg #[.int .i64 g.E, .int .i64 g.S, .int .i64 g.M], .int .i64 i] W (fun e w' => e = .returned (.int .i64 x) ∧ Below W.heap.size W w') by have := hOk.first g i W; rwa [hxx] at this)
    have FY := Lib.hid (fun (W : World) => show Calls Try.prog 13 #[.agg #[.int .i64 g.E, .int .i64 g.S, .int .i64 g.M], .int .i64 k] W (fun e w' => e = .returned (.int .i64 y) ∧ Below W.heap.size W w') by have := hOk.first g k W; rwa [hyy] at this)
    have FN := Lib.hid (fun (W : World) => show Calls Try.prog 11 #[.agg #[.int .i64 g.E, .int .i64 g.S, .int .i64 g.M]] W (fun e w' => e = .returned (.int .i64 n) ∧ Below W.heap.size W w') by have := hOk.size g W; rwa [hnn] at this)
    have HBL := Lib.hid (fun (W : World) => hOk.blank g W)
    have HBR := Lib.hid (blank_right hok)
    have hw3 := wrap17 (x + g.S) (by omega) (by omega)
    have hw4 := wrap17 (y + g.S) (by omega) (by omega)
    clear hok hrt hOk hxx hyy hnn
    go_enter Try.func4, Try.ntmps4
    go_wp2_with fail
    rw [HW.out]
    refine (HH.out wa).mono ?_
    rintro e w1 ⟨rfl, d1⟩
    have H1 := Lib.hid d1
    obtain ⟨x0, x1, x2⟩ := HX.out w1 d1
    clear d1
    go_wp2_with fail
    refine (HR.out w1).mono ?_
    rintro e w2 ⟨rfl, d2⟩
    have H2 := Lib.hid (H1.out.trans (d2.mono H1.out.size))
    clear d2 x0 x1 x2
    obtain ⟨x0, x1, x2⟩ := HX.out w2 H2.out
    have hs := Nat.lt_of_lt_of_le HSA.out H2.out.size
    go_wp2_with fail
    refine (FX.out w2).mono ?_
    rintro e w3 ⟨rfl, d⟩
    have H3 := Lib.hid (H2.out.trans (d.mono H2.out.size))
    clear d x0 x1 x2 hs
    have hs := Nat.lt_of_lt_of_le HSA.out H3.out.size
    obtain ⟨x0, x1, x2⟩ := HX.out w3 H3.out
    go_wp2_with fail
    refine (FY.out w3).mono ?_
    rintro e w4 ⟨rfl, d⟩
    have H4 := Lib.hid (H3.out.trans (d.mono H3.out.size))
    clear d x0 x1 x2 hs
    have hs := Nat.lt_of_lt_of_le HSA.out H4.out.size
    obtain ⟨x0, x1, x2⟩ := HX.out w4 H4.out
    go_wp2_with fail
    refine (FN.out w4).mono ?_
    rintro e w5 ⟨rfl, d⟩
    have H5 := Lib.hid (H4.out.trans (d.mono H4.out.size))
    clear d x0 x1 x2 hs
    have hs := Nat.lt_of_lt_of_le HSA.out H5.out.size
    obtain ⟨x0, x1, x2⟩ := HX.out w5 H5.out
    have t1 : decide (2 ≤ x) = true := decide_eq_true hx.1
    have t2 : decide (x + g.S ≤ n) = true := decide_eq_true hx.2
    have t3 : decide (n ≤ 4096) = true := decide_eq_true (by omega)
    have HE := Lib.hid (HB.out.trans (H5.out.mono HB.out.size))
    by_cases hik : i = k
    · have hxy2 : x = y := hxy.2.1 hik
      have s1 : (i == k) = true := by simpa using hik
      have s2 : (x == y) = true := by simpa using hxy2
      clear hik hxy2 hxy
      go_wp2_with fail
      refine (HBL.out w5).mono ?_
      rintro e w6 ⟨A, cap, rfl, h1', h2', h3', d⟩
      obtain ⟨t, ht⟩ : ∃ t, blank17 g = t := ⟨_, rfl⟩
      rw [ht] at HBR h3' h1' ⊢
      have HTR := Lib.hid (rright9_any t.gen t.opn A cap t.xs.length t.xs w6 rfl h3')
      have HD := Lib.hid (HE.out.trans (d.mono HE.out.size))
      have e0 : (⟨t.gen, t.opn, t.xs⟩ : Tb.T) = t := rfl
      rw [e0, HBR.out] at HTR
      clear d h1' h2' h3'
      go_wp2_with fail
      refine HTR.out.mono ?_
      rintro e w7 ⟨rfl, d⟩
      have HF := Lib.hid (HD.out.trans (d.mono HD.out.size))
      clear d
      go_wp2
      go_ret
      exact ⟨rfl, HF.out⟩
    · have hxy2 : ¬ x = y := fun h => hik (hxy.2.2 h)
      have s1 : (i == k) = false := by simpa using hik
      have s2 : (x == y) = false := by simpa using hxy2
      have hor := hxy.1.resolve_left hik
      by_cases h1 : x + g.S ≤ y
      · have u1 : decide (x + g.S ≤ y) = true := decide_eq_true h1
        clear hik hxy2 hxy hor
        go_wp2_with fail
        refine (HBL.out w5).mono ?_
        rintro e w6 ⟨A, cap, rfl, h1', h2', h3', d⟩
        obtain ⟨t, ht⟩ : ∃ t, blank17 g = t := ⟨_, rfl⟩
        rw [ht] at HBR h3' h1' ⊢
        have HTR := Lib.hid (rright9_any t.gen t.opn A cap t.xs.length t.xs w6 rfl h3')
        have HD := Lib.hid (HE.out.trans (d.mono HE.out.size))
        have e0 : (⟨t.gen, t.opn, t.xs⟩ : Tb.T) = t := rfl
        rw [e0, HBR.out] at HTR
        clear d h1' h2' h3'
        go_wp2_with fail
        refine HTR.out.mono ?_
        rintro e w7 ⟨rfl, d⟩
        have HF := Lib.hid (HD.out.trans (d.mono HD.out.size))
        clear d
        go_wp2
        go_ret
        exact ⟨rfl, HF.out⟩
      · have u1 : decide (x + g.S ≤ y) = false := decide_eq_false h1
        have u2 : decide (y + g.S ≤ x) = true := decide_eq_true (hor.resolve_left h1)
        clear hik hxy2 hxy hor
        go_wp2_with fail
        refine (HBL.out w5).mono ?_
        rintro e w6 ⟨A, cap, rfl, h1', h2', h3', d⟩
        obtain ⟨t, ht⟩ : ∃ t, blank17 g = t := ⟨_, rfl⟩
        rw [ht] at HBR h3' h1' ⊢
        have HTR := Lib.hid (rright9_any t.gen t.opn A cap t.xs.length t.xs w6 rfl h3')
        have HD := Lib.hid (HE.out.trans (d.mono HE.out.size))
        have e0 : (⟨t.gen, t.opn, t.xs⟩ : Tb.T) = t := rfl
        rw [e0, HBR.out] at HTR
        clear d h1' h2' h3'
        go_wp2_with fail
        refine HTR.out.mono ?_
        rintro e w7 ⟨rfl, d⟩
        have HF := Lib.hid (HD.out.trans (d.mono HD.out.size))
        clear d
        go_wp2
        go_ret
        exact ⟨rfl, HF.out⟩

open Go.ChangeShapes Go.WideShapes Go.ChangeAt

theorem walk (w : World) (g : Ge.G) (a : Int) (ha : 0 ≤ a ∧ a ≤ 255) (b : Int) (hb : 0 ≤ b ∧ b ≤ 255) :
    Calls Try.prog 4 #[.agg #[.int .i64 g.E, .int .i64 g.S, .int .i64 g.M], .int .u8 a, .int .u8 b] w fun e w' => e = .returned (.bool true) ∧ Below w.heap.size w w' :=
  walkN geomOk w g a b ha hb

set_option maxRecDepth 100000 in
theorem lifted (os : Os) (started : os.Started) (H : Type) (enc : TypeId × Value → H) :
    ReturnsInHanded {} Try.checked os 4 .any (Rows.geomApartSpec.pre6 enc Try.prog Try.f4 Rows.geomApartRow.domain false) (Rows.geomApartSpec.post enc Try.prog Try.f4 false true false false) := by
  refine returnsInHanded_of_change (C := Try.checked) own started (by kernel_rfl) Try.func4
    (ChangeSpec.witness6 (enc := enc) (C := Try.checked) false ⟨#[], #[.agg #[.int .i64 0, .int .i64 0, .int .i64 0], .int .u8 0, .int .u8 0], []⟩ 8 (by kernel_rfl) (by kernel_rfl) (by kernel_rfl) (by kernel_rfl)) ?_
  intro W base args ds gs before hval0 hW hcnd _
  have hval : ∀ (j : Nat) t v, Try.f4.params[j]? = some t → args[j]? = some v → Value.okWide Try.prog W .any base t v := hval0
  have hfin := fun W' => law_post (enc := enc) (P := Try.prog) (f := Try.f4) (s := Rows.geomApartSpec) (tb := 4) (W := W) (W' := W') (args := args) (ds := ds) (gs := gs) (before := before) laidOut rfl (by kernel_rfl) Try.underlying4 (by kernel_rfl) (fun xs h => by rw [Try.params4] at h; match xs, h with | [_, _, _], _ => rfl) hW
  obtain ⟨p, q, hA0, hV, rfl, hfz, hnd⟩ := hW
  have hA : DataW.TrodAll enc Try.prog W 0 (fun _ => true) true Try.f4.params.toList args.toList ds p := hA0
  rw [Try.params4] at hA hval
  obtain ⟨v0, vs0, d0, ds0, p0, q0, hargs, rfl, rfl, h0, r0⟩ := trodAll_cons hA
  obtain ⟨v1, vs1, d1, ds1, p1, q1, rfl, rfl, rfl, h1, r1⟩ := trodAll_cons r0
  obtain ⟨v2, vs2, d2, ds2, p2, q2, rfl, rfl, rfl, h2, r2⟩ := trodAll_cons r1
  obtain ⟨rfl, rfl, rfl⟩ := trodAll_nil r2
  obtain rfl : args = #[v0, v1, v2] := by cases args; simp_all
  obtain ⟨g0, rfl⟩ := open_geo (hval 0 23 v0 rfl rfl) h0
  obtain ⟨a1, rfl, rfl, rfl, w1⟩ := open_int Try.underlying5 (hval 1 5 v1 rfl rfl) h1
  obtain ⟨a2, rfl, rfl, rfl, w2⟩ := open_int Try.underlying5 (hval 2 5 v2 rfl rfl) h2
  refine (walk W g0 a1 (bounds_u8 w1) a2 (bounds_u8 w2)).mono fun e W' ⟨he, hg⟩ => ?_
  subst he
  exact ⟨_, rfl, hfin W' hg⟩

theorem proved : Rows.GeomApartSaid :=
  OpenClaim.holds_of_wide 4 Try.f4 rfl rfl rfl rfl rfl rfl rfl ⟨rfl, rfl, rfl, rfl, rfl⟩ rfl rfl rfl rfl rfl (by kernel_rfl) Try.func4 (by kernel_rfl)
    (of_decide_eq_true (by kernel_rfl)) (by unfold Func.isWrapper; first | (rw [if_pos (by decide +kernel)]; kernel_rfl) | (rw [if_neg (by decide +kernel)]; exact ⟨rfl, rfl⟩))
    (fun os started H enc _ => lifted os started H enc)
#print axioms proved
end Go.Proofs.Ytgicjdlpkphfnaa.geomApart
