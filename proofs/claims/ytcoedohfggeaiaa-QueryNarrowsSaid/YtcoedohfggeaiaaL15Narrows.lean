/-
  P15.1, QueryNarrows: for any entry, any Ask, any service, any class and any time the law returns true: to ask of a service, a class, or a shorter time, besides, tells nothing more. No condition.
-/
import Derived.Test.YtcoedohfggeaiaaHdQ
import Derived.Test.YtcoedohfggeaiaaQyP
import Derived.BigRegion
import Derived.BigQuiet
import Derived.Deep.CutRange
namespace Go.Proofs.Ytcoedohfggeaiaa.queryNarrows
open Go.ChangeShapes Go.WideShapes Go.ChangeAt Go.RowKit Go.Maps En Qy
set_option maxRecDepth 100000

theorem tdiv2 (x : Int) (h : -9223372036854775808 ≤ x ∧ x ≤ 9223372036854775807) : -4611686018427387904 ≤ x.tdiv 2 ∧ x.tdiv 2 ≤ 4611686018427387904 := by
  rcases Int.le_total 0 x with h0 | h0
  · rw [Int.tdiv_eq_ediv_of_nonneg h0]; omega
  · obtain ⟨y, rfl⟩ : ∃ y, x = -y := ⟨-x, by omega⟩
    rw [Int.neg_tdiv, Int.tdiv_eq_ediv_of_nonneg (by omega)]; omega
set_option maxHeartbeats 16000000 in
theorem walkN (hOK : QueryOk) (w : World) (t : Ent) (qa : Qy.A) (s : List UInt8) (cl mo : Int) (hT : EntIn w t) (hK : AskIn qa) (hcl : 0 ≤ cl ∧ cl ≤ 255) (hmo : 0 ≤ mo ∧ mo ≤ 255) :
    Calls Try.prog 6 #[.agg (enA t.e (.slice t.A t.e.sv.length t.cap)), .agg (askA qa), .string (str s), .int .u8 cl, .int .u8 mo] w fun e w' => e = .returned (.bool true) ∧ Below w.heap.size w w' := by
  obtain ⟨tn, htn⟩ : ∃ tn, t.e.sv.length = tn := ⟨_, rfl⟩
  rw [htn]
  have hb0 : Below w.heap.size w ((w.alloc (.cells (enA t.e (.slice t.A tn t.cap)) 29)).alloc (.cells (askA qa) 31)) := ((Below.refl _ _).alloc (Nat.le_refl _) _).alloc (by simp) _
  have hE0 := (BoxE.new w t.e (.slice t.A tn t.cap)).below ((Below.refl _ _).alloc (Nat.le_refl _) (.cells (askA qa) 31))
  have hq0 := BoxQ.new (w.alloc (.cells (enA t.e (.slice t.A tn t.cap)) 29)) qa
  rw [World.size_alloc] at hq0
  obtain ⟨W0, hW0⟩ : ∃ W0, (w.alloc (.cells (enA t.e (.slice t.A tn t.cap)) 29)).alloc (.cells (askA qa) 31) = W0 := ⟨_, rfl⟩
  rw [hW0] at hb0 hq0 hE0
  have HOK := Lib.hid hOK
  have HTN := Lib.hid htn
  have HT0 := Lib.hid (hT.below hb0)
  have HB0 := Lib.hid hb0
  have HK := Lib.hid hK
  obtain ⟨B, hB⟩ : ∃ B, w.heap.size = B := ⟨_, rfl⟩
  rw [hB] at hq0 hE0
  obtain ⟨C, hC⟩ : ∃ C, B + 1 = C := ⟨_, rfl⟩
  rw [hC] at hq0
  have HBX0 := Lib.hid hq0
  have HEX0 := Lib.hid hE0
  have HBQ := Lib.hid hB
  have HCQ := Lib.hid hC
  unfold enA askA at hW0
  unfold enA askA
  have HW0 := Lib.hid hW0
  clear hOK hT hK hb0 hq0 hE0 hW0 hB hC htn
  go_enter Try.func6, Try.ntmps6
  go_wp2_with fail
  rw [HW0.out, HBQ.out, HCQ.out]
  refine (head15_any HOK.out W0).mono ?_
  rintro e w2 ⟨rfl, d1⟩
  have HB1 := Lib.hid (HB0.out.trans (d1.mono HB0.out.size))
  have HBX1 := Lib.hid (HBX0.out.below d1)
  have HEX1 := Lib.hid (HEX0.out.below d1)
  have HT1 := Lib.hid (HT0.out.below d1)
  clear d1 HB0 HBX0 HEX0 HT0 HW0
  have hld := run_loadEn w2 B t.e t.A tn t.cap HEX1.out
  have hlo := Lies.new w2 (enA t.e (.slice t.A tn t.cap)) 29
  have hbo : Below w2.heap.size w2 (w2.alloc (.cells (enA t.e (.slice t.A tn t.cap)) 29)) := (Below.refl _ _).alloc (Nat.le_refl _) _
  have hgr := great15_any (some ⟨w2.heap.size, 0, none⟩) 1 1 [t] _ rfl (by unfold maxLen; omega) (show Lies (w2.alloc (.cells (enA t.e (.slice t.A tn t.cap)) 29)) (some ⟨w2.heap.size, 0, none⟩) (flatEn [t]) by rw [← HTN.out] at hlo ⊢; simpa [flatEn, entCs] using hlo) (fun u hu => by rw [List.mem_singleton.1 hu]; exact HT1.out.below hbo)
  obtain ⟨W3, hW3⟩ : ∃ W3, w2.alloc (.cells (enA t.e (.slice t.A tn t.cap)) 29) = W3 := ⟨_, rfl⟩
  rw [hW3] at hgr hbo
  have HGR := Lib.hid hgr
  have HB3 := Lib.hid (HB1.out.trans (hbo.mono HB1.out.size))
  have HBX3 := Lib.hid (HBX1.out.below hbo)
  have HEX3 := Lib.hid (HEX1.out.below hbo)
  have HT3 := Lib.hid (HT1.out.below hbo)
  unfold enA at hW3 hld
  have HW3 := Lib.hid hW3
  have HLD := Lib.hid hld
  clear hlo hbo hgr hW3 hld HB1 HBX1 HEX1 HT1
  go_wp2_with (refine wpList_loadW rfl 29 _ rfl _ _ rfl HLD.out ?_)
  rw [HW3.out]
  refine HGR.out.mono ?_
  rintro e w4 ⟨r, rfl, hr, rfl⟩
  rcases r with _ | _
  rotate_left
  · have HB := HB3.out
    clear hr
    go_wp2
    go_ret
    exact ⟨rfl, HB⟩
  have HR2 := Lib.hid (show tn ≤ 9000 by have := (hr rfl).2 t (by simp); rwa [HTN.out] at this)
  clear hr
  obtain ⟨q0, -⟩ := HBX3.out.all
  obtain ⟨zs, hzs⟩ : ∃ zs : Nat, (str qa.sv).size = zs := ⟨_, rfl⟩
  by_cases h9 : 900 < zs
  · have t9 : decide ((900 : Int) < ((str qa.sv).size : Int)) = true := by rw [hzs]; exact decide_eq_true (by omega)
    have HB := HB3.out
    clear hzs h9
    go_wp2
    go_ret
    exact ⟨rfl, HB⟩
  have t9 : decide ((900 : Int) < ((str qa.sv).size : Int)) = false := by rw [hzs]; exact decide_eq_false (by omega)
  clear hzs h9
  obtain ⟨zs, hzs⟩ : ∃ zs : Nat, (str s).size = zs := ⟨_, rfl⟩
  by_cases h9 : 900 < zs
  · have t8 : decide ((900 : Int) < ((str s).size : Int)) = true := by rw [hzs]; exact decide_eq_true (by omega)
    have HB := HB3.out
    clear hzs h9
    go_wp2
    go_ret
    exact ⟨rfl, HB⟩
  have t8 : decide ((900 : Int) < ((str s).size : Int)) = false := by rw [hzs]; exact decide_eq_false (by omega)
  clear hzs h9
  by_cases hs0 : s = []
  · have t7 : (str s).toList.isEmpty = true := by rw [beq_nil]; exact decide_eq_true hs0
    have HB := HB3.out
    clear hs0
    go_wp2
    go_ret
    exact ⟨rfl, HB⟩
  have t7 : (str s).toList.isEmpty = false := by rw [beq_nil]; exact decide_eq_false hs0
  have HSV := Lib.hid (HT3.out.svs (by rw [HTN.out]; exact HR2.out))
  clear hs0 HGR HT3 HW3 q0
  have hol0 := HBX3.out.lt
  obtain ⟨r0, r1, r2, r3, r4, r5, r6⟩ := HBX3.out.all
  obtain ⟨W5, hW5⟩ : ∃ W, w4.alloc (.cells (askA { qa with sv := [] }) 31) = W := ⟨_, rfl⟩
  obtain ⟨W6, hW6⟩ : ∃ W, W5.alloc (.cells (askA { qa with sv := s }) 31) = W := ⟨_, rfl⟩
  obtain ⟨W7, hW7⟩ : ∃ W, W6.alloc (.cells (askA { qa with sv := [], cl := -1 }) 31) = W := ⟨_, rfl⟩
  obtain ⟨W8, hW8⟩ : ∃ W, W7.alloc (.cells (askA { qa with sv := [], cl := cl }) 31) = W := ⟨_, rfl⟩
  have k5 : Below w4.heap.size w4 W5 := by rw [← hW5]; exact (Below.refl _ _).alloc (Nat.le_refl _) _
  have k6 : Below W5.heap.size W5 W6 := by rw [← hW6]; exact (Below.refl _ _).alloc (Nat.le_refl _) _
  have k7 : Below W6.heap.size W6 W7 := by rw [← hW7]; exact (Below.refl _ _).alloc (Nat.le_refl _) _
  have k8 : Below W7.heap.size W7 W8 := by rw [← hW8]; exact (Below.refl _ _).alloc (Nat.le_refl _) _
  have z5 : W5.heap.size = w4.heap.size + 1 := by rw [← hW5]; simp
  have z6 : W6.heap.size = w4.heap.size + 1 + 1 := by rw [← hW6]; simp [z5]
  have z7 : W7.heap.size = w4.heap.size + 1 + 1 + 1 := by rw [← hW7]; simp [z6]
  have b5 : BoxQ W5 w4.heap.size { qa with sv := [] } := by rw [← hW5]; exact BoxQ.new _ _
  have b6 : BoxQ W6 (w4.heap.size + 1) { qa with sv := s } := by rw [← z5, ← hW6]; exact BoxQ.new _ _
  have b7 : BoxQ W7 (w4.heap.size + 1 + 1) { qa with sv := [], cl := -1 } := by rw [← z6, ← hW7]; exact BoxQ.new _ _
  have b8 : BoxQ W8 (w4.heap.size + 1 + 1 + 1) { qa with sv := [], cl := cl } := by rw [← z7, ← hW8]; exact BoxQ.new _ _
  have k68 := k7.trans (k8.mono k7.size)
  have k58 := k6.trans (k68.mono k6.size)
  have k48 := k5.trans (k58.mono k5.size)
  have HQb := Lib.hid (b5.below k58)
  have HQc := Lib.hid (b6.below k68)
  have HQd := Lib.hid (b7.below k8)
  have HQf := Lib.hid b8
  have HB8 := Lib.hid (HB3.out.trans (k48.mono HB3.out.size))
  have HBX8 := Lib.hid (HBX3.out.below k48)
  have HEX8 := Lib.hid (HEX3.out.below k48)
  have HSV8 := Lib.hid (HSV.out.below k48)
  rw [← hW7, ← hW6, ← hW5] at hW8
  unfold askA at hW8
  simp only [show str [] = ({ data := #[] } : ByteArray) from rfl] at hW8
  have HW8 := Lib.hid hW8
  clear hW5 hW6 hW7 hW8 k5 k6 k7 k8 k68 k58 k48 z5 z6 z7 b5 b6 b7 b8 HB3 HBX3 HEX3 HSV
  go_upto_region 12 with fail
  clear r0 r1 r2 r3 r4 r5 r6 hol0
  rw [HW8.out]
  obtain ⟨r0, r1, r2, r3, r4, r5, r6⟩ := HBX8.out.all
  have hol := HBX8.out.lt
  have hi1 := HK.out.lo
  have hi2 := HK.out.hi
  unfold I64 at hi1 hi2
  go_upto_region 18 with fail
  obtain ⟨W9, hW9⟩ : ∃ W, W8.alloc (.cells (askA { qa with lo := wrap64 (qa.lo.tdiv 2 - mo), hi := wrap64 (qa.hi.tdiv 2 + mo) }) 31) = W := ⟨_, rfl⟩
  obtain ⟨W10, hW10⟩ : ∃ W, W9.alloc (.cells (askA { qa with lo := wrap64 (wrap64 (qa.lo.tdiv 2 - mo) + mo / 2), hi := wrap64 (wrap64 (qa.hi.tdiv 2 + mo) - mo / 2) }) 31) = W := ⟨_, rfl⟩
  have k9 : Below W8.heap.size W8 W9 := by rw [← hW9]; exact (Below.refl _ _).alloc (Nat.le_refl _) _
  have k10 : Below W9.heap.size W9 W10 := by rw [← hW10]; exact (Below.refl _ _).alloc (Nat.le_refl _) _
  have z9 : W9.heap.size = W8.heap.size + 1 := by rw [← hW9]; simp
  have b9 : BoxQ W9 W8.heap.size { qa with lo := wrap64 (qa.lo.tdiv 2 - mo), hi := wrap64 (qa.hi.tdiv 2 + mo) } := by rw [← hW9]; exact BoxQ.new _ _
  have b10 : BoxQ W10 (W8.heap.size + 1) { qa with lo := wrap64 (wrap64 (qa.lo.tdiv 2 - mo) + mo / 2), hi := wrap64 (wrap64 (qa.hi.tdiv 2 + mo) - mo / 2) } := by rw [← z9, ← hW10]; exact BoxQ.new _ _
  have k89 := k9.trans (k10.mono k9.size)
  have HQb := Lib.hid (HQb.out.below k89)
  have HQc := Lib.hid (HQc.out.below k89)
  have HQd := Lib.hid (HQd.out.below k89)
  have HQf := Lib.hid (HQf.out.below k89)
  have HQg := Lib.hid (b9.below k10)
  have HQh := Lib.hid b10
  have HBZ := Lib.hid (HB8.out.trans (k89.mono HB8.out.size))
  have HEX := Lib.hid (HEX8.out.below k89)
  have HSV := Lib.hid (HSV8.out.below k89)
  rw [← hW9] at hW10
  unfold askA at hW10
  simp only at hW10
  have HW10 := Lib.hid hW10
  clear hW9 hW10 k9 k10 z9 b9 b10 k89 r0 r1 r2 r3 r4 r5 r6 hol HB8 HBX8 HEX8 HSV8 HW8
  rw [HW10.out]
  obtain ⟨pf, hpf⟩ : ∃ p, w4.heap.size + 1 + 1 + 1 = p := ⟨_, rfl⟩
  rw [hpf] at HQf ⊢
  obtain ⟨pd, hpd⟩ : ∃ p, w4.heap.size + 1 + 1 = p := ⟨_, rfl⟩
  rw [hpd] at HQd ⊢
  obtain ⟨pc, hpc⟩ : ∃ p, w4.heap.size + 1 = p := ⟨_, rfl⟩
  rw [hpc] at HQc ⊢
  obtain ⟨pb, hpb⟩ : ∃ p, w4.heap.size = p := ⟨_, rfl⟩
  rw [hpb] at HQb ⊢
  obtain ⟨ph, hph⟩ : ∃ p, W8.heap.size + 1 = p := ⟨_, rfl⟩
  rw [hph] at HQh ⊢
  obtain ⟨pg, hpg⟩ : ∃ p, W8.heap.size = p := ⟨_, rfl⟩
  rw [hpg] at HQg ⊢
  clear hpf hpd hpc hpb hph hpg HW10
  have HMb := Lib.hid (show fits t.e { qa with sv := s } = true → fits t.e { qa with sv := [] } = true from fits_mono (.inl rfl) (by simp) (by simp) (.inr rfl) rfl rfl)
  have HMd := Lib.hid (show fits t.e { qa with sv := [], cl := cl } = true → fits t.e { qa with sv := [], cl := -1 } = true from fits_mono (.inl rfl) (by simp) (by simp) (.inl (by simp)) rfl rfl)
  have e1 := tdiv2 qa.lo hi1
  have e2 := tdiv2 qa.hi hi2
  have w1' := IntWalk.wrap64_in (qa.lo.tdiv 2 - mo) (by omega)
  have w2' := IntWalk.wrap64_in (qa.hi.tdiv 2 + mo) (by omega)
  have w3' := IntWalk.wrap64_in (wrap64 (qa.lo.tdiv 2 - mo) + mo / 2) (by omega)
  have w4' := IntWalk.wrap64_in (wrap64 (qa.hi.tdiv 2 + mo) - mo / 2) (by omega)
  have HMg := Lib.hid (show fits t.e { qa with lo := wrap64 (wrap64 (qa.lo.tdiv 2 - mo) + mo / 2), hi := wrap64 (wrap64 (qa.hi.tdiv 2 + mo) - mo / 2) } = true → fits t.e { qa with lo := wrap64 (qa.lo.tdiv 2 - mo), hi := wrap64 (qa.hi.tdiv 2 + mo) } = true from fits_mono (.inr rfl) (by simp only; omega) (by simp only; omega) (.inr rfl) rfl rfl)
  clear e1 e2 w1' w2' w3' w4' hi1 hi2
  generalize wrap64 (wrap64 (qa.lo.tdiv 2 - mo) + mo / 2) = h1 at *
  generalize wrap64 (wrap64 (qa.hi.tdiv 2 + mo) - mo / 2) = h2 at *
  generalize wrap64 (qa.lo.tdiv 2 - mo) = g1 at *
  generalize wrap64 (qa.hi.tdiv 2 + mo) = g2 at *
  obtain ⟨x0, x1, x2, x3, x4, x5, x6, x7, x8, x9, x10, x11, x12⟩ := BoxE.all HEX.out
  obtain ⟨r0, r1, r2, r3, r4, r5, r6⟩ := HQc.out.all
  simp only at r0 r1 r2 r3 r4 r5 r6
  have hf := HOK.out.fits t.e t.A tn t.cap { qa with sv := s } W10 HTN.out HSV.out
  obtain ⟨Fc, hFc⟩ : ∃ F, fits t.e { qa with sv := s } = F := ⟨_, rfl⟩
  rw [hFc] at hf
  have HFc := Lib.hid hFc
  clear hFc
  unfold enA askA at hf
  simp only at hf
  have HF := Lib.hid hf
  clear hf
  go_wp2_with fail
  refine HF.out.mono ?_
  rintro e v1 ⟨rfl, d⟩
  have HQb := Lib.hid (HQb.out.below d)
  have HQd := Lib.hid (HQd.out.below d)
  have HQf := Lib.hid (HQf.out.below d)
  have HQg := Lib.hid (HQg.out.below d)
  have HQh := Lib.hid (HQh.out.below d)
  have HEX := Lib.hid (HEX.out.below d)
  have HSV := Lib.hid (HSV.out.below d)
  have HBZ := Lib.hid (HBZ.out.trans (d.mono HBZ.out.size))
  clear d HF x0 x1 x2 x3 x4 x5 x6 x7 x8 x9 x10 x11 x12 r0 r1 r2 r3 r4 r5 r6
  rcases Fc with _ | _
  · skip
    obtain ⟨x0, x1, x2, x3, x4, x5, x6, x7, x8, x9, x10, x11, x12⟩ := BoxE.all HEX.out
    obtain ⟨r0, r1, r2, r3, r4, r5, r6⟩ := HQf.out.all
    simp only at r0 r1 r2 r3 r4 r5 r6
    have hf := HOK.out.fits t.e t.A tn t.cap { qa with sv := [], cl := cl } v1 HTN.out HSV.out
    obtain ⟨Ff, hFf⟩ : ∃ F, fits t.e { qa with sv := [], cl := cl } = F := ⟨_, rfl⟩
    rw [hFf] at hf
    have HFf := Lib.hid hFf
    clear hFf
    unfold enA askA at hf
    simp only at hf
    have HF := Lib.hid hf
    clear hf
    go_wp2_with fail
    refine HF.out.mono ?_
    rintro e v2 ⟨rfl, d⟩
    have HQd := Lib.hid (HQd.out.below d)
    have HQg := Lib.hid (HQg.out.below d)
    have HQh := Lib.hid (HQh.out.below d)
    have HEX := Lib.hid (HEX.out.below d)
    have HSV := Lib.hid (HSV.out.below d)
    have HBZ := Lib.hid (HBZ.out.trans (d.mono HBZ.out.size))
    clear d HF x0 x1 x2 x3 x4 x5 x6 x7 x8 x9 x10 x11 x12 r0 r1 r2 r3 r4 r5 r6
    rcases Ff with _ | _
    · skip
      obtain ⟨x0, x1, x2, x3, x4, x5, x6, x7, x8, x9, x10, x11, x12⟩ := BoxE.all HEX.out
      obtain ⟨r0, r1, r2, r3, r4, r5, r6⟩ := HQh.out.all
      simp only at r0 r1 r2 r3 r4 r5 r6
      have hf := HOK.out.fits t.e t.A tn t.cap { qa with lo := h1, hi := h2 } v2 HTN.out HSV.out
      obtain ⟨Fh, hFh⟩ : ∃ F, fits t.e { qa with lo := h1, hi := h2 } = F := ⟨_, rfl⟩
      rw [hFh] at hf
      have HFh := Lib.hid hFh
      clear hFh
      unfold enA askA at hf
      simp only at hf
      have HF := Lib.hid hf
      clear hf
      go_wp2_with fail
      refine HF.out.mono ?_
      rintro e v3 ⟨rfl, d⟩
      have HQg := Lib.hid (HQg.out.below d)
      have HEX := Lib.hid (HEX.out.below d)
      have HSV := Lib.hid (HSV.out.below d)
      have HBZ := Lib.hid (HBZ.out.trans (d.mono HBZ.out.size))
      clear d HF x0 x1 x2 x3 x4 x5 x6 x7 x8 x9 x10 x11 x12 r0 r1 r2 r3 r4 r5 r6
      rcases Fh with _ | _
      · skip
        go_wp2
        go_ret
        exact ⟨rfl, HBZ.out⟩
      · skip
        obtain ⟨x0, x1, x2, x3, x4, x5, x6, x7, x8, x9, x10, x11, x12⟩ := BoxE.all HEX.out
        obtain ⟨r0, r1, r2, r3, r4, r5, r6⟩ := HQg.out.all
        simp only at r0 r1 r2 r3 r4 r5 r6
        have hf := HOK.out.fits t.e t.A tn t.cap { qa with lo := g1, hi := g2 } v3 HTN.out HSV.out
        rw [HMg.out HFh.out] at hf
        unfold enA askA at hf
        simp only at hf
        have HF := Lib.hid hf
        clear hf
        go_wp2_with fail
        refine HF.out.mono ?_
        rintro e v4 ⟨rfl, d⟩
        have HEX := Lib.hid (HEX.out.below d)
        have HSV := Lib.hid (HSV.out.below d)
        have HBZ := Lib.hid (HBZ.out.trans (d.mono HBZ.out.size))
        clear d HF x0 x1 x2 x3 x4 x5 x6 x7 x8 x9 x10 x11 x12 r0 r1 r2 r3 r4 r5 r6
        go_wp2
        go_ret
        exact ⟨rfl, HBZ.out⟩
    · skip
      obtain ⟨x0, x1, x2, x3, x4, x5, x6, x7, x8, x9, x10, x11, x12⟩ := BoxE.all HEX.out
      obtain ⟨r0, r1, r2, r3, r4, r5, r6⟩ := HQd.out.all
      simp only at r0 r1 r2 r3 r4 r5 r6
      have hf := HOK.out.fits t.e t.A tn t.cap { qa with sv := [], cl := -1 } v2 HTN.out HSV.out
      rw [HMd.out HFf.out] at hf
      unfold enA askA at hf
      simp only at hf
      have HF := Lib.hid hf
      clear hf
      go_wp2_with fail
      refine HF.out.mono ?_
      rintro e v5 ⟨rfl, d⟩
      have HQg := Lib.hid (HQg.out.below d)
      have HQh := Lib.hid (HQh.out.below d)
      have HEX := Lib.hid (HEX.out.below d)
      have HSV := Lib.hid (HSV.out.below d)
      have HBZ := Lib.hid (HBZ.out.trans (d.mono HBZ.out.size))
      clear d HF x0 x1 x2 x3 x4 x5 x6 x7 x8 x9 x10 x11 x12 r0 r1 r2 r3 r4 r5 r6
      obtain ⟨x0, x1, x2, x3, x4, x5, x6, x7, x8, x9, x10, x11, x12⟩ := BoxE.all HEX.out
      obtain ⟨r0, r1, r2, r3, r4, r5, r6⟩ := HQh.out.all
      simp only at r0 r1 r2 r3 r4 r5 r6
      have hf := HOK.out.fits t.e t.A tn t.cap { qa with lo := h1, hi := h2 } v5 HTN.out HSV.out
      obtain ⟨Fh, hFh⟩ : ∃ F, fits t.e { qa with lo := h1, hi := h2 } = F := ⟨_, rfl⟩
      rw [hFh] at hf
      have HFh := Lib.hid hFh
      clear hFh
      unfold enA askA at hf
      simp only at hf
      have HF := Lib.hid hf
      clear hf
      go_wp2_with fail
      refine HF.out.mono ?_
      rintro e v6 ⟨rfl, d⟩
      have HQg := Lib.hid (HQg.out.below d)
      have HEX := Lib.hid (HEX.out.below d)
      have HSV := Lib.hid (HSV.out.below d)
      have HBZ := Lib.hid (HBZ.out.trans (d.mono HBZ.out.size))
      clear d HF x0 x1 x2 x3 x4 x5 x6 x7 x8 x9 x10 x11 x12 r0 r1 r2 r3 r4 r5 r6
      rcases Fh with _ | _
      · skip
        go_wp2
        go_ret
        exact ⟨rfl, HBZ.out⟩
      · skip
        obtain ⟨x0, x1, x2, x3, x4, x5, x6, x7, x8, x9, x10, x11, x12⟩ := BoxE.all HEX.out
        obtain ⟨r0, r1, r2, r3, r4, r5, r6⟩ := HQg.out.all
        simp only at r0 r1 r2 r3 r4 r5 r6
        have hf := HOK.out.fits t.e t.A tn t.cap { qa with lo := g1, hi := g2 } v6 HTN.out HSV.out
        rw [HMg.out HFh.out] at hf
        unfold enA askA at hf
        simp only at hf
        have HF := Lib.hid hf
        clear hf
        go_wp2_with fail
        refine HF.out.mono ?_
        rintro e v7 ⟨rfl, d⟩
        have HEX := Lib.hid (HEX.out.below d)
        have HSV := Lib.hid (HSV.out.below d)
        have HBZ := Lib.hid (HBZ.out.trans (d.mono HBZ.out.size))
        clear d HF x0 x1 x2 x3 x4 x5 x6 x7 x8 x9 x10 x11 x12 r0 r1 r2 r3 r4 r5 r6
        go_wp2
        go_ret
        exact ⟨rfl, HBZ.out⟩
  · skip
    obtain ⟨x0, x1, x2, x3, x4, x5, x6, x7, x8, x9, x10, x11, x12⟩ := BoxE.all HEX.out
    obtain ⟨r0, r1, r2, r3, r4, r5, r6⟩ := HQb.out.all
    simp only at r0 r1 r2 r3 r4 r5 r6
    have hf := HOK.out.fits t.e t.A tn t.cap { qa with sv := [] } v1 HTN.out HSV.out
    rw [HMb.out HFc.out] at hf
    unfold enA askA at hf
    simp only at hf
    have HF := Lib.hid hf
    clear hf
    go_wp2_with fail
    refine HF.out.mono ?_
    rintro e v8 ⟨rfl, d⟩
    have HQd := Lib.hid (HQd.out.below d)
    have HQf := Lib.hid (HQf.out.below d)
    have HQg := Lib.hid (HQg.out.below d)
    have HQh := Lib.hid (HQh.out.below d)
    have HEX := Lib.hid (HEX.out.below d)
    have HSV := Lib.hid (HSV.out.below d)
    have HBZ := Lib.hid (HBZ.out.trans (d.mono HBZ.out.size))
    clear d HF x0 x1 x2 x3 x4 x5 x6 x7 x8 x9 x10 x11 x12 r0 r1 r2 r3 r4 r5 r6
    obtain ⟨x0, x1, x2, x3, x4, x5, x6, x7, x8, x9, x10, x11, x12⟩ := BoxE.all HEX.out
    obtain ⟨r0, r1, r2, r3, r4, r5, r6⟩ := HQf.out.all
    simp only at r0 r1 r2 r3 r4 r5 r6
    have hf := HOK.out.fits t.e t.A tn t.cap { qa with sv := [], cl := cl } v8 HTN.out HSV.out
    obtain ⟨Ff, hFf⟩ : ∃ F, fits t.e { qa with sv := [], cl := cl } = F := ⟨_, rfl⟩
    rw [hFf] at hf
    have HFf := Lib.hid hFf
    clear hFf
    unfold enA askA at hf
    simp only at hf
    have HF := Lib.hid hf
    clear hf
    go_wp2_with fail
    refine HF.out.mono ?_
    rintro e v9 ⟨rfl, d⟩
    have HQd := Lib.hid (HQd.out.below d)
    have HQg := Lib.hid (HQg.out.below d)
    have HQh := Lib.hid (HQh.out.below d)
    have HEX := Lib.hid (HEX.out.below d)
    have HSV := Lib.hid (HSV.out.below d)
    have HBZ := Lib.hid (HBZ.out.trans (d.mono HBZ.out.size))
    clear d HF x0 x1 x2 x3 x4 x5 x6 x7 x8 x9 x10 x11 x12 r0 r1 r2 r3 r4 r5 r6
    rcases Ff with _ | _
    · skip
      obtain ⟨x0, x1, x2, x3, x4, x5, x6, x7, x8, x9, x10, x11, x12⟩ := BoxE.all HEX.out
      obtain ⟨r0, r1, r2, r3, r4, r5, r6⟩ := HQh.out.all
      simp only at r0 r1 r2 r3 r4 r5 r6
      have hf := HOK.out.fits t.e t.A tn t.cap { qa with lo := h1, hi := h2 } v9 HTN.out HSV.out
      obtain ⟨Fh, hFh⟩ : ∃ F, fits t.e { qa with lo := h1, hi := h2 } = F := ⟨_, rfl⟩
      rw [hFh] at hf
      have HFh := Lib.hid hFh
      clear hFh
      unfold enA askA at hf
      simp only at hf
      have HF := Lib.hid hf
      clear hf
      go_wp2_with fail
      refine HF.out.mono ?_
      rintro e v10 ⟨rfl, d⟩
      have HQg := Lib.hid (HQg.out.below d)
      have HEX := Lib.hid (HEX.out.below d)
      have HSV := Lib.hid (HSV.out.below d)
      have HBZ := Lib.hid (HBZ.out.trans (d.mono HBZ.out.size))
      clear d HF x0 x1 x2 x3 x4 x5 x6 x7 x8 x9 x10 x11 x12 r0 r1 r2 r3 r4 r5 r6
      rcases Fh with _ | _
      · skip
        go_wp2
        go_ret
        exact ⟨rfl, HBZ.out⟩
      · skip
        obtain ⟨x0, x1, x2, x3, x4, x5, x6, x7, x8, x9, x10, x11, x12⟩ := BoxE.all HEX.out
        obtain ⟨r0, r1, r2, r3, r4, r5, r6⟩ := HQg.out.all
        simp only at r0 r1 r2 r3 r4 r5 r6
        have hf := HOK.out.fits t.e t.A tn t.cap { qa with lo := g1, hi := g2 } v10 HTN.out HSV.out
        rw [HMg.out HFh.out] at hf
        unfold enA askA at hf
        simp only at hf
        have HF := Lib.hid hf
        clear hf
        go_wp2_with fail
        refine HF.out.mono ?_
        rintro e v11 ⟨rfl, d⟩
        have HEX := Lib.hid (HEX.out.below d)
        have HSV := Lib.hid (HSV.out.below d)
        have HBZ := Lib.hid (HBZ.out.trans (d.mono HBZ.out.size))
        clear d HF x0 x1 x2 x3 x4 x5 x6 x7 x8 x9 x10 x11 x12 r0 r1 r2 r3 r4 r5 r6
        go_wp2
        go_ret
        exact ⟨rfl, HBZ.out⟩
    · skip
      obtain ⟨x0, x1, x2, x3, x4, x5, x6, x7, x8, x9, x10, x11, x12⟩ := BoxE.all HEX.out
      obtain ⟨r0, r1, r2, r3, r4, r5, r6⟩ := HQd.out.all
      simp only at r0 r1 r2 r3 r4 r5 r6
      have hf := HOK.out.fits t.e t.A tn t.cap { qa with sv := [], cl := -1 } v9 HTN.out HSV.out
      rw [HMd.out HFf.out] at hf
      unfold enA askA at hf
      simp only at hf
      have HF := Lib.hid hf
      clear hf
      go_wp2_with fail
      refine HF.out.mono ?_
      rintro e v12 ⟨rfl, d⟩
      have HQg := Lib.hid (HQg.out.below d)
      have HQh := Lib.hid (HQh.out.below d)
      have HEX := Lib.hid (HEX.out.below d)
      have HSV := Lib.hid (HSV.out.below d)
      have HBZ := Lib.hid (HBZ.out.trans (d.mono HBZ.out.size))
      clear d HF x0 x1 x2 x3 x4 x5 x6 x7 x8 x9 x10 x11 x12 r0 r1 r2 r3 r4 r5 r6
      obtain ⟨x0, x1, x2, x3, x4, x5, x6, x7, x8, x9, x10, x11, x12⟩ := BoxE.all HEX.out
      obtain ⟨r0, r1, r2, r3, r4, r5, r6⟩ := HQh.out.all
      simp only at r0 r1 r2 r3 r4 r5 r6
      have hf := HOK.out.fits t.e t.A tn t.cap { qa with lo := h1, hi := h2 } v12 HTN.out HSV.out
      obtain ⟨Fh, hFh⟩ : ∃ F, fits t.e { qa with lo := h1, hi := h2 } = F := ⟨_, rfl⟩
      rw [hFh] at hf
      have HFh := Lib.hid hFh
      clear hFh
      unfold enA askA at hf
      simp only at hf
      have HF := Lib.hid hf
      clear hf
      go_wp2_with fail
      refine HF.out.mono ?_
      rintro e v13 ⟨rfl, d⟩
      have HQg := Lib.hid (HQg.out.below d)
      have HEX := Lib.hid (HEX.out.below d)
      have HSV := Lib.hid (HSV.out.below d)
      have HBZ := Lib.hid (HBZ.out.trans (d.mono HBZ.out.size))
      clear d HF x0 x1 x2 x3 x4 x5 x6 x7 x8 x9 x10 x11 x12 r0 r1 r2 r3 r4 r5 r6
      rcases Fh with _ | _
      · skip
        go_wp2
        go_ret
        exact ⟨rfl, HBZ.out⟩
      · skip
        obtain ⟨x0, x1, x2, x3, x4, x5, x6, x7, x8, x9, x10, x11, x12⟩ := BoxE.all HEX.out
        obtain ⟨r0, r1, r2, r3, r4, r5, r6⟩ := HQg.out.all
        simp only at r0 r1 r2 r3 r4 r5 r6
        have hf := HOK.out.fits t.e t.A tn t.cap { qa with lo := g1, hi := g2 } v13 HTN.out HSV.out
        rw [HMg.out HFh.out] at hf
        unfold enA askA at hf
        simp only at hf
        have HF := Lib.hid hf
        clear hf
        go_wp2_with fail
        refine HF.out.mono ?_
        rintro e v14 ⟨rfl, d⟩
        have HEX := Lib.hid (HEX.out.below d)
        have HSV := Lib.hid (HSV.out.below d)
        have HBZ := Lib.hid (HBZ.out.trans (d.mono HBZ.out.size))
        clear d HF x0 x1 x2 x3 x4 x5 x6 x7 x8 x9 x10 x11 x12 r0 r1 r2 r3 r4 r5 r6
        go_wp2
        go_ret
        exact ⟨rfl, HBZ.out⟩

theorem walk (w : World) (t : Ent) (hT : EntIn w t) (qa : Qy.A) (hK : AskIn qa) (s : List UInt8) (_hs : s.length ≤ maxLen) (cl : Int) (hcl : 0 ≤ cl ∧ cl ≤ 255) (mo : Int) (hmo : 0 ≤ mo ∧ mo ≤ 255) :
    Calls Try.prog 6 #[.agg (enA t.e (.slice t.A t.e.sv.length t.cap)), .agg (askA qa), .string (str s), .int .u8 cl, .int .u8 mo] w fun e w' => e = .returned (.bool true) ∧ Below w.heap.size w w' :=
  walkN queryOk w t qa s cl mo hT hK hcl hmo


set_option maxRecDepth 100000 in
theorem lifted (os : Os) (started : os.Started) (H : Type) (enc : TypeId × Value → H) :
    ReturnsInHanded {} Try.checked os 6 .any (Rows.queryNarrowsSpec.pre6 enc Try.prog Try.f6 Rows.queryNarrowsRow.domain false) (Rows.queryNarrowsSpec.post enc Try.prog Try.f6 false true false false) := by
  refine returnsInHanded_of_change (C := Try.checked) own started (by kernel_rfl) Try.func6
    (ChangeSpec.witness6 (enc := enc) (C := Try.checked) false ⟨#[], #[.agg #[.int .i64 0, .int .i64 0, .int .i64 0, .int .i64 0, .bool false, .int .i64 0, .int .i64 0, .int .i64 0, .int .i64 0, .slice none 0 0, .int .i64 0, .int .i64 0, .int .i64 0], .agg #[.string .empty, .int .i64 0, .int .i64 0, .int .i64 0, .int .i64 0, .int .i64 0, .int .i64 0], .string .empty, .int .u8 0, .int .u8 0], []⟩ 8 (by kernel_rfl) (by kernel_rfl) (by kernel_rfl) (by kernel_rfl)) ?_
  intro W base args ds gs before hval0 hW hcnd _
  have hval : ∀ (j : Nat) t v, Try.f6.params[j]? = some t → args[j]? = some v → Value.okWide Try.prog W .any base t v := hval0
  have hfin := fun W' => law_post (enc := enc) (P := Try.prog) (f := Try.f6) (s := Rows.queryNarrowsSpec) (tb := 4) (W := W) (W' := W') (args := args) (ds := ds) (gs := gs) (before := before) laidOut rfl (by kernel_rfl) Try.underlying4 (by kernel_rfl) (fun xs h => by rw [Try.params6] at h; match xs, h with | [_, _, _, _, _], _ => rfl) hW
  have hlt : ∀ x ∈ before, x.block < W.heap.size := fun x hx => hW.lt x hx
  obtain ⟨p, q, hA0, hV, rfl, hfz, hnd⟩ := hW
  have hA : DataW.TrodAll enc Try.prog W 0 (fun _ => true) true Try.f6.params.toList args.toList ds p := hA0
  rw [Try.params6] at hA hval
  obtain ⟨v0, vs0, d0, ds0, p0, q0, hargs, rfl, rfl, h0, r0⟩ := trodAll_cons hA
  obtain ⟨v1, vs1, d1, ds1, p1, q1, rfl, rfl, rfl, h1, r1⟩ := trodAll_cons r0
  obtain ⟨v2, vs2, d2, ds2, p2, q2, rfl, rfl, rfl, h2, r2⟩ := trodAll_cons r1
  obtain ⟨v3, vs3, d3, ds3, p3, q3, rfl, rfl, rfl, h3, r3⟩ := trodAll_cons r2
  obtain ⟨v4, vs4, d4, ds4, p4, q4, rfl, rfl, rfl, h4, r4⟩ := trodAll_cons r3
  obtain ⟨rfl, rfl, rfl⟩ := trodAll_nil r4
  obtain rfl : args = #[v0, v1, v2, v3, v4] := by cases args; simp_all
  obtain ⟨t0, rfl, hT0⟩ := open_ent (hval 0 29 v0 rfl rfl) h0 (fun x hx => hlt x (by simp [hx]))
  obtain ⟨q1, rfl, hK1⟩ := open_ask (hval 1 31 v1 rfl rfl) h1
  obtain ⟨s2, rfl, hs2⟩ := open_text (hval 2 9 v2 rfl rfl) h2
  obtain ⟨a3, rfl, rfl, rfl, w3⟩ := open_int Try.underlying5 (hval 3 5 v3 rfl rfl) h3
  obtain ⟨a4, rfl, rfl, rfl, w4⟩ := open_int Try.underlying5 (hval 4 5 v4 rfl rfl) h4
  refine (walk W t0 hT0 q1 hK1 s2 hs2 a3 (bounds_u8 w3) a4 (bounds_u8 w4)).mono fun e W' ⟨he, hg⟩ => ?_
  subst he
  exact ⟨_, rfl, hfin W' hg⟩

theorem proved : Rows.QueryNarrowsSaid :=
  OpenClaim.holds_of_wide 6 Try.f6 rfl rfl rfl rfl rfl rfl rfl ⟨rfl, rfl, rfl, rfl, rfl⟩ rfl rfl rfl rfl rfl (by kernel_rfl) Try.func6 (by kernel_rfl)
    (of_decide_eq_true (by kernel_rfl)) (by unfold Func.isWrapper; first | (rw [if_pos (by decide +kernel)]; kernel_rfl) | (rw [if_neg (by decide +kernel)]; exact ⟨rfl, rfl⟩))
    (fun os started H enc _ => lifted os started H enc)
#print axioms proved
end Go.Proofs.Ytcoedohfggeaiaa.queryNarrows
