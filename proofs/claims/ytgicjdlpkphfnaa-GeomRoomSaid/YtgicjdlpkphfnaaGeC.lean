/-
  Layer 17, the document's answer: Blank: what it answers, of any use. Nothing is assumed.
-/
import Derived.Test.YtgicjdlpkphfnaaGeB

namespace Go.Proofs.Ytgicjdlpkphfnaa
open Go.RowKit Go.Maps
set_option maxRecDepth 100000

set_option maxHeartbeats 4000000 in
theorem rblank17_any (g : Ge.G) (w : World) : Calls Try.prog 21 #[.agg #[.int .i64 g.E, .int .i64 g.S, .int .i64 g.M]] w fun e w' => Gives17 w w' (blank17 g) e := by
  have hb := Blk.new w #[.int .i64 g.E, .int .i64 g.S, .int .i64 g.M] 23
  have HB := Lib.hid (show Below w.heap.size w (w.alloc (.cells #[.int .i64 g.E, .int .i64 g.S, .int .i64 g.M] 23)) from (Below.refl _ _).alloc (Nat.le_refl _) _)
  have x0 : (w.alloc (.cells #[.int .i64 g.E, .int .i64 g.S, .int .i64 g.M] 23)).cell? ⟨w.heap.size, 0, none⟩ = some (.int .i64 g.E) := hb.cell 0
  have x1 : (w.alloc (.cells #[.int .i64 g.E, .int .i64 g.S, .int .i64 g.M] 23)).cell? ⟨w.heap.size, 1, none⟩ = some (.int .i64 g.S) := hb.cell 1
  have x2 : (w.alloc (.cells #[.int .i64 g.E, .int .i64 g.S, .int .i64 g.M] 23)).cell? ⟨w.heap.size, 2, none⟩ = some (.int .i64 g.M) := hb.cell 2
  obtain ⟨wa, hwa⟩ : ∃ wa, (w.alloc (.cells #[.int .i64 g.E, .int .i64 g.S, .int .i64 g.M] 23)) = wa := ⟨_, rfl⟩
  rw [hwa] at x0 x1 x2 HB hb
  have HW := Lib.hid hwa
  have HBX := Lib.hid hb
  clear hb hwa
  have hsz : wa.heap.size = w.heap.size + 1 := by rw [← HW.out]; simp
  have hb2 := Blk.new wa #[.int .i64 0, .int .i64 0, .slice none 0 0] 31
  have hbb : Below wa.heap.size wa (wa.alloc (.cells #[.int .i64 0, .int .i64 0, .slice none 0 0] 31)) := (Below.refl _ _).alloc (Nat.le_refl _) _
  obtain ⟨wb, hwb⟩ : ∃ wb, wa.alloc (.cells #[.int .i64 0, .int .i64 0, .slice none 0 0] 31) = wb := ⟨_, rfl⟩
  rw [hwb] at hb2 hbb
  rw [hsz] at hb2
  have HWB := Lib.hid hwb
  have HB2 := Lib.hid hb2
  have HBB := Lib.hid (HB.out.trans (hbb.mono HB.out.size))
  have HXB := Lib.hid ((Kept.of hbb []).blk HBX.out (by simp))
  clear hb2 hbb hwb x0 x1 x2 hsz
  by_cases hok : g.ok
  rotate_left
  · have hrt : Ge.right g = false := decide_eq_false hok
    have hbl := Lib.hid (show blank17 g = ⟨0, 0, []⟩ by unfold blank17; rw [if_neg (by rw [hrt]; decide)])
    have HRR := Lib.hid (fun (W : World) => show Calls Try.prog 10 #[.agg #[.int .i64 g.E, .int .i64 g.S, .int .i64 g.M]] W (fun e w' => e = .returned (.bool false) ∧ Below W.heap.size W w') by have := rright17_any g W; rwa [hrt] at this)
    clear hok hrt
    go_enter Try.func21, Try.ntmps21
    go_wp2_with fail
    rw [HW.out, HWB.out]
    refine (HRR.out wb).mono ?_
    rintro e w1 ⟨rfl, d1⟩
    have HB1 := Lib.hid (HBB.out.trans (d1.mono HBB.out.size))
    have h1 := (Kept.of d1 []).blk HB2.out (by simp)
    have y0 : w1.cell? ⟨w.heap.size + 1, 0, none⟩ = some (.int .i64 0) := h1.cell 0
    have y1 : w1.cell? ⟨w.heap.size + 1, 1, none⟩ = some (.int .i64 0) := h1.cell 1
    have y2 : w1.cell? ⟨w.heap.size + 1, 2, none⟩ = some (.slice none 0 0) := h1.cell 2
    have fz := h1.frozen
    clear d1
    go_wp2
    obtain ⟨wf, hwf⟩ : ∃ wf, ((w1.setCell ⟨w.heap.size + 1, 0, none⟩ (.int .i64 0)).setCell ⟨w.heap.size + 1, 1, none⟩ (.int .i64 0)).setCell ⟨w.heap.size + 1, 2, none⟩ (.slice none 0 0) = wf := ⟨_, rfl⟩
    have hf := ((h1.set 0 (.int .i64 0)).set 1 (.int .i64 0)).set 2 (.slice none 0 0)
    simp only [List.setIfInBounds_toArray, List.set_cons_succ, List.set_cons_zero] at hf
    rw [hwf] at hf ⊢
    have f0 : wf.cell? ⟨w.heap.size + 1, 0, none⟩ = some (.int .i64 0) := hf.cell 0
    have f1 : wf.cell? ⟨w.heap.size + 1, 1, none⟩ = some (.int .i64 0) := hf.cell 1
    have f2 : wf.cell? ⟨w.heap.size + 1, 2, none⟩ = some (.slice none 0 0) := hf.cell 2
    have HK := Lib.hid (show Kept [w.heap.size + 1] w1 wf by
      rw [← hwf]
      exact (((Kept.refl [w.heap.size + 1] w1).setCell (by simp) _).setCell (by simp) _).setCell (by simp) _)
    clear hf hwf h1 y0 y1 y2 fz
    refine bodyPost_ret (v := .agg #[.int .i64 0, .int .i64 0, .slice none 0 0]) (w := wf) (by simp [results, Try.results21, go_sem, f0, f1, f2]) rfl ?_
    rw [hbl.out]
    exact ⟨none, 0, rfl, by simp, by unfold maxLen; omega, .inl rfl, Kept.below HB1.out HK.out (by simp)⟩
  · have hrt : Ge.right g = true := decide_eq_true hok
    have hbl := Lib.hid (show blank17 g = ⟨1, -1, List.replicate g.E.toNat ⟨0, 0⟩⟩ by unfold blank17; rw [if_pos hrt])
    have HRR := Lib.hid (fun (W : World) => show Calls Try.prog 10 #[.agg #[.int .i64 g.E, .int .i64 g.S, .int .i64 g.M]] W (fun e w' => e = .returned (.bool true) ∧ Below W.heap.size W w') by have := rright17_any g W; rwa [hrt] at this)
    obtain ⟨n, hn, hn4, hn8⟩ : ∃ n : Nat, g.E = (n : Int) ∧ 4 ≤ n ∧ n ≤ 8 := by
      obtain ⟨h1, h2, -⟩ := hok
      exact ⟨g.E.toNat, by omega, by omega, by omega⟩
    have hnt : g.E.toNat = n := by omega
    rw [hnt] at hbl
    obtain ⟨i0, hi, hz0, hz1, hz2⟩ := info_parts infoEx
    obtain ⟨Z, hZ⟩ : ∃ Z, (flatX (List.replicate n (⟨0, 0⟩ : Tb.Ext))).toArray = Z := ⟨_, rfl⟩
    have hmk : ∀ W : World, (Instr.makeSlice 29 (.int .i64 g.E) (.int .i64 g.E)).run Try.prog W = .ok (.slice (some ⟨W.heap.size, 0, none⟩) n n) (W.alloc (.cells Z 44)) := fun W => by
      rw [hn]
      have := run_make (P := Try.prog) W 29 44 i0 _ Try.underlying29 hi hz0 .i64 .i64 (n : Int) (n : Int) (by omega) (by omega) (by rw [hz2]; omega) (by omega)
      simp only [Int.toNat_natCast, hz1] at this
      rw [← hZ, ← made_exts n hn8]
      simpa [Value.cells] using this
    have HZ := Lib.hid hZ
    clear hok hrt hnt hZ hi hz0 hz1 hz2 hn
    go_enter Try.func21, Try.ntmps21
    go_wp2_with fail
    rw [HW.out, HWB.out]
    refine (HRR.out wb).mono ?_
    rintro e w1 ⟨rfl, d1⟩
    have HB1 := Lib.hid (HBB.out.trans (d1.mono HBB.out.size))
    have h0 := (Kept.of d1 []).blk HB2.out (by simp)
    have z0 : w1.cell? ⟨w.heap.size, 0, none⟩ = some (.int .i64 g.E) := ((Kept.of d1 []).blk HXB.out (by simp)).cell 0
    have hlt := h0.lt
    have v0 : w1.cell? ⟨w.heap.size + 1, 0, none⟩ = some (.int .i64 0) := h0.cell 0
    have v1 : w1.cell? ⟨w.heap.size + 1, 1, none⟩ = some (.int .i64 0) := h0.cell 1
    have v2 : w1.cell? ⟨w.heap.size + 1, 2, none⟩ = some (.slice none 0 0) := h0.cell 2
    have fy := h0.frozen
    clear d1
    go_wp2
    have hs3 : (((w1.setCell ⟨w.heap.size + 1, 0, none⟩ (.int .i64 1)).setCell ⟨w.heap.size + 1, 1, none⟩ (.int .i64 (-1))).setCell ⟨w.heap.size + 1, 2, none⟩ (.slice (some ⟨w1.heap.size, 0, none⟩) n n)).heap.size = w1.heap.size := by simp
    obtain ⟨wf, hwf⟩ : ∃ wf, ((w1.setCell ⟨w.heap.size + 1, 0, none⟩ (.int .i64 1)).setCell ⟨w.heap.size + 1, 1, none⟩ (.int .i64 (-1))).setCell ⟨w.heap.size + 1, 2, none⟩ (.slice (some ⟨w1.heap.size, 0, none⟩) n n) = wf := ⟨_, rfl⟩
    have hf := ((h0.set 0 (.int .i64 1)).set 1 (.int .i64 (-1))).set 2 (.slice (some ⟨w1.heap.size, 0, none⟩) n n)
    simp only [List.setIfInBounds_toArray, List.set_cons_succ, List.set_cons_zero] at hf
    rw [hwf] at hf hs3 ⊢
    have bm : Below wf.heap.size wf (wf.alloc (.cells Z 44)) := (Below.refl _ _).alloc (Nat.le_refl _) _
    have hl := Lies.new wf Z 44
    rw [hs3] at hl
    have hf2 := (Kept.of bm []).blk hf (by simp)
    have f0 : (wf.alloc (.cells Z 44)).cell? ⟨w.heap.size + 1, 0, none⟩ = some (.int .i64 1) := hf2.cell 0
    have f1 : (wf.alloc (.cells Z 44)).cell? ⟨w.heap.size + 1, 1, none⟩ = some (.int .i64 (-1)) := hf2.cell 1
    have f2 : (wf.alloc (.cells Z 44)).cell? ⟨w.heap.size + 1, 2, none⟩ = some (.slice (some ⟨w1.heap.size, 0, none⟩) n n) := hf2.cell 2
    have HK := Lib.hid (show Kept [w.heap.size + 1] w1 wf by
      rw [← hwf]
      exact (((Kept.refl [w.heap.size + 1] w1).setCell (by simp) _).setCell (by simp) _).setCell (by simp) _)
    have HKB := Lib.hid (Kept.below HB1.out HK.out (by simp))
    have HFB := Lib.hid (HKB.out.trans (bm.mono HKB.out.size))
    have HL := Lib.hid hl
    obtain ⟨wz, hwz⟩ : ∃ wz, wf.alloc (.cells Z 44) = wz := ⟨_, rfl⟩
    rw [hwz] at f0 f1 f2 HL HFB ⊢
    clear hf hwf h0 v0 v1 v2 fy bm hl hf2
    refine bodyPost_ret (v := .agg #[.int .i64 1, .int .i64 (-1), .slice (some ⟨w1.heap.size, 0, none⟩) n n]) (w := wz) (by simp [results, Try.results21, go_sem, f0, f1, f2]) rfl ?_
    rw [hbl.out]
    refine ⟨some ⟨w1.heap.size, 0, none⟩, n, by simp only [List.length_replicate], by simp, by unfold maxLen; omega, ?_, HFB.out⟩
    have := HL.out
    rw [← HZ.out] at this
    exact this
end Go.Proofs.Ytgicjdlpkphfnaa
