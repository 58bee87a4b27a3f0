/-
  P10.4, SuperBarrier: for all tables and rows of bytes the law returns true: all that was written ahead of a Save that was OK is kept, whatever is written then. No condition but that the program's table starts as its text lays it.
-/
import Derived.Test.YtehnhjnkbclnlaaDoorHd10
import Derived.Test.YtehnhjnkbclnlaaDoorSuA
import Derived.Test.YtehnhjnkbclnlaaDoorOpS
import Derived.Test.YtehnhjnkbclnlaaDoorLaid2
import Derived.BigRegion
namespace Go.Proofs.YtehnhjnkbclnlaaDoor.superBarrier
open Go.ChangeShapes Go.WideShapes Go.ChangeAt Go.RowKit
set_option maxRecDepth 100000

set_option maxHeartbeats 1000000 in
theorem block_any (c : UInt8) (w : World) : Calls Tryd.prog 15 #[.int .u8 (c.toNat : Int)] w (GivesF w c) := by
  obtain ⟨i0, hi, hz0, hz1, hz2⟩ := info_parts infoU8
  obtain ⟨Z, hZ⟩ : ∃ Z, madeCells #[.int .u8 0] 64 = Z := ⟨_, rfl⟩
  have hZs : Z.size = 64 := by rw [← hZ]; simp [size_madeCells]
  have hmk : ∀ W : World, (Instr.makeSlice 41 (.int .i64 64) (.int .i64 64)).run Tryd.prog W = .ok (.slice (some ⟨W.heap.size, 0, none⟩) 64 64) (W.alloc (.cells Z 5)) := fun W => by
    have := run_make (P := Tryd.prog) W 41 5 i0 _ Tryd.underlying41 hi hz0 .i64 .i64 64 64 (by omega) (by omega) (by rw [hz2]; omega) (by omega)
    rw [hz1] at this
    rw [← hZ]
    simpa [Value.cells] using this
  have HZ := Lib.hid hZs
  clear hi hz0 hz1 hz2 hZ hZs
  go_enter Tryd.func15, Tryd.ntmps15
  go_wp2
  go_loopw [4] (fun s wr => ∃ (k : Nat) (cs : Array Value), s = .int .i64 (k : Int) ∧ k ≤ 64 ∧ Blk wr w.heap.size cs 5 ∧ cs.size = 64 ∧ (∀ j, j < k → cs[j]? = some (.int .u8 (c.toNat : Int))) ∧ Below w.heap.size w wr) (fun s _ => 64 - (RowKit.intOf s).toNat)
  case atStart => exact ⟨0, Z, rfl, by omega, Blk.new w Z _, HZ.out, (fun j h => by omega), (Below.refl _ _).alloc (Nat.le_refl _) _⟩
  case round =>
    obtain ⟨k, cs, rfl, hk, hb, hs, hc, hB⟩ := hrel
    by_cases hlt : k < 64
    · have hcell : wr.cell? ⟨w.heap.size, k, none⟩ = some (cs[k]'(by omega)) := by rw [hb.cell]; simp [hs, hlt]
      have hf := hb.frozen k
      have h0 : (0 : Int) ≤ (k : Int) := by omega
      have HB := Lib.hid hb
      have HS := Lib.hid hs
      have HC := Lib.hid hc
      generalize cs[k]'(by omega) = old at hcell
      clear hb hs hc
      go_wp2
      go_roundw
      case rel =>
        refine ⟨k + 1, _, by go_num, by omega, HB.out.set k _, by simpa using HS.out, fun j hj => ?_, hB.setCell (Nat.le_refl _) _⟩
        by_cases e : j = k
        · subst e; simp [HS.out, hlt]
        · rw [Array.getElem?_setIfInBounds_ne (Ne.symm e)]; exact HC.out j (by omega)
      case measure => simp [RowKit.intOf]; omega
    · obtain rfl : k = 64 := by omega
      go_wp2
      go_ret
      refine ⟨_, rfl, Nat.le_refl _, ?_, hB⟩
      have e : cs = (cells (Plain.full c)).toArray := by
        apply Array.ext_getElem?
        intro j
        rcases Nat.lt_or_ge j 64 with hj | hj
        · rw [hc j hj, List.getElem?_toArray]
          unfold cells Plain.full
          rw [List.getElem?_map, List.getElem?_replicate, if_pos hj]
          rfl
        · rw [Array.getElem?_eq_none (by omega), Array.getElem?_eq_none (by simp [cells, Plain.full]; exact hj)]
      rw [← e]
      exact hb

theorem block_lies {c : UInt8} {w : World} : ∀ (e : Ending) (w' : World), GivesF w c e w' → ∃ v, e = .returned v ∧ (Fact.lies (Plain.full c) 64).φ v w' ∧ Below w.heap.size w w' := fun _ _ ⟨_, he, _, hb, hw⟩ => ⟨_, he, ⟨_, _, rfl, hb.lies⟩, hw⟩
theorem nes9 (W : World) (s : ByteArray) : (binOp .neq 9 (.string s) (.string s)).run Tryd.prog W = .ok (.bool false) W := by
  go_simp
theorem byte_in {w : World} {A : Option Addr} {bs : List UInt8} (h : Lies w A (cells bs)) (k : Nat) (hk : k < bs.length) : ∃ ad, A = some ad ∧ w.cell? (ad.add k) = some (.int .u8 ((bs.getD k 0).toNat : Int)) ∧ ad.block < w.heap.size := by
  obtain ⟨ad, rfl, hb, hc⟩ := h.at_ (k := k) (by rw [cells_length]; exact hk)
  rw [cells_at bs k hk] at hc
  refine ⟨ad, rfl, ?_, hb⟩
  rw [hc, List.getD_eq_getElem?_getD, List.getElem?_eq_getElem hk]
  rfl

set_option maxHeartbeats 8000000 in
theorem walkN (S : SuperOk) (w : World) (hT : Tab w) (x o : Int) (A : Option Addr) (cap n : Nat) (xs : List Tb.Ext) (hn : xs.length = n) (hc : n ≤ cap) (hA : Lies w A (flatX xs)) (D : Option Addr) (dap m : Nat) (l : List UInt8) (hm : l.length = m) (hD : Lies w D (cells l)) (E : Option Addr) (eap k : Nat) (r : List UInt8) (hk : r.length = k) (hE : Lies w E (cells r)) :
    Calls Tryd.prog 4 #[tabV x o A n cap, .slice D m dap, .slice E k eap] w fun e w' => e = .returned (.bool true) ∧ Below w.heap.size w w' := by
  have HX0 := Lib.hid (Blk.new w #[.int .i64 x, .int .i64 o, .slice A n cap] 24)
  have B0 := Lib.hid ((Below.refl w.heap.size w).alloc (Nat.le_refl _) (.cells #[.int .i64 x, .int .i64 o, .slice A n cap] 24))
  have HA0 := Lib.hid (hA.below B0.out)
  have HD0 := Lib.hid (hD.below B0.out)
  have HE0 := Lib.hid (hE.below B0.out)
  have HT0 := Lib.hid (hT.below B0.out (Nat.le_refl _))
  have HQ0 := Lib.hid (HX0.out.lt)
  have HN := Lib.hid hn
  have HM := Lib.hid hm
  have HK := Lib.hid hk
  clear hA hT hn hD hE hm hk
  go_enter Tryd.func4, Tryd.ntmps4
  go_wp2_with fail
  generalize w.alloc (.cells #[.int .i64 x, .int .i64 o, .slice A n cap] 24) = w0 at *
  refine (head10_any S w0 HT0.out).mono ?_
  rintro e w1 ⟨rfl, b1⟩
  have HT1 := Lib.hid (HT0.out.below b1 (Nat.le_refl _))
  have HX1 := Lib.hid (HX0.out.below b1 (Nat.le_refl _))
  have HA1 := Lib.hid (HA0.out.below b1)
  have HD1 := Lib.hid (HD0.out.below b1)
  have HE1 := Lib.hid (HE0.out.below b1)
  have B1 := Lib.hid (B0.out.trans (b1.mono B0.out.size))
  have HQ := Lib.hid (show w.heap.size < w1.heap.size by have := HQ0.out; have := b1.size; omega)
  clear b1
  go_wp2_with fail
  refine (fr_new 20 w1 (by omega) (by omega) HT1.out).mono ?_
  rintro e w2 ⟨rfl, f2, b2⟩
  have F2 := Lib.hid f2
  have A2 := Lib.hid (Low.of HA1.out b2)
  have D2 := Lib.hid (Low.of HD1.out b2)
  have E2 := Lib.hid (Low.of HE1.out b2)
  have X2 := Lib.hid (HX1.out.below b2 (Nat.le_refl _))
  have B2 := Lib.hid (B1.out.trans (b2.mono B1.out.size))
  clear f2 b2 B1 HA1 HD1 HE1 HX1 HT1 HX0 HA0 HD0 HE0 HT0 B0
  generalize w1.heap.size = q at *
  by_cases h1 : 18 < m
  · have hd : decide ((18 : Int) < (m : Int)) = true := by simp; omega
    clear h1
    go_wp2
    go_ret
    exact ⟨rfl, B2.out⟩
  have hd : decide ((18 : Int) < (m : Int)) = false := by simp; omega
  by_cases h2 : 18 < k
  · have hd2 : decide ((18 : Int) < (k : Int)) = true := by simp; omega
    clear h1 h2
    go_wp2
    go_ret
    exact ⟨rfl, B2.out⟩
  have hd2 : decide ((18 : Int) < (k : Int)) = false := by simp; omega
  have hm18 : m ≤ 18 := by omega
  have hk18 : k ≤ 18 := by omega
  clear h1 h2
  have HPA := Lib.hid (fun i (h : i ≤ m) => Su.puts_all (Su.new_free 20 (by omega) (by omega)) (l := l) (show 2 + l.length ≤ 20 by rw [HM.out]; omega) i (by rw [HM.out]; exact h))
  have hq3 : ∀ s ∈ [q, q + 1, q + 2], q ≤ s := fun s hs => by simp at hs; omega
  have hqw : ∀ s ∈ [q, q + 1, q + 2], w.heap.size ≤ s := fun s hs => by have := HQ.out; simp at hs; omega
  have hwq : w.heap.size ∉ [q, q + 1, q + 2] := by have := HQ.out; simp; omega
  have HQ3 := Lib.hid hq3
  have HQW := Lib.hid hqw
  have HWQ := Lib.hid hwq
  clear hq3 hqw hwq
  go_wp2_with fail
  clear hd hd2
  obtain ⟨d0, hd0⟩ : ∃ d0, Plain.Dv.new 20 = d0 := ⟨_, rfl⟩
  have HZ0 := Lib.hid hd0
  rw [hd0] at F2 HPA
  clear hd0
  go_loopw [9] (fun vi wr => ∃ i : Nat, vi = .int .i64 i ∧ i ≤ m ∧ Fr wr q (Su.puts d0 l i) ∧ Low wr q A (flatX xs) ∧ Low wr q D (cells l) ∧ Low wr q E (cells r) ∧ Blk wr w.heap.size #[.int .i64 x, .int .i64 o, .slice A n cap] 24 ∧ Below w.heap.size w wr) (fun vi _ => m - (intOf vi).toNat)
  case atStart => exact ⟨0, rfl, by omega, F2.out, A2.out, D2.out, E2.out, X2.out, B2.out⟩
  case round =>
    obtain ⟨i, rfl, hi, hfr, hla, hld, hle, hxb, hbr⟩ := hrel
    have FR := Lib.hid hfr
    have AR := Lib.hid hla
    have DR := Lib.hid hld
    have ER := Lib.hid hle
    have XR := Lib.hid hxb
    have BR := Lib.hid hbr
    clear hfr hla hld hle hxb hbr F2 A2 D2 E2 X2 B2
    by_cases hin : i < m
    · have HIN := Lib.hid (show i + 1 ≤ m by omega)
      obtain ⟨ad, rfl, c0, -⟩ := byte_in DR.out.lies i (by rw [HM.out]; exact hin)
      have hdn : (Su.puts d0 l i).done < 4611686018427387000 := by
        obtain ⟨-, -, -, -, h⟩ := HPA.out i (by omega)
        have hz : d0.done = 0 := by rw [← HZ0.out]; rfl
        omega
      have hst : Su.puts d0 l (i + 1) = ((Su.puts d0 l i).write ((2 + i : Nat) : Int) (Plain.full (l.getD i 0))).1 := rfl
      rw [show ((2 + i : Nat) : Int) = 2 + (i : Int) by omega] at hst
      obtain ⟨dn, hdn'⟩ : ∃ dn, Su.puts d0 l (i + 1) = dn := ⟨_, rfl⟩
      have HDN := Lib.hid hdn'
      rw [hdn'] at hst
      have HST := Lib.hid hst
      clear hst hdn'
      generalize Su.puts d0 l i = di at *
      generalize l.getD i 0 = c at *
      have hw2 : IntKind.i64.wrap (2 + (i : Int)) = 2 + (i : Int) := by rw [IntKind.wrap_i64]; omega
      go_wp2_with fail
      refine (block_any c wr).mono ?_
      rintro e w4 ⟨b, rfl, hbb, hblk, b4⟩
      have F4 := Lib.hid (FR.out.below b4)
      have O4 := Lib.hid (Old.blk hblk (show q + 2 < b by have := FR.out.dev.lt; omega))
      have A4 := Lib.hid (AR.out.below b4)
      have D4 := Lib.hid (DR.out.below b4)
      have E4 := Lib.hid (ER.out.below b4)
      have X4 := Lib.hid (XR.out.below b4 (Nat.le_refl _))
      have B4 := Lib.hid (BR.out.trans (b4.mono BR.out.size))
      clear hblk b4 FR AR DR ER XR BR c0
      go_wp2_with fail
      refine (fr_write q di (2 + (i : Int)) (some ⟨b, 0, none⟩) 64 64 (Plain.full c) w4 (Plain.full_length c) O4.out hdn F4.out).mono ?_
      rintro e w5 ⟨rfl, f5, k5⟩
      have F5 := Lib.hid (show Fr w5 q dn by rw [HST.out]; exact f5)
      have A5 := Lib.hid (A4.out.on k5 HQ3.out)
      have D5 := Lib.hid (D4.out.on k5 HQ3.out)
      have E5 := Lib.hid (E4.out.on k5 HQ3.out)
      have X5 := Lib.hid (k5.blk X4.out HWQ.out)
      have B5 := Lib.hid (Kept.below B4.out k5 HQW.out)
      clear f5 k5 F4 A4 D4 E4 X4 B4 O4 hw2
      generalize (di.write (2 + (i : Int)) (Plain.full c)).2 = ee at *
      go_wp2
      go_roundw
      case rel => exact ⟨i + 1, by go_num, HIN.out, by rw [HDN.out]; exact F5.out, A5.out, D5.out, E5.out, X5.out, B5.out⟩
      case measure => have := HIN.out; first | omega | (simp [intOf]; omega)
    · obtain rfl : i = m := by omega
      obtain ⟨p1, p2, p3, p4, p5⟩ := HPA.out i (Nat.le_refl _)
      have hz : d0.done = 0 := by rw [← HZ0.out]; rfl
      have hz2 : d0.n = 20 := by rw [← HZ0.out]; rfl
      have hn2 : 2 ≤ (Su.puts d0 l i).n := by rw [p2, hz2]; omega
      have HSV := Lib.hid (S.save q (Su.puts d0 l i) x o A cap n xs wr HN.out hc AR.out.old (by omega) FR.out)
      have h0 := Su.save_iff p1 hn2 ⟨x, o, xs⟩
      obtain ⟨EE, hEE⟩ : ∃ EE, (Su.save (Su.puts d0 l i) ⟨x, o, xs⟩).2 = EE := ⟨_, rfl⟩
      rw [hEE] at h0 HSV
      have hxr := XR.out
      obtain ⟨z0, z1, z2⟩ := hxr.three
      clear hxr hEE
      go_wp2_with fail
      refine HSV.out.mono ?_
      rintro e w4 ⟨rfl, f4, k4⟩
      have F4 := Lib.hid f4
      have A4 := Lib.hid (AR.out.on k4 HQ3.out)
      have D4 := Lib.hid (DR.out.on k4 HQ3.out)
      have E4 := Lib.hid (ER.out.on k4 HQ3.out)
      have X4 := Lib.hid (k4.blk XR.out HWQ.out)
      have B4 := Lib.hid (Kept.below BR.out k4 HQW.out)
      clear f4 k4 FR AR DR ER XR BR z0 z1 z2 HSV
      by_cases hr : Tb.right ⟨x, o, xs⟩ = true
      rotate_left
      · have he : EE ≠ 0 := fun h => hr (h0.1 h)
        have heb : ((EE : Int) != 0) = true := by simp; omega
        clear h0 hr he
        go_wp2
        go_ret
        exact ⟨rfl, B4.out⟩
      obtain rfl : EE = 0 := h0.2 hr
      have hbar := Su.barrier hr (l := l) (more := r) (n := 20) (by omega) (by omega) (by rw [HM.out]; omega) (by rw [HK.out]; omega)
      rw [HZ0.out, HM.out, HK.out] at hbar
      have f2' := Su.save_stays p1 hn2 hr
      have n2' : (Su.save (Su.puts d0 l i) ⟨x, o, xs⟩).1.n = 20 := by rw [Su.save_n, p2, hz2]
      have k2' := Su.save_done (Su.puts d0 l i) ⟨x, o, xs⟩
      have HR8 := Lib.hid (show n ≤ 8 by rw [← HN.out]; exact (Tb.right_iff.1 hr).n2)
      generalize (Su.save (Su.puts d0 l i) ⟨x, o, xs⟩).1 = d2 at *
      have hd2n : d2.done ≤ 21 := by omega
      have HPB := Lib.hid (fun j (h : j ≤ k) => Su.puts_all f2' (l := r) (show 2 + r.length ≤ d2.n by rw [n2', HK.out]; omega) j (by rw [HK.out]; exact h))
      have HBAR := Lib.hid hbar
      have HN2 := Lib.hid n2'
      clear h0 hr p1 p2 p3 p4 p5 hz hz2 hn2 f2' k2' hbar n2' HPA
      generalize Su.puts d0 l i = d1 at *
      go_wp2_with fail
      go_loopw [10] (fun vi wr => ∃ j : Nat, vi = .int .i64 j ∧ j ≤ k ∧ Fr wr q (Su.puts d2 r j) ∧ Low wr q A (flatX xs) ∧ Low wr q D (cells l) ∧ Low wr q E (cells r) ∧ Blk wr w.heap.size #[.int .i64 x, .int .i64 o, .slice A n cap] 24 ∧ Below w.heap.size w wr) (fun vi _ => k - (intOf vi).toNat)
      case atStart => exact ⟨0, rfl, by omega, F4.out, A4.out, D4.out, E4.out, X4.out, B4.out⟩
      case round =>
        obtain ⟨j, rfl, hj, hfr, hla, hld, hle, hxb, hbr⟩ := hrel
        have FR := Lib.hid hfr
        have AR := Lib.hid hla
        have DR := Lib.hid hld
        have ER := Lib.hid hle
        have XR := Lib.hid hxb
        have BR := Lib.hid hbr
        clear hfr hla hld hle hxb hbr F4 A4 D4 E4 X4 B4
        by_cases hjn : j < k
        · have HIN := Lib.hid (show j + 1 ≤ k by omega)
          obtain ⟨ad, rfl, c0, -⟩ := byte_in ER.out.lies j (by rw [HK.out]; exact hjn)
          have hdn : (Su.puts d2 r j).done < 4611686018427387000 := by
            obtain ⟨-, -, -, -, h⟩ := HPB.out j (by omega)
            omega
          have hst : Su.puts d2 r (j + 1) = ((Su.puts d2 r j).write ((2 + j : Nat) : Int) (Plain.full (r.getD j 0))).1 := rfl
          rw [show ((2 + j : Nat) : Int) = 2 + (j : Int) by omega] at hst
          obtain ⟨dn, hdn'⟩ : ∃ dn, Su.puts d2 r (j + 1) = dn := ⟨_, rfl⟩
          have HDN := Lib.hid hdn'
          rw [hdn'] at hst
          have HST := Lib.hid hst
          clear hst hdn'
          generalize Su.puts d2 r j = di at *
          generalize r.getD j 0 = c at *
          have hw2 : IntKind.i64.wrap (2 + (j : Int)) = 2 + (j : Int) := by rw [IntKind.wrap_i64]; omega
          go_wp2_with fail
          refine (block_any c wr).mono ?_
          rintro e w4 ⟨b, rfl, hbb, hblk, b4⟩
          have F4 := Lib.hid (FR.out.below b4)
          have O4 := Lib.hid (Old.blk hblk (show q + 2 < b by have := FR.out.dev.lt; omega))
          have A4 := Lib.hid (AR.out.below b4)
          have D4 := Lib.hid (DR.out.below b4)
          have E4 := Lib.hid (ER.out.below b4)
          have X4 := Lib.hid (XR.out.below b4 (Nat.le_refl _))
          have B4 := Lib.hid (BR.out.trans (b4.mono BR.out.size))
          clear hblk b4 FR AR DR ER XR BR c0
          go_wp2_with fail
          refine (fr_write q di (2 + (j : Int)) (some ⟨b, 0, none⟩) 64 64 (Plain.full c) w4 (Plain.full_length c) O4.out hdn F4.out).mono ?_
          rintro e w5 ⟨rfl, f5, k5⟩
          have F5 := Lib.hid (show Fr w5 q dn by rw [HST.out]; exact f5)
          have A5 := Lib.hid (A4.out.on k5 HQ3.out)
          have D5 := Lib.hid (D4.out.on k5 HQ3.out)
          have E5 := Lib.hid (E4.out.on k5 HQ3.out)
          have X5 := Lib.hid (k5.blk X4.out HWQ.out)
          have B5 := Lib.hid (Kept.below B4.out k5 HQW.out)
          clear f5 k5 F4 A4 D4 E4 X4 B4 O4 hw2
          generalize (di.write (2 + (j : Int)) (Plain.full c)).2 = ee at *
          go_wp2
          go_roundw
          case rel => exact ⟨j + 1, by go_num, HIN.out, by rw [HDN.out]; exact F5.out, A5.out, D5.out, E5.out, X5.out, B5.out⟩
          case measure => have := HIN.out; first | omega | (simp [intOf]; omega)
        · obtain rfl : j = k := by omega
          clear HPB
          go_wp2_with fail
          refine (fr_boot q (Su.puts d2 r j) [] [] none none 0 0 0 0 wr rfl rfl (by unfold maxLen; omega) (by unfold maxLen; omega) Old.nil Old.nil (by simp) FR.out).mono ?_
          rintro e w4 ⟨rfl, f4, k4⟩
          have F4 := Lib.hid f4
          have A4 := Lib.hid (AR.out.on k4 HQ3.out)
          have D4 := Lib.hid (DR.out.on k4 HQ3.out)
          have X4 := Lib.hid (k4.blk XR.out HWQ.out)
          have B4 := Lib.hid (Kept.below BR.out k4 HQW.out)
          have hnb : ((Su.puts d2 r j).boot [] []).n = 20 := by
            show (Su.puts d2 r j).n = 20
            have : ∀ t, (Su.puts d2 r t).n = d2.n := fun t => by
              induction t with
              | zero => rfl
              | succ t ih => show ((Su.puts d2 r t).write _ _).1.n = _; rw [Plain.Dv.write_n, ih]
            rw [this, HN2.out]
          have HNB := Lib.hid hnb
          have HDB := Lib.hid (show ((Su.puts d2 r j).boot [] []).down = false from rfl)
          clear f4 k4 FR AR DR ER XR BR hnb
          generalize (Su.puts d2 r j).boot [] [] = d4 at *
          go_wp2_with fail
          go_loopw [11] (fun vi wr => ∃ t : Nat, vi = .int .i64 t ∧ t ≤ i ∧ Fr wr q d4 ∧ Low wr q A (flatX xs) ∧ Low wr q D (cells l) ∧ Blk wr w.heap.size #[.int .i64 x, .int .i64 o, .slice A n cap] 24 ∧ Below w.heap.size w wr) (fun vi _ => i - (intOf vi).toNat)
          case atStart => exact ⟨0, rfl, by omega, F4.out, A4.out, D4.out, X4.out, B4.out⟩
          case round =>
            obtain ⟨t, rfl, ht, hfr, hla, hld, hxb, hbr⟩ := hrel
            have FR := Lib.hid hfr
            have AR := Lib.hid hla
            have DR := Lib.hid hld
            have XR := Lib.hid hxb
            have BR := Lib.hid hbr
            clear hfr hla hld hxb hbr F4 A4 D4 X4 B4
            by_cases htn : t < i
            · have HIN := Lib.hid (show t + 1 ≤ i by omega)
              have hsc := HBAR.out.1 t htn
              have hrd : d4.read (2 + (t : Int)) = (Plain.full (l.getD t 0), 0) := by
                unfold Plain.Dv.read
                rw [if_neg (by rw [(d4.has_iff _).2 (by rw [HNB.out]; omega)]; simp), if_neg (by rw [HDB.out]; simp), show (2 + (t : Int)).toNat = 2 + t by omega, hsc]
              obtain ⟨ad, hD, -, hab⟩ := byte_in DR.out.lies t (by rw [HM.out]; exact htn)
              have HDA := Lib.hid hD
              have HCB := Lib.hid (fun (W : World) (hW : Below wr.heap.size wr W) => (show W.cell? (ad.add t) = some (.int .u8 ((l.getD t 0).toNat : Int)) by
                obtain ⟨ad', e, h, _⟩ := byte_in (DR.out.lies.below hW) t (by rw [HM.out]; exact htn)
                rw [hD] at e; injection e with e; subst e; exact h))
              generalize l.getD t 0 = c at *
              have HRD := Lib.hid (read_any wr q d4 (2 + (t : Int)) FR.out.dev)
              rw [hrd] at HRD
              have hw2 : IntKind.i64.wrap (2 + (t : Int)) = 2 + (t : Int) := by rw [IntKind.wrap_i64]; omega
              clear hsc hrd hD
              go_wp2_with fail
              refine HRD.out.mono ?_
              rintro e w5 ⟨AX, cx, rfl, hcx, hcm, hxx, b5⟩
              obtain ⟨b, ty, cs, rfl, hb, hbk, hcs⟩ := hxx (by simp [Plain.full])
              have hxl : Lies w5 (some ⟨b, 0, none⟩) (cells (Plain.full c)) := by
                rw [← hcs]
                exact hbk.lies.take _
              have HXL := Lib.hid hxl
              have hfl : (Plain.full c).length = 64 := Plain.full_length c
              have F5 := Lib.hid (FR.out.below b5)
              have A5 := Lib.hid (AR.out.below b5)
              have D5 := Lib.hid (DR.out.below b5)
              have X5 := Lib.hid (XR.out.below b5 (Nat.le_refl _))
              have B5 := Lib.hid (BR.out.trans (b5.mono BR.out.size))
              have HCB5 := Lib.hid (fun (W : World) (hW : Below w5.heap.size w5 W) => show (Instr.loadAt 5 (.pointer (some (ad.add t)))).run Tryd.prog W = .ok (.int .u8 (c.toNat : Int)) W by
                have cc := HCB.out W (b5.trans (hW.mono b5.size))
                go_simp)
              have HIX := Lib.hid (fun (W : World) => show (Instr.indexAt 41 (.slice D i dap) (.int .i64 (t : Int))).run Tryd.prog W = .ok (.pointer (some (ad.add t))) W by
                rw [HDA.out]
                go_simp)
              simp only [hfl] at hcx ⊢
              have HCX := Lib.hid (fun (W : World) (hW : Below w5.heap.size w5 W) => conv_at (HXL.out.below hW) 64 cx hfl)
              obtain ⟨SX, hSX⟩ : ∃ SX, str (Plain.full c) = SX := ⟨_, rfl⟩
              rw [hSX] at HCX
              have HSX := Lib.hid hSX
              have HFL := Lib.hid hfl
              clear hxx hcm hbk hcs hxl hcx b5 hb hfl hSX FR AR DR XR BR HCB hw2
              go_wp2
              refine wp_softS (by kernel_rfl) 114 [(86, [13]), (87, [86]), (88, [87]), (89, [12, 88]), (90, [89, 88]), (91, [1, 88]), (92, [11, 88]), (93, [91, 92, 88]), (94, [93, 88]), (95, [94, 88]), (96, [95, 88]), (97, [90, 96, 88]), (98, [88, 97])]
                [Fact.is (.int .i64 0), Fact.is (.bool false), Fact.is (.bool false), Fact.is (.slice (some ⟨b, 0, none⟩) 64 cx), Fact.is (.string SX), Fact.is (.slice D i dap), Fact.is (.int .i64 (t : Int)), Fact.is (.pointer (some (ad.add t))), Fact.is (.int .u8 (c.toNat : Int)), Fact.lies (Plain.full c) 64, Fact.is (.string SX), Fact.is (.bool false), Fact.is (.bool false)]
                (by kernel_rfl) rfl rfl ⟨?s0, ?s1, ?s2, ?s3, ?s4, ?s5, ?s6, ?s7, ?s8, ?s9, ?s10, ?s11, ?s12, trivial⟩ ?fin
              case s0 =>
                intro ρ W hb hc hf hr
                obtain ⟨r13, -⟩ := hr
                have e13 : ρ (.tmp 13) = .int .i64 0 := r13
                clear r13
                refine under_none rfl ?_
                exact ⟨e13, Below.refl _ _⟩
              case s1 =>
                intro ρ W hb hc hf hr
                obtain ⟨r86, -⟩ := hr
                have e86 : ρ (.tmp 86) = .int .i64 0 := r86
                clear r86
                refine under_none rfl ?_
                exact soft_bin e86 (hc _) rfl rfl (by go_simp)
              case s2 =>
                intro ρ W hb hc hf hr
                obtain ⟨r87, -⟩ := hr
                have e87 : ρ (.tmp 87) = .bool false := r87
                clear r87
                refine under_none rfl ?_
                exact ⟨e87, Below.refl _ _⟩
              case s3 =>
                intro ρ W hb hc hf hr
                obtain ⟨r12, r88, -⟩ := hr
                have e12 : ρ (.tmp 12) = .slice (some ⟨b, 0, none⟩) 64 cx := r12
                clear r12
                have e88 : ρ (.tmp 88) = .bool false := r88
                clear r88
                refine ⟨88, rfl, .inl ⟨e88, ?_⟩⟩
                exact ⟨e12, Below.refl _ _⟩
              case s4 =>
                intro ρ W hb hc hf hr
                obtain ⟨r89, r88, -⟩ := hr
                have e89 : ρ (.tmp 89) = .slice (some ⟨b, 0, none⟩) 64 cx := r89
                clear r89
                have e88 : ρ (.tmp 88) = .bool false := r88
                clear r88
                refine ⟨88, rfl, .inl ⟨e88, ?_⟩⟩
                exact soft_conv e89 (HCX.out W (undrew hb)) rfl
              case s5 =>
                intro ρ W hb hc hf hr
                obtain ⟨r1, r88, -⟩ := hr
                have e1 : ρ (.tmp 1) = .slice D i dap := r1
                clear r1
                have e88 : ρ (.tmp 88) = .bool false := r88
                clear r88
                refine ⟨88, rfl, .inl ⟨e88, ?_⟩⟩
                exact ⟨e1, Below.refl _ _⟩
              case s6 =>
                intro ρ W hb hc hf hr
                obtain ⟨r11, r88, -⟩ := hr
                have e11 : ρ (.tmp 11) = .int .i64 (t : Int) := r11
                clear r11
                have e88 : ρ (.tmp 88) = .bool false := r88
                clear r88
                refine ⟨88, rfl, .inl ⟨e88, ?_⟩⟩
                exact ⟨e11, Below.refl _ _⟩
              case s7 =>
                intro ρ W hb hc hf hr
                obtain ⟨r91, r92, r88, -⟩ := hr
                have e91 : ρ (.tmp 91) = .slice D i dap := r91
                clear r91
                have e92 : ρ (.tmp 92) = .int .i64 (t : Int) := r92
                clear r92
                have e88 : ρ (.tmp 88) = .bool false := r88
                clear r88
                refine ⟨88, rfl, .inl ⟨e88, ?_⟩⟩
                exact soft9_index e91 e92 (HIX.out W) rfl
              case s8 =>
                intro ρ W hb hc hf hr
                obtain ⟨r93, r88, -⟩ := hr
                have e93 : ρ (.tmp 93) = .pointer (some (ad.add t)) := r93
                clear r93
                have e88 : ρ (.tmp 88) = .bool false := r88
                clear r88
                refine ⟨88, rfl, .inl ⟨e88, ?_⟩⟩
                exact soft_load e93 (HCB5.out W (undrew hb)) rfl
              case s9 =>
                intro ρ W hb hc hf hr
                obtain ⟨r94, r88, -⟩ := hr
                have e94 : ρ (.tmp 94) = .int .u8 (c.toNat : Int) := r94
                clear r94
                have e88 : ρ (.tmp 88) = .bool false := r88
                clear r88
                refine ⟨88, rfl, .inl ⟨e88, ?_⟩⟩
                exact soft_call1 hf e94 (block_any c W) rfl (by kernel_rfl) block_lies
              case s10 =>
                intro ρ W hb hc hf hr
                obtain ⟨r95, r88, -⟩ := hr
                have e88 : ρ (.tmp 88) = .bool false := r88
                clear r88
                refine ⟨88, rfl, .inl ⟨e88, ?_⟩⟩
                exact soft_lies r95 HFL.out HSX.out rfl
              case s11 =>
                intro ρ W hb hc hf hr
                obtain ⟨r90, r96, r88, -⟩ := hr
                have e90 : ρ (.tmp 90) = .string SX := r90
                clear r90
                have e96 : ρ (.tmp 96) = .string SX := r96
                clear r96
                have e88 : ρ (.tmp 88) = .bool false := r88
                clear r88
                refine ⟨88, rfl, .inl ⟨e88, ?_⟩⟩
                exact soft_bin e90 e96 rfl rfl (nes9 W SX)
              case s12 =>
                intro ρ W hb hc hf hr
                obtain ⟨r88, r97, -⟩ := hr
                have e88 : ρ (.tmp 88) = .bool false := r88
                clear r88
                have e97 : ρ (.tmp 97) = .bool false := r97
                clear r97
                refine under_none rfl ?_
                simp [execOp, e88, e97, go_sem, softUpon, Fact.is, Below.refl]
              case fin =>
                intro a w1 hb hd hsz hk
                have ea := act_puts hd hsz rfl hk
                have k86 : a.tmps.getD 86 undef = .int .i64 0 := hk 86
                have k87 : a.tmps.getD 87 undef = .bool false := hk 87
                have k88 : a.tmps.getD 88 undef = .bool false := hk 88
                have k89 : a.tmps.getD 89 undef = .slice (some ⟨b, 0, none⟩) 64 cx := hk 89
                have k90 : a.tmps.getD 90 undef = .string SX := hk 90
                have k91 : a.tmps.getD 91 undef = .slice D i dap := hk 91
                have k92 : a.tmps.getD 92 undef = .int .i64 (t : Int) := hk 92
                have k93 : a.tmps.getD 93 undef = .pointer (some (ad.add t)) := hk 93
                have k94 : a.tmps.getD 94 undef = .int .u8 (c.toNat : Int) := hk 94
                have k95 : (Fact.lies (Plain.full c) 64).φ (a.tmps.getD 95 undef) w1 := hk 95
                have k96 : a.tmps.getD 96 undef = .string SX := hk 96
                have k97 : a.tmps.getD 97 undef = .bool false := hk 97
                have k98 : a.tmps.getD 98 undef = .bool false := hk 98
                clear hk hd hsz
                simp only [List.map_cons, List.map_nil, List.foldl_cons, List.foldl_nil, k86, k87, k88, k89, k90, k91, k92, k93, k94, k96, k97, k98] at ea
                clear k86 k87 k88 k89 k90 k91 k92 k93 k94 k96 k97 k98
                generalize a.tmps.getD 95 undef = v95 at ea k95
                simp only [Act.put, List.setIfInBounds_toArray, List.set_cons_succ, List.set_cons_zero] at ea
                subst ea
                have c5 : Below w5.heap.size w5 w1 := undrew hb
                have F6 := Lib.hid (F5.out.below c5)
                have A6 := Lib.hid (A5.out.below c5)
                have D6 := Lib.hid (D5.out.below c5)
                have X6 := Lib.hid (X5.out.below c5 (Nat.le_refl _))
                have B6 := Lib.hid (B5.out.trans (c5.mono B5.out.size))
                clear c5 hb F5 A5 D5 X5 B5
                go_wp2
                go_roundw
                case rel => exact ⟨t + 1, by go_num, HIN.out, F6.out, A6.out, D6.out, X6.out, B6.out⟩
                case measure => have := HIN.out; first | omega | (simp [intOf]; omega)
            · obtain rfl : t = i := by omega
              go_wp2_with fail
              refine (S.load q d4 x o xs n true 0 wr FR.out HBAR.out.2 HN.out).mono ?_
              rintro e w4 ⟨AX, cx, rfl, -, hx, -, b4⟩
              have ba : Below w4.heap.size w4 (w4.alloc (.cells #[.int .i64 x, .int .i64 o, .slice AX n cx] 24)) := (Below.refl _ _).alloc (Nat.le_refl _) _
              have bb := b4.trans (ba.mono b4.size)
              have A5 := Lib.hid (AR.out.below bb)
              have X5 := Lib.hid (XR.out.below bb (Nat.le_refl _))
              have XL5 := Lib.hid (hx.below ba)
              have XX5 := Lib.hid (Blk.new w4 #[.int .i64 x, .int .i64 o, .slice AX n cx] 24)
              have B5 := Lib.hid (BR.out.trans (bb.mono BR.out.size))
              clear ba bb b4 hx
              obtain ⟨z0, z1, z2⟩ := XX5.out.three
              obtain ⟨y0, y1, y2⟩ := X5.out.three
              go_wp2_with fail
              refine (rsame_is x o AX cx n xs x o A cap n xs _ true HN.out HN.out (by have := HR8.out; omega) XL5.out A5.out.lies (decide_eq_true rfl)).mono ?_
              rintro e w7 ⟨rfl, b7⟩
              have B7 := Lib.hid (B5.out.trans (b7.mono B5.out.size))
              clear b7 z0 z1 z2 y0 y1 y2
              go_wp2
              go_ret
              exact ⟨rfl, B7.out⟩

theorem walk (w : World) (hT : Tab w) (g o : Int) (A : Option Addr) (cap : Nat) (xs : List Tb.Ext) (hl : xs.length ≤ cap) (_ : cap ≤ maxLen) (hA : Lies w A (flatX xs)) (D : Option Addr) (dap : Nat) (l : List UInt8) (_ : l.length ≤ dap) (_ : dap ≤ maxLen) (hD : Lies w D (cells l)) (E : Option Addr) (eap : Nat) (r : List UInt8) (_ : r.length ≤ eap) (_ : eap ≤ maxLen) (hE : Lies w E (cells r)) :
    Calls Tryd.prog 4 #[tabV g o A xs.length cap, .slice D l.length dap, .slice E r.length eap] w fun e w' => e = .returned (.bool true) ∧ Below w.heap.size w w' :=
  walkN superOk w hT g o A cap xs.length xs rfl hl hA D dap l.length l rfl hD E eap r.length r rfl hE


set_option maxRecDepth 100000 in
theorem lifted (os : Os) (started : os.Started) (H : Type) (enc : TypeId × Value → H) :
    ReturnsInHanded {} Tryd.checked os 4 .any (fun w args => (Rows.superBarrierSpec.pre enc Tryd.prog Tryd.f4 [] false w args ∧ laidMetH Tryd.prog laidHere w) ∧ sizedMet enc Tryd.prog Tryd.f4 (OpenSpec.ofChange Rows.superBarrierSpec) false w args) (Rows.superBarrierSpec.post enc Tryd.prog Tryd.f4 false true false false) := by
  refine returnsInHanded_of_change_and (C := Tryd.checked) (X := fun w _ => laidMetH Tryd.prog laidHere w) (fun _ _ _ hh h => h.of_heap hh) own started (by kernel_rfl) Tryd.func4
    (ChangeSpec.witness_shaped (enc := enc) (C := Tryd.checked) (os := os) (X := fun w _ => laidMetH Tryd.prog laidHere w) false (World.doorLaid Tryd.prog doorSteps os) #[.agg #[.int .i64 0, .int .i64 0, .slice none 0 0], .slice none 0 0, .slice none 0 0] 8 rfl (World.shaped_of_RefB (by kernel_rfl) (by kernel_rfl)) (by kernel_rfl) (by kernel_rfl) (by kernel_rfl) (door_met os _)) ?_
  intro W base args ds gs before hval0 hW _ _ hL _
  have hval : ∀ (j : Nat) t v, Tryd.f4.params[j]? = some t → args[j]? = some v → Value.okWide Tryd.prog W .any base t v := hval0
  have hfin := fun W' => law_post (enc := enc) (P := Tryd.prog) (f := Tryd.f4) (s := Rows.superBarrierSpec) (tb := 4) (W := W) (W' := W') (args := args) (ds := ds) (gs := gs) (before := before) laidOut rfl (by kernel_rfl) Tryd.underlying4 (by kernel_rfl) (fun xs h => by rw [Tryd.params4] at h; match xs, h with | [_, _, _], _ => rfl) hW
  have hlt : ∀ x ∈ before, x.block < W.heap.size := fun x hx => hW.lt x hx
  obtain ⟨p, q, hA0, hV, rfl, hfz, hnd⟩ := hW
  have hA : DataW.TrodAll enc Tryd.prog W 0 (fun _ => true) true Tryd.f4.params.toList args.toList ds p := hA0
  rw [Tryd.params4] at hA hval
  obtain ⟨v0, vs0, d0, ds0, p0, q0, hargs, rfl, rfl, h0, r0⟩ := trodAll_cons hA
  obtain ⟨v1, vs1, d1, ds1, p1, q1, rfl, rfl, rfl, h1, r1⟩ := trodAll_cons r0
  obtain ⟨v2, vs2, d2, ds2, p2, q2, rfl, rfl, rfl, h2, r2⟩ := trodAll_cons r1
  obtain ⟨rfl, rfl, rfl⟩ := trodAll_nil r2
  obtain rfl : args = #[v0, v1, v2] := by cases args; simp_all
  obtain ⟨g0, o0, A0, cap0, l0, rfl, hl0, hm0, hB0⟩ := open_table (hval 0 24 v0 rfl rfl) h0 (fun x hx => hlt x (by simp [hx]))
  obtain ⟨A1, cap1, b1, rfl, hl1, hm1, hB1⟩ := open_bytes (hval 1 41 v1 rfl rfl) h1 (fun x hx => hlt x (by simp [hx]))
  obtain ⟨A2, cap2, b2, rfl, hl2, hm2, hB2⟩ := open_bytes (hval 2 41 v2 rfl rfl) h2 (fun x hx => hlt x (by simp [hx]))
  refine (walk W (of_laid hL) g0 o0 A0 cap0 l0 hl0 hm0 hB0 A1 cap1 b1 hl1 hm1 hB1 A2 cap2 b2 hl2 hm2 hB2).mono fun e W' ⟨he, hg⟩ => ?_
  subst he
  exact ⟨_, rfl, hfin W' hg⟩

theorem proved : Rows.SuperBarrierSaid :=
  OpenClaim.holds_of_wide 4 Tryd.f4 rfl rfl rfl rfl rfl rfl rfl ⟨rfl, rfl, rfl, rfl, rfl⟩ rfl rfl rfl rfl rfl (by kernel_rfl) Tryd.func4 (by kernel_rfl)
    (of_decide_eq_true (by kernel_rfl)) (by unfold Func.isWrapper; first | (rw [if_pos (by decide +kernel)]; kernel_rfl) | (rw [if_neg (by decide +kernel)]; exact ⟨rfl, rfl⟩))
    (fun os started H enc _ => lifted os started H enc)

set_option maxRecDepth 100000 in
theorem card : Rows.SuperBarrierCardSaid :=
  Claim7.holds_tied_plain_at .later [] laidKindsHere true _ false
    proved (fun _ h => by cases h) (by kernel_rfl) (fun _ h => by cases h) superBarrier_row_tie rfl ⟨rfl, rfl⟩ (by kernel_rfl) rfl
    (fun f fn hf hfn => by
      obtain rfl : f = 4 := Option.some.inj ((show Tryd.prog.funcNamed "turntable/turntablelaw10.SuperBarrier" = some 4 by kernel_rfl).symm.trans hf) |>.symm
      obtain rfl : fn = Tryd.f4 := (Option.some.inj (Tryd.func4.symm.trans hfn)).symm
      exact ⟨by kernel_rfl, fun j t ht => by
        rw [Tryd.params4] at ht
        have hm : t ∈ [24, 41, 41] := Array.mem_def.1 (Array.mem_of_getElem? ht)
        have hall : ([24, 41, 41].all fun u => !Tryd.prog.wantsStandIn u) = true := by kernel_rfl
        exact (show Tryd.prog.wantsStandIn t = false by simpa using List.all_eq_true.1 hall t hm)⟩)
    (by kernel_rfl)
#print axioms card
end Go.Proofs.YtehnhjnkbclnlaaDoor.superBarrier
