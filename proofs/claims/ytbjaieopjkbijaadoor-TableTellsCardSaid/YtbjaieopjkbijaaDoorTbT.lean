/-
  Layer 9: numbers taken from bytes, the lowest first: table.take, at int64 and at int, one number and two. Assumed: that the bytes, and what the numbers are put into, lie in memory.
-/
import Derived.Test.YtbjaieopjkbijaaDoorTbQ

namespace Go.Proofs.YtbjaieopjkbijaaDoor
open Go.RowKit
set_option maxRecDepth 100000

theorem slice_upto (W : World) (bb bo m cap k : Nat) (hk : k ≤ m) (hc : m ≤ cap) : (Instr.sliceAt 25 (.slice (some ⟨bb, bo, none⟩) m cap) none (some (.int .i64 (k : Int))) none).run Tryd.prog W = .ok (.slice (some ⟨bb, bo, none⟩) k cap) W := by
  have h3 : ¬ cap < k := by omega
  simp [Instr.sliceAt, Instr.slice, run_underlying Tryd.underlying25, Instr.sliceBounds, Instr.sliceBound, asIntOf, h3, Addr.add]
theorem slice_past (W : World) (bb bo m cap k : Nat) (hk : k < m) (hc : m ≤ cap) : (Instr.sliceAt 25 (.slice (some ⟨bb, bo, none⟩) m cap) (some (.int .i64 (k : Int))) none none).run Tryd.prog W = .ok (.slice (some ⟨bb, bo + k, none⟩) (m - k) (cap - k)) W := by
  obtain ⟨i, hi, hsz⟩ := Option.map_eq_some_iff.1 sizeU8
  have h1 : k ≤ m := by omega
  have h3 : ¬ cap = k := by omega
  simp [Instr.sliceAt, Instr.slice, run_underlying Tryd.underlying25, Instr.sliceBounds, Instr.sliceBound, asIntOf, sizeOf, typeInfo, hi, hsz, h1, h3, Addr.add]
theorem or_i64 (a b : Nat) (ha : a < 4611686018427387904) (hb : b < 4611686018427387904) : bits .or .i64 (a : Int) (b : Int) = ((a ||| b : Nat) : Int) := by
  have hx : a ||| b < 2 ^ 62 := Nat.or_lt_two_pow (by omega) (by omega)
  have e : ∀ c : Nat, c < 4611686018427387904 → (BitVec.ofInt 64 (c : Int)).toNat = c := fun c hc => by
    rw [BitVec.ofInt_natCast, BitVec.toNat_ofNat]; exact Nat.mod_eq_of_lt (by omega)
  show IntKind.i64.wrap ((BitVec.ofInt 64 (a : Int) ||| BitVec.ofInt 64 (b : Int)).toNat : Int) = _
  rw [BitVec.toNat_or, e a ha, e b hb, IntKind.wrap_i64]
  omega
/-- one more byte joins the ones below it -/
theorem join8 (acc c k : Nat) (hk : k < 4) (ha : acc < 256 ^ k) (hc : c < 256) : bits .or .i64 (acc : Int) (wrap64 ((c : Int) * 2 ^ (8 * k))) = ((acc + c * 256 ^ k : Nat) : Int) := by
  have p8 : (2 : Nat) ^ (8 * k) = 256 ^ k := by rw [Nat.pow_mul]
  have e : ((c : Int) * 2 ^ (8 * k)) = ((c * 256 ^ k : Nat) : Int) := by
    rw [← p8, Int.natCast_mul, Int.natCast_pow]; rfl
  have hp : 256 ^ k ≤ 16777216 := by
    have : 256 ^ k ≤ 256 ^ 3 := Nat.pow_le_pow_right (by omega) (by omega)
    omega
  have hcp : c * 256 ^ k ≤ 255 * 16777216 := Nat.mul_le_mul (by omega) hp
  have hj : c * 256 ^ k ||| acc = c * 256 ^ k + acc := by
    have h := Nat.two_pow_add_eq_or_of_lt (i := 8 * k) (b := acc) (by rw [p8]; exact ha) c
    rw [p8, Nat.mul_comm] at h
    exact h.symm
  rw [e, IntWalk.wrap64_in _ (by omega), or_i64 _ _ (by omega) (by omega), Nat.or_comm, hj, Nat.add_comm]
theorem num_snoc : ∀ (l : List UInt8) (c : UInt8), Tb.num (l ++ [c]) = Tb.num l + c.toNat * 256 ^ l.length
  | [], c => by simp [Tb.num]
  | b :: r, c => by
    rw [List.cons_append, Tb.num, num_snoc r c, Tb.num, List.length_cons, Nat.mul_add, Nat.pow_succ, ← Nat.add_assoc]
    congr 1
    rw [Nat.mul_comm 256, Nat.mul_assoc]

set_option maxHeartbeats 2000000 in
/-- take: one number -/
theorem take_L (k m cap bb bo g o pc : Nat) (hk : k ≤ 4) (hkm : k < m) (hmc : m ≤ cap) (bs : List UInt8) (hm : bs.length = m) (cs : Array Value) (t : TypeId) (P : Addr) (w : World) (hg : Blk w g cs t) (ho : o < cs.size) (hv : ∃ x, w.cell? ⟨g, o, none⟩ = some (.int .i64 x))
    (hb : ∀ W, Kept [g] w W → W.rangeAt bb bo (cells bs)) (hP : w.cell? P = some (.pointer (some ⟨g, o, none⟩))) :
    Calls Tryd.prog 46 #[.slice (some ⟨bb, bo, none⟩) m cap, .int .i64 (k : Int), .slice (some P) 1 pc] w fun e w' => e = .returned (.slice (some ⟨bb, bo + k, none⟩) (m - k) (cap - k)) ∧ Blk w' g (cs.setIfInBounds o (.int .i64 (Tb.num (bs.take k) : Int))) t ∧ Kept [g] w w' := by
  have HM := Lib.hid hm
  have HB := Lib.hid hb
  have HCS := Lib.hid ho
  have HSL := Lib.hid (fun (W : World) => slice_upto W bb bo m cap k (by omega) hmc)
  have HSF := Lib.hid (fun (W : World) => slice_past W bb bo m cap k hkm hmc)
  have hb0 := hg.set o (.int .i64 0)
  have hf0 := hg.frozen o
  have HB0 := Lib.hid hb0
  have hk0 := (Kept.refl [g] w).setCell (p := ⟨g, o, none⟩) (by simp) (.int .i64 0)
  have HK0 := Lib.hid hk0
  have HOV := Lib.hid hv
  obtain ⟨x0, hx0⟩ := hv
  clear hm hb ho hb0 hk0
  go_enter Tryd.func46, Tryd.ntmps46
  go_wp2_with fail
  refine wp_loop_rounds 2 ?_
  rw [rounds_succ]
  have hsl := HSL.out
  go_wp2_with fail
  clear hsl hx0 hf0 hP
  go_loopw [23] (fun vi wr => ∃ i : Nat, vi = .int .i64 i ∧ i ≤ k ∧ Blk wr g (cs.setIfInBounds o (.int .i64 (Tb.num (bs.take i) : Int))) t ∧ Kept [g] w wr) (fun vi _ => k - (intOf vi).toNat)
  case atStart => exact ⟨0, rfl, by omega, by simpa [Tb.num] using HB0.out, HK0.out⟩
  case round =>
    obtain ⟨i, rfl, hik, hbl, hkr⟩ := hrel
    have HBL := Lib.hid hbl
    have HKR := Lib.hid hkr
    by_cases hi4 : i < k
    · have hil : i < bs.length := by have := HM.out; omega
      have hcb : wr.cell? ⟨bb, bo + i, none⟩ = some (.int .u8 ((bs[i]'hil).toNat : Int)) := HB.out wr hkr i _ (by simp [cells, hil])
      have hcg : wr.cell? ⟨g, o, none⟩ = some (.int .i64 (Tb.num (bs.take i) : Int)) := by rw [hbl.cell]; simp [HCS.out]
      have hfg := hbl.frozen o
      have hlt := Tb.num_lt (bs.take i)
      rw [List.length_take, Nat.min_eq_left (by omega)] at hlt
      have hj := join8 (Tb.num (bs.take i)) (bs[i]'hil).toNat i (by omega) hlt (bs[i]'hil).toNat_lt
      have HNX := Lib.hid (show Tb.num (bs.take (i + 1)) = Tb.num (bs.take i) + (bs[i]'hil).toNat * 256 ^ i by
        rw [List.take_succ_eq_append_getElem hil, num_snoc, List.length_take, Nat.min_eq_left (by omega)])
      have HC8 := Lib.hid (bs[i]'hil).toNat_lt
      have hc8 := HC8.out
      generalize (bs[i]'hil).toNat = c at *
      generalize Tb.num (bs.take i) = a at *
      have HII := Lib.hid (show i + 1 ≤ k by omega)
      clear hbl hkr hlt
      go_wp2
      go_region
      go_wp2
      go_roundw
      case rel =>
        have h2 := HBL.out.set o (.int .i64 ((a + c * 256 ^ i : Nat) : Int))
        rw [Array.setIfInBounds_setIfInBounds] at h2
        exact ⟨i + 1, by go_num, HII.out, by rw [HNX.out]; exact h2, (HKR.out.setCell (p := ⟨g, o, none⟩) (by simp) _).one⟩
      case measure => have := HII.out; first | omega | (simp [intOf]; omega)
    · obtain rfl : i = k := by omega
      have hsf := HSF.out
      clear hbl hkr
      go_wp2
      rw [rounds_succ]
      go_wp2
      go_returns
      exact ⟨rfl, HBL.out, HKR.out⟩

set_option maxHeartbeats 2000000 in
/-- take: one number -/
theorem take_I (k m cap bb bo g o pc : Nat) (hk : k ≤ 4) (hkm : k < m) (hmc : m ≤ cap) (bs : List UInt8) (hm : bs.length = m) (cs : Array Value) (t : TypeId) (P : Addr) (w : World) (hg : Blk w g cs t) (ho : o < cs.size) (hv : ∃ x, w.cell? ⟨g, o, none⟩ = some (.int .i64 x))
    (hb : ∀ W, Kept [g] w W → W.rangeAt bb bo (cells bs)) (hP : w.cell? P = some (.pointer (some ⟨g, o, none⟩))) :
    Calls Tryd.prog 47 #[.slice (some ⟨bb, bo, none⟩) m cap, .int .i64 (k : Int), .slice (some P) 1 pc] w fun e w' => e = .returned (.slice (some ⟨bb, bo + k, none⟩) (m - k) (cap - k)) ∧ Blk w' g (cs.setIfInBounds o (.int .i64 (Tb.num (bs.take k) : Int))) t ∧ Kept [g] w w' := by
  have HM := Lib.hid hm
  have HB := Lib.hid hb
  have HCS := Lib.hid ho
  have HSL := Lib.hid (fun (W : World) => slice_upto W bb bo m cap k (by omega) hmc)
  have HSF := Lib.hid (fun (W : World) => slice_past W bb bo m cap k hkm hmc)
  have hb0 := hg.set o (.int .i64 0)
  have hf0 := hg.frozen o
  have HB0 := Lib.hid hb0
  have hk0 := (Kept.refl [g] w).setCell (p := ⟨g, o, none⟩) (by simp) (.int .i64 0)
  have HK0 := Lib.hid hk0
  have HOV := Lib.hid hv
  obtain ⟨x0, hx0⟩ := hv
  clear hm hb ho hb0 hk0
  go_enter Tryd.func47, Tryd.ntmps47
  go_wp2_with fail
  refine wp_loop_rounds 2 ?_
  rw [rounds_succ]
  have hsl := HSL.out
  go_wp2_with fail
  clear hsl hx0 hf0 hP
  go_loopw [23] (fun vi wr => ∃ i : Nat, vi = .int .i64 i ∧ i ≤ k ∧ Blk wr g (cs.setIfInBounds o (.int .i64 (Tb.num (bs.take i) : Int))) t ∧ Kept [g] w wr) (fun vi _ => k - (intOf vi).toNat)
  case atStart => exact ⟨0, rfl, by omega, by simpa [Tb.num] using HB0.out, HK0.out⟩
  case round =>
    obtain ⟨i, rfl, hik, hbl, hkr⟩ := hrel
    have HBL := Lib.hid hbl
    have HKR := Lib.hid hkr
    by_cases hi4 : i < k
    · have hil : i < bs.length := by have := HM.out; omega
      have hcb : wr.cell? ⟨bb, bo + i, none⟩ = some (.int .u8 ((bs[i]'hil).toNat : Int)) := HB.out wr hkr i _ (by simp [cells, hil])
      have hcg : wr.cell? ⟨g, o, none⟩ = some (.int .i64 (Tb.num (bs.take i) : Int)) := by rw [hbl.cell]; simp [HCS.out]
      have hfg := hbl.frozen o
      have hlt := Tb.num_lt (bs.take i)
      rw [List.length_take, Nat.min_eq_left (by omega)] at hlt
      have hj := join8 (Tb.num (bs.take i)) (bs[i]'hil).toNat i (by omega) hlt (bs[i]'hil).toNat_lt
      have HNX := Lib.hid (show Tb.num (bs.take (i + 1)) = Tb.num (bs.take i) + (bs[i]'hil).toNat * 256 ^ i by
        rw [List.take_succ_eq_append_getElem hil, num_snoc, List.length_take, Nat.min_eq_left (by omega)])
      have HC8 := Lib.hid (bs[i]'hil).toNat_lt
      have hc8 := HC8.out
      generalize (bs[i]'hil).toNat = c at *
      generalize Tb.num (bs.take i) = a at *
      have HII := Lib.hid (show i + 1 ≤ k by omega)
      clear hbl hkr hlt
      go_wp2
      go_region
      go_wp2
      go_roundw
      case rel =>
        have h2 := HBL.out.set o (.int .i64 ((a + c * 256 ^ i : Nat) : Int))
        rw [Array.setIfInBounds_setIfInBounds] at h2
        exact ⟨i + 1, by go_num, HII.out, by rw [HNX.out]; exact h2, (HKR.out.setCell (p := ⟨g, o, none⟩) (by simp) _).one⟩
      case measure => have := HII.out; first | omega | (simp [intOf]; omega)
    · obtain rfl : i = k := by omega
      have hsf := HSF.out
      clear hbl hkr
      go_wp2
      rw [rounds_succ]
      go_wp2
      go_returns
      exact ⟨rfl, HBL.out, HKR.out⟩

set_option maxHeartbeats 4000000 in
/-- take: two numbers -/
theorem take_two (k m cap bb bo g1 g2 pc : Nat) (hk : k ≤ 4) (hkm : k + k < m) (hmc : m ≤ cap) (hne : g1 ≠ g2) (bs : List UInt8) (hm : bs.length = m) (cs1 cs2 : Array Value) (t1 t2 : TypeId) (p : Nat) (w : World) (hg1 : Blk w g1 cs1 t1) (hg2 : Blk w g2 cs2 t2) (ho1 : 0 < cs1.size) (ho2 : 0 < cs2.size) (hv1 : ∃ x, w.cell? ⟨g1, 0, none⟩ = some (.int .i64 x)) (hv2 : ∃ x, w.cell? ⟨g2, 0, none⟩ = some (.int .i64 x))
    (hb : ∀ W, Kept [g1, g2] w W → W.rangeAt bb bo (cells bs)) (hP : ∀ W, Kept [g1, g2] w W → W.cell? ⟨p, 0, none⟩ = some (.pointer (some ⟨g1, 0, none⟩)) ∧ W.cell? ⟨p, 1, none⟩ = some (.pointer (some ⟨g2, 0, none⟩))) :
    Calls Tryd.prog 47 #[.slice (some ⟨bb, bo, none⟩) m cap, .int .i64 (k : Int), .slice (some ⟨p, 0, none⟩) 2 pc] w fun e w' => e = .returned (.slice (some ⟨bb, bo + k + k, none⟩) (m - k - k) (cap - k - k)) ∧ Blk w' g1 (cs1.setIfInBounds 0 (.int .i64 (Tb.num (bs.take k) : Int))) t1 ∧ Blk w' g2 (cs2.setIfInBounds 0 (.int .i64 (Tb.num ((bs.drop k).take k) : Int))) t2 ∧ Kept [g1, g2] w w' := by
  have HM := Lib.hid hm
  have HB := Lib.hid hb
  have HP := Lib.hid hP
  have HCS1 := Lib.hid ho1
  have HCS2 := Lib.hid ho2
  have HSL := Lib.hid (fun (W : World) => slice_upto W bb bo m cap k (by omega) hmc)
  have HSF := Lib.hid (fun (W : World) => slice_past W bb bo m cap k (by omega) hmc)
  have HSL2 := Lib.hid (fun (W : World) => slice_upto W bb (bo + k) (m - k) (cap - k) k (by omega) (by omega))
  have HSF2 := Lib.hid (fun (W : World) => slice_past W bb (bo + k) (m - k) (cap - k) k (by omega) (by omega))
  have HG2 := Lib.hid hg2
  have HV2 := Lib.hid hv2
  have hb0 := hg1.set 0 (.int .i64 0)
  have hf0 := hg1.frozen 0
  have HB0 := Lib.hid hb0
  have hk0 := (Kept.refl [g1] w).setCell (p := ⟨g1, 0, none⟩) (by simp) (.int .i64 0)
  have HK0 := Lib.hid hk0
  obtain ⟨x0, hx0⟩ := hv1
  obtain ⟨hp0, -⟩ := hP w (Kept.refl _ _)
  clear hm hb ho1 ho2 hb0 hk0 hg2 hv2 hP
  go_enter Tryd.func47, Tryd.ntmps47
  go_wp2_with fail
  refine wp_loop_rounds 3 ?_
  rw [rounds_succ]
  have hsl := HSL.out
  go_wp2_with fail
  clear hsl hx0 hf0 hp0
  go_loopw [23] (fun vi wr => ∃ i : Nat, vi = .int .i64 i ∧ i ≤ k ∧ Blk wr g1 (cs1.setIfInBounds 0 (.int .i64 (Tb.num (bs.take i) : Int))) t1 ∧ Kept [g1] w wr) (fun vi _ => k - (intOf vi).toNat)
  case atStart => exact ⟨0, rfl, by omega, by simpa [Tb.num] using HB0.out, HK0.out⟩
  case round =>
    obtain ⟨i, rfl, hik, hbl, hkr⟩ := hrel
    have HBL := Lib.hid hbl
    have HKR := Lib.hid hkr
    by_cases hi4 : i < k
    · have hil : i < bs.length := by have := HM.out; omega
      have hcb : wr.cell? ⟨bb, bo + i, none⟩ = some (.int .u8 ((bs[i]'hil).toNat : Int)) := HB.out wr (hkr.mono (by simp)) i _ (by simp [cells, hil])
      have hcg : wr.cell? ⟨g1, 0, none⟩ = some (.int .i64 (Tb.num (bs.take i) : Int)) := by rw [hbl.cell]; simp [HCS1.out]
      have hfg := hbl.frozen 0
      have hlt := Tb.num_lt (bs.take i)
      rw [List.length_take, Nat.min_eq_left (by omega)] at hlt
      have hj := join8 (Tb.num (bs.take i)) (bs[i]'hil).toNat i (by omega) hlt (bs[i]'hil).toNat_lt
      have HNX := Lib.hid (show Tb.num (bs.take (i + 1)) = Tb.num (bs.take i) + (bs[i]'hil).toNat * 256 ^ i by
        rw [List.take_succ_eq_append_getElem hil, num_snoc, List.length_take, Nat.min_eq_left (by omega)])
      have HC8 := Lib.hid (bs[i]'hil).toNat_lt
      have hc8 := HC8.out
      generalize (bs[i]'hil).toNat = c at *
      generalize Tb.num (bs.take i) = a at *
      have HII := Lib.hid (show i + 1 ≤ k by omega)
      clear hbl hkr hlt
      go_wp2
      go_region
      go_wp2
      go_roundw
      case rel =>
        have h2 := HBL.out.set 0 (.int .i64 ((a + c * 256 ^ i : Nat) : Int))
        rw [Array.setIfInBounds_setIfInBounds] at h2
        exact ⟨i + 1, by go_num, HII.out, by rw [HNX.out]; exact h2, (HKR.out.setCell (p := ⟨g1, 0, none⟩) (by simp) _).one⟩
      case measure => have := HII.out; first | omega | (simp [intOf]; omega)
    · obtain rfl : i = k := by omega
      have hsf := HSF.out
      have hsl2 := HSL2.out
      have hg2 := hkr.blk HG2.out (by simpa using hne.symm)
      have hb20 := hg2.set 0 (.int .i64 0)
      have hf20 := hg2.frozen 0
      have HB20 := Lib.hid hb20
      have hk20 := (hkr.mono (S' := [g1, g2]) (by simp)).setCell (p := ⟨g2, 0, none⟩) (by simp) (.int .i64 0)
      have HK20 := Lib.hid hk20
      have HB1 := Lib.hid (show Blk (wr.setCell ⟨g2, 0, none⟩ (.int .i64 0)) g1 (cs1.setIfInBounds 0 (.int .i64 (Tb.num (bs.take i) : Int))) t1 from ((Kept.refl [g2] wr).setCell (p := ⟨g2, 0, none⟩) (by simp) _).blk hbl (by simpa using hne))
      obtain ⟨x2, hx2⟩ : ∃ x, wr.cell? ⟨g2, 0, none⟩ = some (.int .i64 x) := by
        obtain ⟨x, hx⟩ := HV2.out
        exact ⟨x, by rw [hg2.cell, ← HG2.out.cell]; exact hx⟩
      obtain ⟨-, hp1⟩ := HP.out wr (hkr.mono (by simp))
      have HDN := Lib.hid (show ∀ j, j < i → ∃ h : i + j < bs.length, Tb.num ((bs.drop i).take (j + 1)) = Tb.num ((bs.drop i).take j) + (bs[i + j]'h).toNat * 256 ^ j from fun j hj => by
        have h : i + j < bs.length := by have := HM.out; omega
        refine ⟨h, ?_⟩
        rw [List.take_succ_eq_append_getElem (by rw [List.length_drop]; omega), num_snoc, List.length_take, Nat.min_eq_left (by rw [List.length_drop]; omega), List.getElem_drop])
      obtain ⟨a1, ha1⟩ : ∃ a, Tb.num (bs.take i) = a := ⟨_, rfl⟩
      rw [ha1] at HB1
      have HA1 := Lib.hid ha1
      clear ha1 HBL
      clear hbl hkr hg2 hb20 hk20
      go_wp2
      rw [rounds_succ]
      go_wp2_with fail
      clear hsf hsl2 hx2 hp1 hf20
      go_loopw [23] (fun vi wr => ∃ j : Nat, vi = .int .i64 j ∧ j ≤ i ∧ Blk wr g2 (cs2.setIfInBounds 0 (.int .i64 (Tb.num ((bs.drop i).take j) : Int))) t2 ∧ Blk wr g1 (cs1.setIfInBounds 0 (.int .i64 (a1 : Int))) t1 ∧ Kept [g1, g2] w wr) (fun vi _ => i - (intOf vi).toNat)
      case atStart => exact ⟨0, rfl, by omega, by simpa [Tb.num] using HB20.out, HB1.out, HK20.out⟩
      case round =>
        obtain ⟨j, rfl, hji, hbl, hbl1, hkr⟩ := hrel
        have HBL := Lib.hid hbl
        have HBL1 := Lib.hid hbl1
        have HKR := Lib.hid hkr
        by_cases hj4 : j < i
        · obtain ⟨hil, hnx⟩ := HDN.out j hj4
          have hcb : wr.cell? ⟨bb, bo + i + j, none⟩ = some (.int .u8 ((bs[i + j]'hil).toNat : Int)) := by
            have := HB.out wr hkr (i + j) _ (show (cells bs)[i + j]? = some (.int .u8 ((bs[i + j]'hil).toNat : Int)) by simp [cells, hil])
            rwa [← Nat.add_assoc] at this
          have hcg : wr.cell? ⟨g2, 0, none⟩ = some (.int .i64 (Tb.num ((bs.drop i).take j) : Int)) := by rw [hbl.cell]; simp [HCS2.out]
          have hfg := hbl.frozen 0
          have hlt := Tb.num_lt ((bs.drop i).take j)
          rw [List.length_take, List.length_drop, Nat.min_eq_left (by omega)] at hlt
          have hj := join8 (Tb.num ((bs.drop i).take j)) (bs[i + j]'hil).toNat j (by omega) hlt (bs[i + j]'hil).toNat_lt
          have HNX := Lib.hid hnx
          have HC8 := Lib.hid (bs[i + j]'hil).toNat_lt
          have hc8 := HC8.out
          clear hnx
          generalize (bs[i + j]'hil).toNat = c at *
          generalize Tb.num ((bs.drop i).take j) = a at *
          have HII := Lib.hid (show j + 1 ≤ i by omega)
          clear hbl hbl1 hkr hlt
          go_wp2
          go_region
          go_wp2
          go_roundw
          case rel =>
            have h2 := HBL.out.set 0 (.int .i64 ((a + c * 256 ^ j : Nat) : Int))
            rw [Array.setIfInBounds_setIfInBounds] at h2
            have h1 := ((Kept.refl [g2] wr).setCell (p := ⟨g2, 0, none⟩) (by simp) (.int .i64 ((a + c * 256 ^ j : Nat) : Int))).blk HBL1.out (by simpa using hne)
            exact ⟨j + 1, by go_num, HII.out, by rw [HNX.out]; exact h2, h1, (HKR.out.setCell (p := ⟨g2, 0, none⟩) (by simp) _).one⟩
          case measure => have := HII.out; first | omega | (simp [intOf]; omega)
        · obtain rfl : j = i := by omega
          have hsf2 := HSF2.out
          clear hbl hbl1 hkr
          go_wp2
          rw [rounds_succ]
          go_wp2
          go_returns
          exact ⟨rfl, by rw [HA1.out]; exact HBL1.out, HBL.out, HKR.out⟩

end Go.Proofs.YtbjaieopjkbijaaDoor
