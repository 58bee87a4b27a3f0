/-
  CeA: Layer 8: what cell's small functions answer: Right, Room, the parts of a sector, and a number's four bytes. Nothing is assumed.
  CeB: Layer 8: what a sector's sum should be, and the sector that is made of bytes. Assumed: that the bytes lie in memory, and that the program's table holds what its text lays there.
  CeC: Layer 8: what cell.Put and cell.Get answer, of any numbers and bytes. Assumed: that the bytes lie in memory, and that the program's table holds what its text lays there.
-/
import Derived.Test.YtehnhjnkbclnlaaGreatDoorMath8
import Derived.Test.YtehnhjnkbclnlaaGreatDoorSec
import Derived.Test.YtehnhjnkbclnlaaGreatDoorRef2
import Derived.Stop.BytesEq
import Derived.BigRegion

namespace Go.Proofs.YtehnhjnkbclnlaaGreatDoor
open Go.RowKit
set_option maxRecDepth 100000

theorem right_walk (q p : Int) (w : World) : Calls Tryz.prog 67 #[.int .i64 q, .int .i64 p] w fun e w' => e = .returned (.bool (Ce.right q p)) ∧ w = w' := by
  by_cases h1 : 1 ≤ q
  · by_cases h2 : q ≤ 2147483648
    · by_cases h3 : 0 ≤ p
      · by_cases h4 : p ≤ 255
        · have e : Ce.right q p = true := by simp [Ce.right, *]
          rw [e]
          go_enter Tryz.func67, Tryz.ntmps67
          go_wp2
          go_ret
          exact ⟨rfl, rfl⟩
        · have e : Ce.right q p = false := by simp [Ce.right, *]
          rw [e]
          go_enter Tryz.func67, Tryz.ntmps67
          go_wp2
          go_ret
          exact ⟨rfl, rfl⟩
      · have e : Ce.right q p = false := by simp [Ce.right, *]
        rw [e]
        go_enter Tryz.func67, Tryz.ntmps67
        go_wp2
        go_ret
        exact ⟨rfl, rfl⟩
    · have e : Ce.right q p = false := by simp [Ce.right, *]
      rw [e]
      go_enter Tryz.func67, Tryz.ntmps67
      go_wp2
      go_ret
      exact ⟨rfl, rfl⟩
  · have e : Ce.right q p = false := by simp [Ce.right, *]
    rw [e]
    go_enter Tryz.func67, Tryz.ntmps67
    go_wp2
    go_ret
    exact ⟨rfl, rfl⟩

theorem sum_walk (g : Nat) (w : World) : Calls Tryz.prog 79 #[.pointer (some ⟨g, 0, none⟩)] w fun e w' => e = .returned (.slice (some ⟨g, 60, none⟩) 4 4) ∧ w = w' := by
  go_enter Tryz.func79, Tryz.ntmps79
  go_wp2
  go_ret
  exact ⟨rfl, rfl⟩
theorem summed_walk (g : Nat) (w : World) : Calls Tryz.prog 95 #[.pointer (some ⟨g, 0, none⟩)] w fun e w' => e = .returned (.slice (some ⟨g, 0, none⟩) 60 60) ∧ w = w' := by
  go_enter Tryz.func95, Tryz.ntmps95
  go_wp2
  go_ret
  exact ⟨rfl, rfl⟩

/-- where a sector's bytes begin -/
def partAt (g n : Nat) : Addr := ⟨g, if n = 0 then 0 else 1, none⟩
theorem slice_part (g n : Nat) (w : World) (hn : n ≤ 59) : (Instr.sliceAt 106 (.pointer (some ⟨g, 0, none⟩)) (some (.int .i64 1)) (some (.int .i64 (1 + (n : Int)))) (some (.int .i64 (1 + (n : Int))))).run Tryz.prog w = .ok (.slice (some (partAt g n)) n n) w := by
  have e : (1 + (n : Int)).toNat = 1 + n := by omega
  have h0 : (0 : Int) ≤ 1 + (n : Int) := by omega
  have h1 : (1 : Int) ≤ 1 + (n : Int) := by omega
  have h2 : 1 + (n : Int) ≤ 64 := by omega
  have hs : (Tryz.prog.info? 5).map (·.size) = some 1 := sizeU8
  obtain ⟨i, hi, hsz⟩ := Option.map_eq_some_iff.1 hs
  have ha : (1 + n : Nat) - 1 = n := by omega
  unfold partAt
  by_cases hz : n = 0
  · subst hz
    simp [Instr.sliceAt, run_underlying Tryz.underlying106, Instr.sureAddr, Instr.sliceBounds, Instr.sliceBound, asIntOf, sizeOf, typeInfo, hi]
  · simp [Instr.sliceAt, run_underlying Tryz.underlying106, Instr.sureAddr, Instr.sliceBounds, Instr.sliceBound, asIntOf, sizeOf, typeInfo, hi, hsz, h0, h1, h2, e, hz, Addr.add]
theorem bytes_walk (g n : Nat) (w : World) (hc : w.cell? ⟨g, 0, none⟩ = some (.int .u8 (n : Int))) (hn : n ≤ 59) :
    Calls Tryz.prog 77 #[.pointer (some ⟨g, 0, none⟩)] w fun e w' => e = .returned (.slice (some (partAt g n)) n n) ∧ w = w' := by
  have HS := Lib.hid (slice_part g n w hn)
  generalize partAt g n = pa at *
  have hs := HS.out
  go_enter Tryz.func77, Tryz.ntmps77
  go_wp2
  go_ret
  exact ⟨rfl, rfl⟩

/-! a number's four bytes -/
theorem cells_sum4 (n : Nat) (hn : n < 4294967296) : cells (Crc.sumBytes (BitVec.ofNat 32 n)) = [.int .u8 ((n : Int) % 256), .int .u8 ((n : Int) / 256 % 256), .int .u8 ((n : Int) / 65536 % 256), .int .u8 ((n : Int) / 16777216)] := by
  have e0 : (BitVec.ofNat 32 n).toNat = n := by rw [BitVec.toNat_ofNat, Nat.mod_eq_of_lt hn]
  simp only [cells, Crc.sumBytes, List.map_cons, List.map_nil, BitVec.toNat_ushiftRight, Nat.shiftRight_eq_div_pow, e0, UInt8.toNat_ofNat']
  simp only [List.cons.injEq, Value.int.injEq, true_and, and_true]
  omega

theorem Blk.here {w : World} {g : Nat} {cs : Array Value} {t : TypeId} (h : Blk w g cs t) (i : Nat) (hi : i < cs.size) : ∃ v, w.cell? ⟨g, i, none⟩ = some v := ⟨_, (h.cell i).trans (Array.getElem?_eq_getElem hi)⟩
set_option maxHeartbeats 2000000 in
theorem putLow_walk (g o n : Nat) (hn : n < 4294967296) (cs : Array Value) (t : TypeId) (w : World) (hb : Blk w g cs t) (ho : o + 4 ≤ cs.size) :
    Calls Tryz.prog 78 #[.slice (some ⟨g, o, none⟩) 4 4, .int .u32 (n : Int)] w fun e w' => e = .returned (.tuple #[]) ∧ w' = w.setCells g o (cells (Crc.sumBytes (BitVec.ofNat 32 n))) := by
  rw [cells_sum4 n hn]
  obtain ⟨x0, c0⟩ := hb.here o (by omega)
  have f0 := hb.frozen o
  have hb1 := hb.set o (.int .u8 ((n : Int) % 256))
  obtain ⟨x1, c1⟩ := hb1.here (o + 1) (by simp; omega)
  have f1 := hb1.frozen (o + 1)
  have hb2 := hb1.set (o + 1) (.int .u8 ((n : Int) / 256 % 256))
  obtain ⟨x2, c2⟩ := hb2.here (o + 2) (by simp; omega)
  have f2 := hb2.frozen (o + 2)
  have hb3 := hb2.set (o + 2) (.int .u8 ((n : Int) / 65536 % 256))
  obtain ⟨x3, c3⟩ := hb3.here (o + 3) (by simp; omega)
  have f3 := hb3.frozen (o + 3)
  clear hb1 hb2 hb3 hb
  go_enter Tryz.func78, Tryz.ntmps78
  go_wp2
  refine wp_loop_rounds 5 ?_
  rw [rounds_succ]
  go_wp2
  rw [rounds_succ]
  go_wp2
  rw [rounds_succ]
  go_wp2
  rw [rounds_succ]
  go_wp2
  rw [rounds_succ]
  go_wp2
  go_returns
  exact ⟨rfl, rfl⟩
end Go.Proofs.YtehnhjnkbclnlaaGreatDoor

namespace Go.Proofs.YtehnhjnkbclnlaaGreatDoor
open Go.RowKit
set_option maxRecDepth 100000

theorem set_take (cs : List Value) (o : Nat) (v : Value) (r : List Value) (h : o + 1 + r.length ≤ cs.length) : (cs.set o v).take (o + 1) ++ r ++ (cs.set o v).drop (o + 1 + r.length) = cs.take o ++ v :: r ++ cs.drop (o + 1 + r.length) := by
  rw [List.drop_set_of_lt (by omega), List.take_succ_eq_append_getElem (by rw [List.length_set]; omega), List.take_set_of_le (Nat.le_refl _), List.getElem_set_self]
  simp
/-- what is stored one behind the other -/
theorem Blk.patch {g : Nat} {t : TypeId} : ∀ (vs : List Value) (o : Nat) {w : World} {cs : List Value}, Blk w g cs.toArray t → o + vs.length ≤ cs.length → Blk (w.setCells g o vs) g (cs.take o ++ vs ++ cs.drop (o + vs.length)).toArray t
  | [], o, w, cs, h, _ => by simpa [World.setCells] using h
  | v :: r, o, w, cs, h, hl => by
    have h1 := h.set o v
    have e : cs.toArray.setIfInBounds o v = (cs.set o v).toArray := by simp
    rw [e] at h1
    have h2 := Blk.patch r (o + 1) h1 (by rw [List.length_set]; simp at hl; omega)
    rw [set_take cs o v r (by simp at hl; omega)] at h2
    have e2 : o + (v :: r).length = o + 1 + r.length := by simp; omega
    rw [e2]
    exact h2
theorem putLow_is (g o n : Nat) (hn : n < 4294967296) (xs : List UInt8) (t : TypeId) (w : World) (hb : Blk w g (cells xs).toArray t) (ho : o + 4 ≤ xs.length) :
    Calls Tryz.prog 78 #[.slice (some ⟨g, o, none⟩) 4 4, .int .u32 (n : Int)] w fun e w' => e = .returned (.tuple #[]) ∧ Blk w' g (cells (xs.take o ++ Crc.sumBytes (BitVec.ofNat 32 n) ++ xs.drop (o + 4))).toArray t ∧ Kept [g] w w' ∧ w'.heap.size = w.heap.size := by
  refine (putLow_walk g o n hn _ t w hb (by rw [cells_size]; exact ho)).mono ?_
  rintro e w' ⟨rfl, rfl⟩
  refine ⟨rfl, ?_, (Kept.refl _ _).setCells (by simp) _ _, setCells_size ..⟩
  have h := hb.patch (cells (Crc.sumBytes (BitVec.ofNat 32 n))) o (by rw [cells_length, cells_length, Crc.sumBytes_length]; exact ho)
  rw [cells_length, Crc.sumBytes_length, cells_take, cells_drop, ← cells_append, ← cells_append] at h
  exact h
theorem Blk.lieAt {w : World} {g : Nat} {xs : List UInt8} {t : TypeId} (h : Blk w g (cells xs).toArray t) (o : Nat) : Lies w (some ⟨g, o, none⟩) (cells (xs.drop o)) := by
  refine .inr ⟨_, rfl, h.lt, fun j u hu => ?_⟩
  rw [Addr.add_mid, h.cell]
  rw [← cells_drop, List.getElem?_drop] at hu
  simpa using hu
theorem Blk.at_ {w : World} {g : Nat} {xs : List UInt8} {t : TypeId} (h : Blk w g (cells xs).toArray t) (i : Nat) (hi : i < xs.length) : w.cell? ⟨g, i, none⟩ = some (.int .u8 (xs[i].toNat : Int)) := by
  rw [h.cell]; simp [cells, hi]

theorem Blk.below {w w' : World} {g b : Nat} {cs : Array Value} {t : TypeId} (h : Blk w g cs t) (hb : Below b w w') (hs : w.heap.size ≤ b) : Blk w' g cs t := (hb.block g (Nat.lt_of_lt_of_le h.lt hs)).trans h
theorem sumOf_walk (gs q p : Nat) (s : List UInt8) (hs : s.length = 64) (hq : q ≤ 2147483648) (hp : p ≤ 255) (t : TypeId) (w : World) (hB : Blk w gs (cells s).toArray t) (hT : Tab w) :
    Calls Tryz.prog 80 #[.pointer (some ⟨gs, 0, none⟩), .int .i64 (q : Int), .int .i64 (p : Int)] w fun e w' => e = .returned (.int .u32 ((Ce.sum q p (s.take 60)).toNat : Int)) ∧ Below w.heap.size w w' := by
  have HT := Lib.hid hT
  clear hT
  have HB := Lib.hid hB
  clear hB
  have HZ : cells [0, 0, 0, 0, 0] = [.int .u8 0, .int .u8 0, .int .u8 0, .int .u8 0, .int .u8 0] := rfl
  have HN := Lib.hid (show Blk (w.alloc (.cells #[.int .u8 0, .int .u8 0, .int .u8 0, .int .u8 0, .int .u8 0] 137)) w.heap.size (cells [0, 0, 0, 0, 0]).toArray 137 from Blk.new w _ _)
  clear HZ
  have HL := Lib.hid (show Below w.heap.size w (w.alloc (.cells #[.int .u8 0, .int .u8 0, .int .u8 0, .int .u8 0, .int .u8 0] 137)) from (Below.refl _ _).alloc (Nat.le_refl _) _)
  go_enter Tryz.func80, Tryz.ntmps80
  go_wp2_with fail
  refine (putLow_is w.heap.size 0 q (by omega) [0, 0, 0, 0, 0] _ _ HN.out (by decide)).mono ?_
  rintro e w1 ⟨rfl, hb1, hk1, hz1⟩
  have hB1 := Kept.below HL.out hk1 (by simp)
  have c4 := hb1.at_ 4 (by simp [Crc.sumBytes_length])
  have f4 := hb1.frozen 4
  have hv : ((UInt8.ofNat p).toNat : Int) = (p : Int) := by rw [UInt8.toNat_ofNat']; omega
  have hb2 := hb1.set 4 (.int .u8 (p : Int))
  have e2 : (cells (List.take 0 [0, 0, 0, 0, 0] ++ Crc.sumBytes (BitVec.ofNat 32 q) ++ List.drop (0 + 4) [0, 0, 0, 0, 0])).toArray.setIfInBounds 4 (.int .u8 (p : Int)) = (cells (Ce.hd q p)).toArray := by
    rw [← hv]; rfl
  rw [e2] at hb2
  have hB2 := hB1.setCell (p := ⟨w.heap.size, 4, none⟩) (Nat.le_refl _) (.int .u8 (p : Int))
  have L5 := Lib.hid (hb2.lieAt 0)
  rw [List.drop_zero] at L5
  have T2 := Lib.hid (HT.out.below hB2 (Nat.le_refl _))
  have HB2 := Lib.hid (HB.out.below hB2 (Nat.le_refl _))
  have L6 := Lib.hid ((HB2.out.lieAt 0).take 60)
  rw [List.drop_zero, cells_take] at L6
  have HBB := Lib.hid hB2
  clear hb1 hk1 hz1 hB1 hb2 e2 hB2 hv
  go_wp2_with fail
  refine (of_is (some ⟨w.heap.size, 0, none⟩) 5 5 (Ce.hd q p) _ _ rfl (by omega) rfl L5.out T2.out).mono ?_
  rintro e w' ⟨rfl, rfl⟩
  generalize hS : (Crc.of (Ce.hd q p)).toNat = S
  have hSlt : S < 4294967296 := by rw [← hS]; exact (Crc.of (Ce.hd q p)).isLt
  have HS := Lib.hid hS
  clear hS
  go_wp2_with fail
  refine (summed_walk gs _).mono ?_
  rintro e w' ⟨rfl, rfl⟩
  go_wp2_with fail
  refine (more_is S hSlt (some ⟨gs, 0, none⟩) 60 60 (s.take 60) _ _ (by rw [List.length_take]; omega) (by omega) rfl L6.out T2.out).mono ?_
  rintro e w' ⟨rfl, rfl⟩
  go_wp2
  go_ret
  refine ⟨?_, HBB.out⟩
  rw [← HS.out, ofNat_of]
  rfl

theorem secC : Sec64 106 := ⟨⟨_, Tryz.underlying106, rfl⟩, by kernel_rfl, fun w => by kernel_rfl⟩
/-- a sector that is filled up to its sum -/
def Ce.full (bs : List UInt8) : List UInt8 := Ce.body bs ++ [0, 0, 0, 0]
theorem Ce.full_length (bs : List UInt8) (h : bs.length ≤ 59) : (Ce.full bs).length = 64 := by simp [Ce.full, Ce.body_length bs h]
theorem Ce.full_take (bs : List UInt8) (h : bs.length ≤ 59) : (Ce.full bs).take 60 = Ce.body bs := List.take_left' (Ce.body_length bs h)
theorem Ce.full_drop (bs : List UInt8) (h : bs.length ≤ 59) : (Ce.full bs).drop (60 + 4) = [] := List.drop_of_length_le (by rw [Ce.full_length bs h]; omega)
def Ce.begun (n : Nat) : List UInt8 := UInt8.ofNat n :: List.replicate 63 0
theorem Ce.begun_length (n : Nat) : (Ce.begun n).length = 64 := by simp [Ce.begun]
theorem splice_full (bs : List UInt8) (h : bs.length ≤ 59) : splice (cells (Ce.begun bs.length)) 1 (cells bs) = cells (Ce.full bs) := by
  unfold splice Ce.full Ce.body Ce.begun
  rw [cells_length, cells_take, cells_drop, ← cells_append, ← cells_append]
  congr 1
  rw [show 1 + bs.length = bs.length + 1 by omega, List.drop_succ_cons, List.drop_replicate, show 63 - bs.length = (59 - bs.length) + 4 by omega, ← List.replicate_append_replicate]
  simp [List.replicate]

set_option maxHeartbeats 1000000 in
theorem made_walk (q p : Nat) (hq : q ≤ 2147483648) (hp : p ≤ 255) (A : Option Addr) (cap n : Nat) (bs : List UInt8) (w : World) (hn : bs.length = n) (h59 : n ≤ 59) (hA : Lies w A (cells bs)) (hT : Tab w) :
    Calls Tryz.prog 68 #[.int .i64 (q : Int), .int .i64 (p : Int), .slice A n cap] w fun e w' => e = .returned (secV (Ce.made q p bs)) ∧ Below w.heap.size w w' := by
  have HT := Lib.hid hT
  have HA := Lib.hid hA
  have HN := Lib.hid hn
  have HCL := Lib.hid (show (cells bs).length = n by rw [cells_length, hn])
  have H1 := Lib.hid (cells_one bs)
  have HSP := Lib.hid (splice_full bs (by omega))
  have HFL := Lib.hid (Ce.full_length bs (by omega))
  have HFT := Lib.hid (Ce.full_take bs (by omega))
  have HFD := Lib.hid (Ce.full_drop bs (by omega))
  have HML := Lib.hid (Ce.made_length q p bs (by omega))
  have HM := Lib.hid (show Ce.made q p bs = Ce.body bs ++ Crc.sumBytes (Ce.sum q p (Ce.body bs)) from rfl)
  rw [hn] at HSP
  have hvc : ((UInt8.ofNat n).toNat : Int) = (n : Int) := by rw [UInt8.toNat_ofNat']; omega
  have HV := Lib.hid hvc
  clear hT hA hn hvc
  generalize Ce.made q p bs = M at *
  generalize Ce.full bs = F at *
  generalize Ce.body bs = BD at *
  go_enter Tryz.func68, Tryz.ntmps68
  go_wp2_with (refine wpList_sec_alloc secC rfl rfl ?k1)
  case k1 =>
    intro w1 hb1 hB1 hz1
    go_wp2_with (refine wpList_sec_alloc secC rfl rfl ?k2)
    case k2 =>
      intro w2 hb2 hB2 hz2
      have HB1 := Lib.hid (hb1.below hB2 (by omega))
      have hBB := hB1.trans (hB2.mono (by omega))
      have c0 := hb2.at_ 0 (by simp [zeros64])
      have f0 := hb2.frozen 0
      have hb3 := hb2.set 0 (.int .u8 (n : Int))
      have e3 : (cells zeros64).toArray.setIfInBounds 0 (.int .u8 (n : Int)) = (cells (Ce.begun n)).toArray := by
        rw [← HV.out]; rfl
      rw [e3] at hb3
      have hB3 := hBB.setCell (p := ⟨w.heap.size + 1, 0, none⟩) (Nat.le_succ _) (.int .u8 (n : Int))
      have HB13 := Lib.hid (show Blk (w2.setCell ⟨w.heap.size + 1, 0, none⟩ (.int .u8 (n : Int))) w.heap.size (cells zeros64).toArray 106 from (((Kept.refl [w.heap.size + 1] w2).setCell (p := ⟨w.heap.size + 1, 0, none⟩) (by simp) _).blk HB1.out (by simp)))
      have cc := hb3.at_ 0 (by simp [Ce.begun])
      have HCC := Lib.hid (cc.trans (by rw [← HV.out]; rfl) : _ = some (.int .u8 (n : Int)))
      have HB3 := Lib.hid hb3
      have HBE3 := Lib.hid hB3
      clear hb2 e3 hb3 hB3 cc hb1 hB1 hBB hB2
      go_wp2_with fail
      refine (bytes_walk (w.heap.size + 1) n _ HCC.out h59).mono ?_
      rintro e w' ⟨rfl, rfl⟩
      generalize w2.setCell ⟨w.heap.size + 1, 0, none⟩ (.int .u8 (n : Int)) = w3 at *
      go_wp2_with (with_reducible refine wpList_copy_splice rfl _ _ 32 32 rfl 5 Tryz.underlying32 sizeU8 _ _ _ _ _ _ rfl rfl (w.heap.size + 1) 1 (cells (Ce.begun n)) 106 ?c1 (cells bs) ?c2 ?c3 ?c4 H1.out (w.heap.size + 1) w3 (Below.refl _ _) (Nat.le_refl _) ?c6)
      case c1 => exact HB3.out
      case c2 => rw [HCL.out]; exact (Nat.min_self n).symm
      case c3 =>
        intro hpos
        refine ⟨?_, ?_⟩
        · rw [HCL.out] at hpos
          unfold partAt
          rw [if_neg (by omega)]
        · rcases HA.out.below HBE3.out with h | ⟨ad, e, _, hc⟩
          · rw [h] at hpos; simp at hpos
          · exact ⟨ad, e, hc⟩
      case c4 => rw [HCL.out, cells_length, Ce.begun_length]; omega
      case c6 =>
        intro w4 hg4 hB4
        have hb4 : Blk w4 (w.heap.size + 1) (cells F).toArray 106 := by
          have := hg4.out
          rw [HSP.out] at this
          exact this
        have HB4 := Lib.hid hb4
        have HB14 := Lib.hid (show Blk w4 w.heap.size (cells zeros64).toArray 106 from (hB4.block _ (Nat.lt_succ_self _)).trans HB13.out)
        have HBE4 := Lib.hid (HBE3.out.trans (hB4.mono (Nat.le_succ _)))
        clear hg4 hB4 hb4 f0 c0
        go_wp2_with fail
        refine (sum_walk (w.heap.size + 1) _).mono ?_
        rintro e w' ⟨rfl, rfl⟩
        go_wp2_with fail
        refine (sumOf_walk (w.heap.size + 1) q p F HFL.out hq hp _ w4 HB4.out (HT.out.below HBE4.out (Nat.le_refl _))).mono ?_
        rintro e w5 ⟨rfl, hB5⟩
        rw [HFT.out]
        have hSlt := (Ce.sum q p BD).isLt
        generalize hS : (Ce.sum q p BD).toNat = S at *
        have HS := Lib.hid hS
        clear hS
        have HB5 := Lib.hid (HB4.out.below hB5 (Nat.le_refl _))
        have HB15 := Lib.hid (HB14.out.below hB5 (Nat.le_refl _))
        have HBE5 := Lib.hid (HBE4.out.trans (hB5.mono HBE4.out.size))
        clear hB5
        go_wp2_with fail
        refine (putLow_is (w.heap.size + 1) 60 S (by omega) F _ w5 HB5.out (by have := HFL.out; omega)).mono ?_
        rintro e w6 ⟨rfl, hb6, hk6, hz6⟩
        rw [HFT.out, HFD.out, ← HS.out, ofNat_of, List.append_nil, ← HM.out] at hb6
        have HB6 := Lib.hid hb6
        have HB16 := Lib.hid (hk6.blk HB15.out (by simp))
        have HBE6 := Lib.hid (Kept.below HBE5.out hk6 (by simp))
        clear hb6 hk6
        go_wp2_with (first
          | (refine wpList_sec_load secC rfl _ rfl (w.heap.size + 1) 0 rfl M HML.out HB6.out.range ?_)
          | (refine wpList_sec_store secC rfl _ _ rfl w.heap.size rfl M HML.out rfl (cells zeros64).toArray (by rw [cells_size, zeros64_length]) HB16.out ?_; intro w7 hb7 hk7 hz7))
        have HB7 := Kept.below HBE6.out hk7 (by simp)
        have hl := run_loadVar_mid (P := Tryz.prog) w7 w.heap.size 0 106 (cells M) _ hb7.range Tryz.underlying106 rfl (by rw [secC.size, cells_length, HML.out])
        exact bodyPost_ret (v := secV M) (w := w7) (by simp [results, Tryz.results68, Act.put, asAddr, hl, secV]) rfl ⟨rfl, HB7⟩
end Go.Proofs.YtehnhjnkbclnlaaGreatDoor

namespace Go.Proofs.YtehnhjnkbclnlaaGreatDoor
open Go.RowKit
set_option maxRecDepth 100000

theorem ne_sec (W : World) (a b : List UInt8) (ha : a.length = 64) (hb : b.length = 64) (B : Bool) (h : (a == b) = !B) : (binOp .neq 106 (secV a) (secV b)).run Tryz.prog W = .ok (.bool B) W := by
  obtain ⟨i, hi, hsz⟩ := Option.map_eq_some_iff.1 sizeU8
  have e := run_equalIn_bytes (P := Tryz.prog) W 9998 106 5 64 Tryz.underlying106 Tryz.underlying5 (fun w => by simp [sizeOf, typeInfo, hi, hsz]) a b ha hb
  have e2 : (Op.equalIn 10000 106 (secV a) (secV b)).run Tryz.prog W = .ok (a == b) W := e
  unfold secV at e2 ⊢
  rw [run_neq_struct, e2, h]
  simp
theorem soft_ne_sec {w : World} {ρ : Operand → Value} {o : Oper} {x y : Operand} {a b : List UInt8} {u : Value} {yt : TypeId} (hx : ρ x = secV a) (hy : ρ y = secV b) (hr : (binOp .neq 106 (secV a) (secV b)).run Tryz.prog w = .ok u w) (ho : o.op = .binOp .neq 106 x y yt) : softUpon Tryz.prog w (Fact.is u) ((execOp ρ o).run Tryz.prog w) := by
  have e : (execOp ρ o).run Tryz.prog w = .ok (.value u) w := by
    have hg := run_eqGuard_agg (P := Tryz.prog) w .neq 106 x y (cells a).toArray (cells b).toArray (by kernel_rfl)
    unfold secV at hx hy hr
    simp [execOp, ho, hx, hy, hg, hr]
  rw [e]
  exact ⟨rfl, Below.refl _ _⟩

/-- what Put hands back: a sector of its own, or nothing -/
def GivesP (w : World) (yes : Prop) (M : List UInt8) (e : Ending) (w' : World) : Prop :=
  Below w.heap.size w w' ∧ ((yes ∧ ∃ g, e = .returned (.slice (some ⟨g, 0, none⟩) 64 64) ∧ w.heap.size ≤ g ∧ Blk w' g (cells M).toArray 106) ∨ (¬ yes ∧ e = .returned (.slice none 0 0)))

theorem put_walk (q p : Int) (A : Option Addr) (cap n : Nat) (bs : List UInt8) (w : World) (hn : bs.length = n) (hA : Lies w A (cells bs)) (hT : Tab w) :
    Calls Tryz.prog 56 #[.int .i64 q, .int .i64 p, .slice A n cap] w (GivesP w (Ce.right q p = true ∧ n ≤ 59) (Ce.put q p bs)) := by
  unfold GivesP
  by_cases hr : Ce.right q p = true
  · by_cases h59 : n ≤ 59
    · obtain ⟨h1, h2, h3, h4⟩ := (Ce.right_iff q p).1 hr
      obtain ⟨qn, rfl⟩ := Int.eq_ofNat_of_zero_le (show 0 ≤ q by omega)
      obtain ⟨pn, rfl⟩ := Int.eq_ofNat_of_zero_le h3
      have HP := Lib.hid (show Ce.put (qn : Int) (pn : Int) bs = Ce.made qn pn bs from Ce.put_yes hr (by omega))
      have HML := Lib.hid (Ce.made_length qn pn bs (by omega))
      have HMD := Lib.hid (made_walk qn pn (by omega) (by omega) A cap n bs w hn h59 hA hT)
      have HRW := Lib.hid (right_walk (qn : Int) (pn : Int) w)
      rw [hr] at HRW
      have HR := Lib.hid hr
      have hdd : decide ((59 : Int) < (n : Int)) = false := by simp; omega
      generalize Ce.made qn pn bs = M at *
      clear hA hT hr hn h1 h2 h3 h4
      go_enter Tryz.func56, Tryz.ntmps56
      go_wp2_with fail
      refine HRW.out.mono ?_
      rintro e w' ⟨rfl, rfl⟩
      go_wp2_with fail
      refine HMD.out.mono ?_
      rintro e w1 ⟨rfl, hB1⟩
      go_wp2_with (first
        | (refine wpList_sec_alloc secC rfl rfl ?_; intro w2 hb2 hB2 hz2)
        | (refine wpList_sec_store secC rfl _ _ rfl w1.heap.size rfl M HML.out rfl (cells zeros64).toArray (by rw [cells_size, zeros64_length]) hb2 ?_; intro w3 hb3 hk3 hz3))
      go_ret
      refine ⟨Kept.below (hB1.trans (hB2.mono hB1.size)) hk3 (by simp [hB1.size]), .inl ⟨⟨HR.out, h59⟩, w1.heap.size, rfl, hB1.size, ?_⟩⟩
      rw [HP.out]
      exact hb3
    · have HRW := Lib.hid (right_walk q p w)
      rw [hr] at HRW
      have hdd : decide ((59 : Int) < (n : Int)) = true := by simp; omega
      clear hA hT hn hr
      go_enter Tryz.func56, Tryz.ntmps56
      go_wp2_with fail
      refine HRW.out.mono ?_
      rintro e w' ⟨rfl, rfl⟩
      go_wp2
      go_ret
      exact ⟨Below.refl _ _, .inr ⟨fun h => h59 h.2, rfl⟩⟩
  · have hr' : Ce.right q p = false := by simpa using hr
    have HRW := Lib.hid (right_walk q p w)
    rw [hr'] at HRW
    clear hA hT hn
    go_enter Tryz.func56, Tryz.ntmps56
    go_wp2_with fail
    refine HRW.out.mono ?_
    rintro e w' ⟨rfl, rfl⟩
    go_wp2
    go_ret
    exact ⟨Below.refl _ _, .inr ⟨fun h => hr h.1, rfl⟩⟩

/-- what Get hands back: bytes of its own, or none -/
def GivesG (w : World) (ok : Bool) (b : List UInt8) (e : Ending) (w' : World) : Prop :=
  Below w.heap.size w w' ∧ ((ok = true ∧ ∃ g k, k = b.length ∧ e = .returned (.tuple #[.slice (some (partAt g k)) k k, .bool true]) ∧ w.heap.size ≤ g ∧ Lies w' (some (partAt g k)) (cells b)) ∨ (ok = false ∧ e = .returned (.tuple #[.slice none 0 0, .bool false])))

theorem cput_yes (q p : Int) (A : Option Addr) (cap n : Nat) (bs : List UInt8) (w : World) (hn : bs.length = n) (hr : Ce.right q p = true) (h59 : n ≤ 59) (hA : Lies w A (cells bs)) (hT : Tab w) :
    Calls Tryz.prog 56 #[.int .i64 q, .int .i64 p, .slice A n cap] w fun e w' => ∃ g, e = .returned (.slice (some ⟨g, 0, none⟩) 64 64) ∧ w.heap.size ≤ g ∧ Blk w' g (cells (Ce.put q p bs)).toArray 106 ∧ Below w.heap.size w w' := by
  refine (put_walk q p A cap n bs w hn hA hT).mono ?_
  rintro e w' ⟨hb, ⟨_, g, h1, h2, h3⟩ | ⟨h, _⟩⟩
  · exact ⟨g, h1, h2, h3, hb⟩
  · exact absurd ⟨hr, h59⟩ h
theorem cput_no (q p : Int) (A : Option Addr) (cap n : Nat) (bs : List UInt8) (w : World) (hn : bs.length = n) (h : ¬ (Ce.right q p = true ∧ n ≤ 59)) (hA : Lies w A (cells bs)) (hT : Tab w) :
    Calls Tryz.prog 56 #[.int .i64 q, .int .i64 p, .slice A n cap] w fun e w' => e = .returned (.slice none 0 0) ∧ Below w.heap.size w w' := by
  refine (put_walk q p A cap n bs w hn hA hT).mono ?_
  rintro e w' ⟨hb, ⟨h', _⟩ | ⟨_, h1⟩⟩
  · exact absurd h' h
  · exact ⟨h1, hb⟩
theorem Blk.liesAll {w : World} {g : Nat} {xs : List UInt8} {t : TypeId} (h : Blk w g (cells xs).toArray t) : Lies w (some ⟨g, 0, none⟩) (cells xs) := by
  have := h.lieAt 0
  rwa [List.drop_zero] at this
theorem right_is (q p : Int) (r : Bool) (h : Ce.right q p = r) (w : World) : Calls Tryz.prog 67 #[.int .i64 q, .int .i64 p] w fun e w' => e = .returned (.bool r) ∧ w = w' := by
  subst h; exact right_walk q p w
/-- string(b), b of its own length -/
theorem conv_at {w : World} {A : Option Addr} {bs : List UInt8} (h : Lies w A (cells bs)) (n c : Nat) (hn : bs.length = n) : (convert 32 9 (.slice A n c)).run Tryz.prog w = .ok (.string (str bs)) w := by
  subst hn
  exact conv_str h 32 5 Tryz.underlying32 Tryz.underlying5 9 Tryz.underlying9
theorem min_at (n k r : Nat) (h : min n k = r) (W : World) : (Builtin.min_ #[3, 3] 3 #[.int .i64 (n : Int), .int .i64 (k : Int)]).run Tryz.prog W = .ok (.int .i64 (r : Int)) W := by
  subst h
  rcases Nat.lt_or_ge k n with h | h
  · have e : min n k = k := by omega
    rw [e]
    have h1 : (k : Int) < (n : Int) := by omega
    simp [Builtin.min_, Builtin.min2, go_sem]
    omega
  · have e : min n k = n := by omega
    rw [e]
    have h1 : ¬ (k : Int) < (n : Int) := by omega
    simp [Builtin.min_, Builtin.min2, go_sem]
    omega

end Go.Proofs.YtehnhjnkbclnlaaGreatDoor
