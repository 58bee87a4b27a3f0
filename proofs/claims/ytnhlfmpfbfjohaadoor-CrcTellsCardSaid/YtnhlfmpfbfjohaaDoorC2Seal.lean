/-
  Layer 2: what crc.Seal answers, of any bytes: new memory, with the bytes and their sum behind them; nothing that was there has turned. Assumed: at most 2^40 bytes, that they lie in memory, and that the program's table holds what its text lays there.
-/
import Derived.Test.YtnhlfmpfbfjohaaDoorC2More
namespace Go.Proofs.YtnhlfmpfbfjohaaDoor
open Go.RowKit

/-- the last four, k of them written -/
def tail4 (s : BitVec 32) (k : Nat) : List UInt8 := (Crc.sumBytes s).take k ++ List.replicate (4 - k) 0
theorem tail4_length (s : BitVec 32) (k : Nat) (h : k ≤ 4) : (tail4 s k).length = 4 := by
  simp [tail4, Crc.sumBytes_length]; omega
theorem tail4_set (s : BitVec 32) (k : Nat) (h : k < 4) : (tail4 s k).set k (UInt8.ofNat (s.toNat / 2 ^ (8 * k))) = tail4 s (k + 1) := by
  have e : ∀ j, (s >>> j).toNat = s.toNat / 2 ^ j := fun j => by rw [BitVec.toNat_ushiftRight, Nat.shiftRight_eq_div_pow]
  obtain rfl | rfl | rfl | rfl : k = 0 ∨ k = 1 ∨ k = 2 ∨ k = 3 := by omega
  all_goals simp [tail4, Crc.sumBytes, e, List.replicate]
theorem byte_at (n j : Nat) : (n : Int) / 2 ^ j % 256 = ((UInt8.ofNat (n / 2 ^ j)).toNat : Int) := by
  rw [UInt8.toNat_ofNat', Int.natCast_emod, Int.natCast_ediv, Int.natCast_pow]
  rfl
theorem cells_set (a b : List UInt8) (k : Nat) (c : UInt8) (v : Int) (h : v = (c.toNat : Int)) : (cells (a ++ b)).set (a.length + k) (.int .u8 v) = cells (a ++ b.set k c) := by
  subst h
  unfold cells
  have e : (a ++ b).set (a.length + k) c = a ++ b.set k c := by rw [List.set_append_right _ _ (by omega), Nat.add_sub_cancel_left]
  rw [← e, List.map_set]

theorem seal_walk (A : Option Addr) (cap : Nat) (bs : List UInt8) (w : World) (hm : bs.length ≤ 1099511627776) (hA : Lies w A (cells bs)) (hT : Tab w) :
    Calls Tryd.prog 16 #[.slice A bs.length cap] w (Made w (Crc.sealed bs)) := by
  obtain ⟨i0, hi, hz0, hz1, hz2⟩ := info_parts infoU8
  have hmk : ∀ u : World, (Instr.makeSlice 23 (.int .i64 ((bs.length : Int) + 4)) (.int .i64 ((bs.length : Int) + 4))).run Tryd.prog u =
      .ok (.slice (some ⟨u.heap.size, 0, none⟩) (bs.length + 4) (bs.length + 4)) (u.alloc (.cells (madeCells #[.int .u8 0] (bs.length + 4)) 5)) := fun u => by
    have h := run_make (P := Tryd.prog) u 23 5 i0 (.int .u8 0) Tryd.underlying23 hi hz0 .i64 .i64 ((bs.length : Int) + 4) ((bs.length : Int) + 4) (by omega) (by omega) (by rw [hz2]; omega) (by omega)
    have e : ((bs.length : Int) + 4).toNat = bs.length + 4 := by omega
    rw [e] at h
    simpa [hz1, Value.cells] using h
  have hms := Lib.hid (size_madeCells #[.int .u8 0] (bs.length + 4))
  have hml := Lib.hid (toList_madeCells_one (.int .u8 0) (bs.length + 4))
  generalize madeCells #[.int .u8 0] (bs.length + 4) = Z at *
  have hcl := Lib.hid (cells_length bs)
  have hA2 : Lies (w.alloc (.cells Z 5)) A (cells bs) := hA.keep (by simp) fun p hp => World.cell?_alloc_lt w _ p hp
  have h1 := cells_one bs
  have HOF := Lib.hid (fun (u : World) (hb : Below w.heap.size w u) => of_walk A cap bs u (by unfold maxLen; omega) (hA.below hb) (hT.below hb (Nat.le_refl _)))
  generalize hcs : cells bs = cs at *
  have HCS := Lib.hid hcs
  have H1 := Lib.hid h1
  clear hcs h1
  have HS := Lib.hid (show Crc.sealed bs = bs ++ Crc.sumBytes (Crc.of bs) from rfl)
  have hS := (Crc.of bs).isLt
  generalize hq : Crc.of bs = S at *
  clear hq
  go_enter Tryd.func16, Tryd.ntmps16
  go_wp2_with (with_reducible refine wpList_copy_splice rfl _ _ 23 23 rfl 5 Tryd.underlying23 sizeU8 _ _ _ _ _ _ rfl rfl w.heap.size 0 Z.toList 5 ?c1 cs ?c2 ?c3 ?c4 H1.out w.heap.size w ?c5 (Nat.le_refl _) ?c6)
  case c1 => have := heap_alloc_new w (.cells Z 5); simpa using this
  case c2 => exact hcl.out.trans (Nat.min_eq_left (by omega)).symm
  case c3 =>
    intro hpos
    rcases hA2 with h | ⟨ad, e, _, hc⟩
    · rw [h] at hpos; simp at hpos
    · exact ⟨ad, e, hc⟩
  case c4 => have := hms.out; have := hcl.out; simp; omega
  case c5 => exact (Below.refl _ _).alloc (Nat.le_refl _) _
  case c6 =>
    intro w1 hg hb
    have HO := Lib.hid (show w1.ownsRow w.heap.size 5 1 (.slice (some ⟨w.heap.size, 0, none⟩) (bs.length + 4) (bs.length + 4)) (bs.length + 4) (cells (bs ++ tail4 S 0)) by
      have hsp : splice Z.toList 0 cs = cells (bs ++ tail4 S 0) := by
        have e4 : cells (tail4 S 0) = List.replicate 4 (.int .u8 0) := rfl
        have hcl' := hcl.out
        rw [hml.out, cells_append, HCS.out, e4]
        simp only [splice, List.take_zero, List.nil_append, Nat.zero_add, List.drop_replicate, hcl']
        rw [show bs.length + 4 - bs.length = 4 by omega]
      have hl : (cells (bs ++ tail4 S 0)).length = bs.length + 4 := by rw [cells_length, List.length_append, tail4_length _ _ (by omega)]
      refine ⟨by rw [hl]; omega, .inr ⟨w.heap.size, bs.length + 4, _, rfl, Nat.le_refl _, hg.out, by omega, by unfold maxLen; omega, ?_, ?_⟩⟩
      · rw [hsp]; simp [hl]
      · rw [hsp]; exact List.take_of_length_le (by rw [hl]; omega))
    clear hg hA2
    go_wp2_with fail
    refine (HOF.out _ hb).mono ?_
    rintro e w' ⟨rfl, rfl⟩
    generalize hqs : S.toNat = sn at *
    have HQS := Lib.hid hqs
    clear hqs
    go_wp2
    go_loopw [15] (fun vi wr => ∃ k : Nat, vi = .int .i64 k ∧ k ≤ 4 ∧ wr.ownsRow w.heap.size 5 1 (.slice (some ⟨w.heap.size, 0, none⟩) (bs.length + 4) (bs.length + 4)) (bs.length + 4) (cells (bs ++ tail4 S k)) ∧ Below w.heap.size w wr) (fun vi _ => 4 - (intOf vi).toNat)
    case atStart => exact ⟨0, rfl, by omega, HO.out, hb⟩
    case round =>
      obtain ⟨k, rfl, hk, hown, hbr⟩ := hrel
      by_cases h4 : k < 4
      · have hfz := hown.frozenAt (bs.length + k)
        have hcc := hown.cellAt (bs.length + k) (by omega)
        have HOW := Lib.hid hown
        clear hown
        obtain ⟨v0, hv0⟩ : ∃ v, wr.cell? ⟨w.heap.size, bs.length + k, none⟩ = some v := ⟨_, hcc.trans (List.getElem?_eq_getElem (by rw [cells_length, List.length_append, tail4_length _ _ hk]; omega))⟩
        clear hcc
        go_wp2
        go_roundw
        case rel =>
          have hb1 := hbr.setCell (p := ⟨w.heap.size, bs.length + k, none⟩) (Nat.le_refl _) (.int .u8 ((sn : Int) / 2 ^ (8 * k) % 256))
          have h2 := (HOW.out.stored (bs.length + k) (.int .u8 ((sn : Int) / 2 ^ (8 * k) % 256))).1
          have e : (sn : Int) / 2 ^ (8 * k) % 256 = ((UInt8.ofNat (S.toNat / 2 ^ (8 * k))).toNat : Int) := by
            rw [HQS.out]; exact byte_at sn (8 * k)
          rw [cells_set bs _ k _ _ e, tail4_set S k h4] at h2
          exact ⟨k + 1, by go_num, by omega, h2, hb1⟩
        case measure => simp [intOf]; omega
      · obtain rfl : k = 4 := by omega
        have HOW := Lib.hid hown
        clear hown
        go_wp2
        go_ret
        refine ⟨_, rfl, ?_, hbr⟩
        have e : tail4 S 4 = Crc.sumBytes S := by simp [tail4, Crc.sumBytes]
        have hl : (Crc.sealed bs).length = bs.length + 4 := Crc.sealed_length bs
        rw [hl, HS.out, ← e]
        exact HOW.out
end Go.Proofs.YtnhlfmpfbfjohaaDoor
