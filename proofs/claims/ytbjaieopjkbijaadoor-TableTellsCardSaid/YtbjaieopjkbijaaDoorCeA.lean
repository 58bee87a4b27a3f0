/-
  Layer 8: what cell's small functions answer: Right, Room, the parts of a sector, and a number's four bytes. Nothing is assumed.
-/
import Derived.Test.YtbjaieopjkbijaaDoorMath8
import Derived.Test.YtbjaieopjkbijaaDoorSec

namespace Go.Proofs.YtbjaieopjkbijaaDoor
open Go.RowKit
set_option maxRecDepth 100000

theorem right_walk (q p : Int) (w : World) : Calls Tryd.prog 50 #[.int .i64 q, .int .i64 p] w fun e w' => e = .returned (.bool (Ce.right q p)) ∧ w = w' := by
  by_cases h1 : 1 ≤ q
  · by_cases h2 : q ≤ 2147483648
    · by_cases h3 : 0 ≤ p
      · by_cases h4 : p ≤ 255
        · have e : Ce.right q p = true := by simp [Ce.right, *]
          rw [e]
          go_enter Tryd.func50, Tryd.ntmps50
          go_wp2
          go_ret
          exact ⟨rfl, rfl⟩
        · have e : Ce.right q p = false := by simp [Ce.right, *]
          rw [e]
          go_enter Tryd.func50, Tryd.ntmps50
          go_wp2
          go_ret
          exact ⟨rfl, rfl⟩
      · have e : Ce.right q p = false := by simp [Ce.right, *]
        rw [e]
        go_enter Tryd.func50, Tryd.ntmps50
        go_wp2
        go_ret
        exact ⟨rfl, rfl⟩
    · have e : Ce.right q p = false := by simp [Ce.right, *]
      rw [e]
      go_enter Tryd.func50, Tryd.ntmps50
      go_wp2
      go_ret
      exact ⟨rfl, rfl⟩
  · have e : Ce.right q p = false := by simp [Ce.right, *]
    rw [e]
    go_enter Tryd.func50, Tryd.ntmps50
    go_wp2
    go_ret
    exact ⟨rfl, rfl⟩

theorem sum_walk (g : Nat) (w : World) : Calls Tryd.prog 60 #[.pointer (some ⟨g, 0, none⟩)] w fun e w' => e = .returned (.slice (some ⟨g, 60, none⟩) 4 4) ∧ w = w' := by
  go_enter Tryd.func60, Tryd.ntmps60
  go_wp2
  go_ret
  exact ⟨rfl, rfl⟩
theorem summed_walk (g : Nat) (w : World) : Calls Tryd.prog 75 #[.pointer (some ⟨g, 0, none⟩)] w fun e w' => e = .returned (.slice (some ⟨g, 0, none⟩) 60 60) ∧ w = w' := by
  go_enter Tryd.func75, Tryd.ntmps75
  go_wp2
  go_ret
  exact ⟨rfl, rfl⟩

/-- where a sector's bytes begin -/
def partAt (g n : Nat) : Addr := ⟨g, if n = 0 then 0 else 1, none⟩
theorem slice_part (g n : Nat) (w : World) (hn : n ≤ 59) : (Instr.sliceAt 71 (.pointer (some ⟨g, 0, none⟩)) (some (.int .i64 1)) (some (.int .i64 (1 + (n : Int)))) (some (.int .i64 (1 + (n : Int))))).run Tryd.prog w = .ok (.slice (some (partAt g n)) n n) w := by
  have e : (1 + (n : Int)).toNat = 1 + n := by omega
  have h0 : (0 : Int) ≤ 1 + (n : Int) := by omega
  have h1 : (1 : Int) ≤ 1 + (n : Int) := by omega
  have h2 : 1 + (n : Int) ≤ 64 := by omega
  have hs : (Tryd.prog.info? 5).map (·.size) = some 1 := sizeU8
  obtain ⟨i, hi, hsz⟩ := Option.map_eq_some_iff.1 hs
  have ha : (1 + n : Nat) - 1 = n := by omega
  unfold partAt
  by_cases hz : n = 0
  · subst hz
    simp [Instr.sliceAt, run_underlying Tryd.underlying71, Instr.sureAddr, Instr.sliceBounds, Instr.sliceBound, asIntOf, sizeOf, typeInfo, hi]
  · simp [Instr.sliceAt, run_underlying Tryd.underlying71, Instr.sureAddr, Instr.sliceBounds, Instr.sliceBound, asIntOf, sizeOf, typeInfo, hi, hsz, h0, h1, h2, e, hz, Addr.add]
theorem bytes_walk (g n : Nat) (w : World) (hc : w.cell? ⟨g, 0, none⟩ = some (.int .u8 (n : Int))) (hn : n ≤ 59) :
    Calls Tryd.prog 58 #[.pointer (some ⟨g, 0, none⟩)] w fun e w' => e = .returned (.slice (some (partAt g n)) n n) ∧ w = w' := by
  have HS := Lib.hid (slice_part g n w hn)
  generalize partAt g n = pa at *
  have hs := HS.out
  go_enter Tryd.func58, Tryd.ntmps58
  go_wp2
  go_ret
  exact ⟨rfl, rfl⟩

/-! a number's four bytes -/
theorem cells_sum4 (n : Nat) (hn : n < 4294967296) : cells (Crc.sumBytes (BitVec.ofNat 32 n)) = [.int .u8 ((n : Int) % 256), .int .u8 ((n : Int) / 256 % 256), .int .u8 ((n : Int) / 65536 % 256), .int .u8 ((n : Int) / 16777216)] := by
  have e0 : (BitVec.ofNat 32 n).toNat = n := by rw [BitVec.toNat_ofNat, Nat.mod_eq_of_lt hn]
  simp only [cells, Crc.sumBytes, List.map_cons, List.map_nil, BitVec.toNat_ushiftRight, Nat.shiftRight_eq_div_pow, e0, UInt8.toNat_ofNat']
  simp only [List.cons.injEq, Value.int.injEq, true_and, and_true]
  omega

theorem Blk.here {w : World} {g : Nat} {cs : Array Value} {t : TypeId} (h : Blk w g cs t) (i : Nat) (hi : i < cs.size) : ∃ v, w.cell? ⟨g, i, none⟩ = some v := ⟨_, (h.cell i).trans (Array.getElem?_eq_getElem hi)⟩
set_option maxHeartbeats 2000000 in
theorem putLow_walk (g o n : Nat) (hn : n < 4294967296) (cs : Array Value) (t : TypeId) (w : World) (hb : Blk w g cs t) (ho : o + 4 ≤ cs.size) :
    Calls Tryd.prog 59 #[.slice (some ⟨g, o, none⟩) 4 4, .int .u32 (n : Int)] w fun e w' => e = .returned (.tuple #[]) ∧ w' = w.setCells g o (cells (Crc.sumBytes (BitVec.ofNat 32 n))) := by
  rw [cells_sum4 n hn]
  obtain ⟨x0, c0⟩ := hb.here o (by omega)
  have f0 := hb.frozen o
  have hb1 := hb.set o (.int .u8 ((n : Int) % 256))
  obtain ⟨x1, c1⟩ := hb1.here (o + 1) (by simp; omega)
  have f1 := hb1.frozen (o + 1)
  have hb2 := hb1.set (o + 1) (.int .u8 ((n : Int) / 256 % 256))
  obtain ⟨x2, c2⟩ := hb2.here (o + 2) (by simp; omega)
  have f2 := hb2.frozen (o + 2)
  have hb3 := hb2.set (o + 2) (.int .u8 ((n : Int) / 65536 % 256))
  obtain ⟨x3, c3⟩ := hb3.here (o + 3) (by simp; omega)
  have f3 := hb3.frozen (o + 3)
  clear hb1 hb2 hb3 hb
  go_enter Tryd.func59, Tryd.ntmps59
  go_wp2
  refine wp_loop_rounds 5 ?_
  rw [rounds_succ]
  go_wp2
  rw [rounds_succ]
  go_wp2
  rw [rounds_succ]
  go_wp2
  rw [rounds_succ]
  go_wp2
  rw [rounds_succ]
  go_wp2
  go_returns
  exact ⟨rfl, rfl⟩
end Go.Proofs.YtbjaieopjkbijaaDoor
