/-
  R2: Layer 2, the document's answer (turntableref02): what its More, Of, Seal and Open answer, of any bytes. Assumed: at most 2^40 bytes, and that they lie in memory.
  R2S: Layer 2, the document's answer (turntableref02): what its Seal and Open answer, of any bytes. Assumed: at most 2^40 bytes, and that they lie in memory.
  Head2: Layer 2: the laws' live question (turntablelaw02.head) answers true, and turns nothing that was there. Assumed: that the program's table holds what its text lays there.
-/
import Derived.Test.YtgicjdlpkphfnaaCrcC
import Derived.Test.YtgicjdlpkphfnaaBase
import Derived.Deep.QuietTactic
import Derived.BigQuiet
import Derived.Lib.SmallJoins

namespace Go.Proofs.Ytgicjdlpkphfnaa
open Go.RowKit
set_option maxRecDepth 100000

theorem shr_one (r : Nat) (hr : r < 4294967296) : BitVec.ofNat 32 (r / 2) = BitVec.ofNat 32 r >>> 1 := by
  apply BitVec.eq_of_toNat_eq
  rw [BitVec.toNat_ushiftRight, BitVec.toNat_ofNat, BitVec.toNat_ofNat, Nat.mod_eq_of_lt hr, Nat.shiftRight_eq_div_pow, Nat.mod_eq_of_lt (by omega)]
theorem lsb_nat (r : Nat) : (BitVec.ofNat 32 r).getLsbD 0 = decide (r % 2 = 1) := by
  rw [BitVec.getLsbD_ofNat]; simp [Nat.testBit_zero]
theorem bitIn_nat (r : Nat) (b : Bool) : Crc.bitIn (BitVec.ofNat 32 r) b = (BitVec.ofNat 32 r >>> 1) ^^^ (if (decide (r % 2 = 1) ^^ b) then Crc.poly else 0#32) := by
  unfold Crc.bitIn Crc.step
  have h1 : (if b then 1#32 else 0#32) >>> 1 = 0#32 := by cases b <;> decide
  have h2 : (if b then 1#32 else 0#32).getLsbD 0 = b := by cases b <;> decide
  rw [BitVec.ushiftRight_xor_distrib, h1, BitVec.xor_zero, BitVec.getLsbD_xor, h2, lsb_nat]
/-- one bit goes in, as the document's answer has it -/
theorem bit_u32 (r β : Nat) (hr : r < 4294967296) (b : Bool) (hb : β = if b then 1 else 0) : ∃ (o : Bool) (y : Nat), (((r : Int) % 2) != (β : Int)) = o ∧ bits .xor .u32 ((r : Int) / 2) 2197175160 = (y : Int) ∧ y < 4294967296 ∧
    (o = false → BitVec.ofNat 32 (r / 2) = Crc.bitIn (BitVec.ofNat 32 r) b) ∧ (o = true → BitVec.ofNat 32 y = Crc.bitIn (BitVec.ofNat 32 r) b) := by
  have hq : (r : Int) / 2 = ((r / 2 : Nat) : Int) := by omega
  have ho : (((r : Int) % 2) != (β : Int)) = (decide (r % 2 = 1) ^^ b) := by
    rw [hb]
    have h2 : r % 2 = 0 ∨ r % 2 = 1 := by omega
    rcases h2 with h | h
    · have h3 : (r : Int) % 2 = 0 := by omega
      rw [h3, h]; cases b <;> decide
    · have h3 : (r : Int) % 2 = 1 := by omega
      rw [h3, h]; cases b <;> decide
  refine ⟨_, (r / 2) ^^^ 2197175160, ho, ?_, Nat.xor_lt_two_pow (n := 32) (by omega) (by omega), fun h => ?_, fun h => ?_⟩
  · rw [hq]; exact xor_u32 _ 2197175160 (by omega) (by omega)
  · rw [bitIn_nat, h, shr_one r hr]; simp
  · rw [bitIn_nat, h, ofNat_xor, shr_one r hr]; rfl
theorem bitval (c e : Nat) : ((c : Int) / 2 ^ e).tmod 2 = ((if c.testBit e then 1 else 0 : Nat) : Int) := by
  have h : (c : Int) / 2 ^ e = ((c / 2 ^ e : Nat) : Int) := by rw [Int.natCast_ediv, Int.natCast_pow]; rfl
  rw [h, Nat.testBit_eq_decide_div_mod_eq]
  generalize c / 2 ^ e = y
  rw [Int.tmod_eq_emod_of_nonneg (by omega)]
  by_cases h1 : y % 2 = 1
  · simp [h1]; omega
  · simp [h1]; omega

end Go.Proofs.Ytgicjdlpkphfnaa

namespace Go.Proofs.Ytgicjdlpkphfnaa
open Go.RowKit
set_option maxRecDepth 100000

theorem cells_sum (S : BitVec 32) : cells (Crc.sumBytes S) = [.int .u8 ((S.toNat : Int) % 256), .int .u8 ((S.toNat : Int) / 256 % 256), .int .u8 ((S.toNat : Int) / 65536 % 256), .int .u8 ((S.toNat : Int) / 16777216)] := by
  have h0 := byte_at S.toNat 0
  have h1 := byte_at S.toNat 8
  have h2 := byte_at S.toNat 16
  have h3 := byte_at S.toNat 24
  have e : ∀ j, (S >>> j).toNat = S.toNat / 2 ^ j := fun j => by rw [BitVec.toNat_ushiftRight, Nat.shiftRight_eq_div_pow]
  simp only [Int.reducePow, Nat.reducePow, Int.ediv_one, Nat.div_one] at h0 h1 h2 h3
  have h4 : (S.toNat : Int) / 16777216 % 256 = (S.toNat : Int) / 16777216 := by have := S.isLt; omega
  rw [h4] at h3
  simp only [cells, Crc.sumBytes, List.map_cons, List.map_nil, e, Nat.reducePow, ← h0, ← h1, ← h2, ← h3]

/-- what the document's Open hands back -/
def ROpened (w : World) (bs : List UInt8) (e : Ending) (w' : World) : Prop :=
  Below w.heap.size w w' ∧
  ((Crc.opens bs ∧ ∃ v, e = .returned (.tuple #[v, .bool true]) ∧ w'.ownsRow w.heap.size 5 1 v (bs.length - 4) (cells (bs.take (bs.length - 4)))) ∨
   (¬ Crc.opens bs ∧ e = .returned (.tuple #[.slice none 0 0, .bool false])))

end Go.Proofs.Ytgicjdlpkphfnaa

namespace Go.Proofs.Ytgicjdlpkphfnaa
open Go.RowKit

/-- a sum as a number -/
theorem ofNat_of (x : BitVec 32) : BitVec.ofNat 32 x.toNat = x := by rw [BitVec.ofNat_toNat, BitVec.setWidth_eq]
theorem lies_lit (w : World) (cs : Array Value) (fr : Nat × Nat) (bs : List UInt8) (h : cells bs = cs.toList) : Lies (w.alloc (.cells cs 5 fr)) (some ⟨w.heap.size, 0, none⟩) (cells bs) := by
  rw [h]; exact .inr ⟨_, rfl, by simp, World.news_of_block (heap_alloc_new w _)⟩
def digits : List UInt8 := [49, 50, 51, 52, 53, 54, 55, 56, 57]

end Go.Proofs.Ytgicjdlpkphfnaa
