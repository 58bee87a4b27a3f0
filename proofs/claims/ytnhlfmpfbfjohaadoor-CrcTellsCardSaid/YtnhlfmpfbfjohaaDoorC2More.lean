/-
  Layer 2: what crc.More and crc.Of answer, of any sum and any bytes. Assumed: that the bytes lie in memory, and that the program's table holds what its text lays there.
-/
import Derived.Test.YtnhlfmpfbfjohaaDoorMem
import Derived.Test.YtnhlfmpfbfjohaaDoorCrc
namespace Go.Proofs.YtnhlfmpfbfjohaaDoor
open Go.RowKit

/-- the table holds what the program's text lays there -/
def Tab (w : World) : Prop := 0 < w.heap.size ∧ ∀ i, i < 16 → w.cell? ⟨0, i, none⟩ = some (.int .u32 (Crc.tab i : Int))
theorem Tab.below {w w' : World} (h : Tab w) {b : Nat} (hb : Below b w w') (hs : w.heap.size ≤ b) : Tab w' :=
  ⟨by have := hb.size; have := h.1; omega, fun i hi => (hb.cell (Nat.lt_of_lt_of_le h.1 hs)).trans (h.2 i hi)⟩
theorem Tab.drew1 {w : World} (h : Tab w) : Tab w.drew := h

theorem wrap_u32 (n : Nat) (h : n < 4294967296) : IntKind.u32.wrap (n : Int) = n := by
  rw [IntKind.wrap_u32]; omega
theorem bv_nat (n : Nat) : BitVec.ofInt 32 (n : Int) = BitVec.ofNat 32 n := BitVec.ofInt_natCast 32 n
theorem ofNat_xor (a b : Nat) : BitVec.ofNat 32 (a ^^^ b) = BitVec.ofNat 32 a ^^^ BitVec.ofNat 32 b := by
  apply BitVec.eq_of_getLsbD_eq
  intro i hi
  simp [hi]
theorem xor_u32 (a b : Nat) (ha : a < 4294967296) (hb : b < 4294967296) : bits .xor .u32 (a : Int) (b : Int) = ((a ^^^ b : Nat) : Int) := by
  have hx : a ^^^ b < 2 ^ 32 := Nat.xor_lt_two_pow (by omega) (by omega)
  show IntKind.u32.wrap ((BitVec.ofInt 32 (a : Int) ^^^ BitVec.ofInt 32 (b : Int)).toNat : Int) = _
  rw [bv_nat, bv_nat, ← ofNat_xor, BitVec.toNat_ofNat, Nat.mod_eq_of_lt hx, wrap_u32 _ (by omega)]
/-- a sum, turned -/
theorem not_u32 (a : Nat) (ha : a < 4294967296) : ∃ n : Nat, bits .xor .u32 IntKind.u32.max (a : Int) = (n : Int) ∧ n < 4294967296 ∧ BitVec.ofNat 32 n = ~~~ BitVec.ofNat 32 a := by
  refine ⟨4294967295 ^^^ a, xor_u32 4294967295 a (by omega) ha, ?_, ?_⟩
  · exact Nat.xor_lt_two_pow (n := 32) (by omega) (by omega)
  · rw [ofNat_xor]
    apply BitVec.eq_of_getLsbD_eq
    intro i hi
    have e : (BitVec.ofNat 32 4294967295) = ~~~ 0#32 := by decide
    rw [e, BitVec.getLsbD_xor, BitVec.getLsbD_not, BitVec.getLsbD_not]
    simp [hi]
theorem byte_u32 (n : Nat) (hn : n < 4294967296) (c : UInt8) : ∃ y : Nat, bits .xor .u32 (n : Int) (c.toNat : Int) = (y : Int) ∧ y < 4294967296 ∧ BitVec.ofNat 32 y = BitVec.ofNat 32 n ^^^ Crc.wide c :=
  ⟨n ^^^ c.toNat, xor_u32 _ _ hn (by have := c.toNat_lt; omega), Nat.xor_lt_two_pow (n := 32) (by omega) (by have := c.toNat_lt; omega), ofNat_xor _ _⟩
theorem quad_u32 (y : Nat) (hy : y < 4294967296) : ∃ m z : Nat, bits .and .u32 (y : Int) 15 = (m : Int) ∧ m < 16 ∧ bits .xor .u32 ((y : Int) / 16) (Crc.tab m : Int) = (z : Int) ∧ z < 4294967296 ∧ BitVec.ofNat 32 z = Crc.quad (BitVec.ofNat 32 y) := by
  have ht := Crc.tab_lt (y % 16)
  have hq : y / 16 < 4294967296 := by omega
  have he : (y : Int) / 16 = ((y / 16 : Nat) : Int) := by omega
  rw [he]
  refine ⟨y % 16, (y / 16) ^^^ Crc.tab (y % 16), ?_, by omega, xor_u32 _ _ hq ht, Nat.xor_lt_two_pow (n := 32) (by omega) (by omega), ?_⟩
  · show IntKind.u32.wrap ((BitVec.ofInt 32 (y : Int) &&& BitVec.ofInt 32 ((15 : Nat) : Int)).toNat : Int) = _
    rw [bv_nat, BitVec.toNat_and]
    have := Nat.and_two_pow_sub_one_eq_mod y 4
    have e : (BitVec.ofInt 32 ((15 : Nat) : Int)).toNat = 2 ^ 4 - 1 := by decide
    rw [e, BitVec.toNat_ofNat, Nat.mod_eq_of_lt hy, this, wrap_u32 _ (by omega)]
  · rw [ofNat_xor]
    unfold Crc.quad
    rw [BitVec.toNat_ofNat, Nat.mod_eq_of_lt hy]
    congr 1
    apply BitVec.eq_of_toNat_eq
    rw [BitVec.toNat_ushiftRight, BitVec.toNat_ofNat, BitVec.toNat_ofNat, Nat.mod_eq_of_lt hy, Nat.shiftRight_eq_div_pow]
    omega

def MoreRel (R : BitVec 32) (bs : List UInt8) (vi vr : Value) : Prop := ∃ k n : Nat, vi = .int .i64 k ∧ vr = .int .u32 (n : Int) ∧ k ≤ bs.length ∧ n < 4294967296 ∧ R = Crc.run (BitVec.ofNat 32 n) (bs.drop k)

theorem more_walk (s : Nat) (hs : s < 4294967296) (A : Option Addr) (cap : Nat) (bs : List UInt8) (w : World) (hm : bs.length ≤ maxLen) (hA : Lies w A (cells bs)) (hT : Tab w) :
    Calls Tryd.prog 14 #[.int .u32 (s : Int), .slice A bs.length cap] w fun e w' => e = .returned (.int .u32 ((Crc.more (BitVec.ofNat 32 s) bs).toNat : Int)) ∧ w = w' := by
  unfold maxLen at hm
  obtain ⟨n0, hn, h0, e0⟩ := not_u32 s hs
  have E0 := Lib.hid e0
  clear e0
  go_enter Tryd.func14, Tryd.ntmps14
  go_wp2
  go_loop [12, 5] (fun vi vr => MoreRel (Crc.run (~~~ BitVec.ofNat 32 s) bs) bs vi vr) (fun vi _ => bs.length - (intOf vi).toNat)
  case atStart => exact ⟨0, n0, rfl, rfl, by omega, h0, by rw [E0.out]; rfl⟩
  case round =>
    obtain ⟨k, r, rfl, rfl, hk, hr, he⟩ := hrel
    have HE := Lib.hid he
    clear he
    by_cases hlt : k < bs.length
    · obtain ⟨ad, rfl, hb, hcell⟩ := hA.at_ (k := k) (by rw [cells_length]; exact hlt)
      rw [cells_at bs k hlt] at hcell
      have hc := bs[k].toNat_lt
      obtain ⟨y1, x1, hy1, e1⟩ := byte_u32 r hr bs[k]
      obtain ⟨m2, y2, a2, hm2, x2, hy2, e2⟩ := quad_u32 y1 hy1
      obtain ⟨m3, y3, a3, hm3, x3, hy3, e3⟩ := quad_u32 y2 hy2
      have HF := Lib.hid (show Crc.run (~~~ BitVec.ofNat 32 s) bs = Crc.run (BitVec.ofNat 32 y3) (bs.drop (k + 1)) by
        rw [HE.out, List.drop_eq_getElem_cons hlt, e3, e2, e1, Crc.byteIn_quad]; rfl)
      have t2 := hT.2 m2 hm2
      have t3 := hT.2 m3 hm3
      have l2 := Crc.tab_lt m2
      have l3 := Crc.tab_lt m3
      generalize Crc.tab m2 = T2 at *
      generalize Crc.tab m3 = T3 at *
      generalize bs[k].toNat = c at *
      clear e1 e2 e3 HE
      go_wp2
      refine wp_loop_rounds 3 ?_
      rw [rounds_succ]
      go_wp2
      rw [rounds_succ]
      go_wp2
      rw [rounds_succ]
      go_wp2
      go_round
      case rel => exact ⟨k + 1, y3, by go_num, rfl, by omega, hy3, HF.out⟩
      case measure => simp [intOf]; omega
    · obtain rfl : k = bs.length := by omega
      obtain ⟨n1, x1, h1, e1⟩ := not_u32 r hr
      have HF := Lib.hid (show (n1 : Int) = ((Crc.more (BitVec.ofNat 32 s) bs).toNat : Int) by
        unfold Crc.more
        rw [HE.out, List.drop_length]
        show _ = ((~~~ BitVec.ofNat 32 r).toNat : Int)
        rw [← e1, BitVec.toNat_ofNat, Nat.mod_eq_of_lt h1])
      clear e1 HE
      go_wp2
      go_ret
      exact ⟨ret_int HF.out, rfl⟩

theorem of_walk (A : Option Addr) (cap : Nat) (bs : List UInt8) (w : World) (hm : bs.length ≤ maxLen) (hA : Lies w A (cells bs)) (hT : Tab w) :
    Calls Tryd.prog 12 #[.slice A bs.length cap] w fun e w' => e = .returned (.int .u32 ((Crc.of bs).toNat : Int)) ∧ w = w' := by
  have H := Lib.hid (more_walk 0 (by omega) A cap bs w hm hA hT)
  rw [show Crc.more (BitVec.ofNat 32 0) bs = Crc.of bs from rfl] at H
  generalize (Crc.of bs).toNat = n at *
  go_enter Tryd.func12, Tryd.ntmps12
  go_wp2_with fail
  refine H.out.mono ?_
  rintro e w' ⟨rfl, rfl⟩
  go_wp2
  go_ret
  exact ⟨rfl, rfl⟩
end Go.Proofs.YtnhlfmpfbfjohaaDoor
