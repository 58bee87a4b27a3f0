/-
  C2More: Layer 2: what crc.More and crc.Of answer, of any sum and any bytes. Assumed: that the bytes lie in memory, and that the program's table holds what its text lays there.
  C2Seal: Layer 2: what crc.Seal answers, of any bytes: new memory, with the bytes and their sum behind them; nothing that was there has turned. Assumed: at most 2^40 bytes, that they lie in memory, and that the program's table holds what its text lays there.
  C2Open: Layer 2: what bytes.Equal and crc.Open answer, of any bytes; nothing that was there has turned. Assumed: at most 2^40 bytes, that they lie in memory, and that the program's table holds what its text lays there.
  Turn: Bytes of which bits have turned within 32 that stand together: that no such bytes are opened; and how a law that turns them goes. Nothing is assumed.
-/
import Derived.Test.YtgicjdlpkphfnaaBase
import Derived.Test.YtgicjdlpkphfnaaTxC
import Derived.Test.YtgicjdlpkphfnaaMath

namespace Go.Proofs.Ytgicjdlpkphfnaa
open Go.RowKit
set_option maxRecDepth 100000

theorem wrap_u32 (n : Nat) (h : n < 4294967296) : IntKind.u32.wrap (n : Int) = n := by
  rw [IntKind.wrap_u32]; omega
theorem bv_nat (n : Nat) : BitVec.ofInt 32 (n : Int) = BitVec.ofNat 32 n := BitVec.ofInt_natCast 32 n
theorem ofNat_xor (a b : Nat) : BitVec.ofNat 32 (a ^^^ b) = BitVec.ofNat 32 a ^^^ BitVec.ofNat 32 b := by
  apply BitVec.eq_of_getLsbD_eq
  intro i hi
  simp [hi]
theorem xor_u32 (a b : Nat) (ha : a < 4294967296) (hb : b < 4294967296) : bits .xor .u32 (a : Int) (b : Int) = ((a ^^^ b : Nat) : Int) := by
  have hx : a ^^^ b < 2 ^ 32 := Nat.xor_lt_two_pow (by omega) (by omega)
  show IntKind.u32.wrap ((BitVec.ofInt 32 (a : Int) ^^^ BitVec.ofInt 32 (b : Int)).toNat : Int) = _
  rw [bv_nat, bv_nat, ← ofNat_xor, BitVec.toNat_ofNat, Nat.mod_eq_of_lt hx, wrap_u32 _ (by omega)]
/-- a sum, turned -/
theorem not_u32 (a : Nat) (ha : a < 4294967296) : ∃ n : Nat, bits .xor .u32 IntKind.u32.max (a : Int) = (n : Int) ∧ n < 4294967296 ∧ BitVec.ofNat 32 n = ~~~ BitVec.ofNat 32 a := by
  refine ⟨4294967295 ^^^ a, xor_u32 4294967295 a (by omega) ha, ?_, ?_⟩
  · exact Nat.xor_lt_two_pow (n := 32) (by omega) (by omega)
  · rw [ofNat_xor]
    apply BitVec.eq_of_getLsbD_eq
    intro i hi
    have e : (BitVec.ofNat 32 4294967295) = ~~~ 0#32 := by decide
    rw [e, BitVec.getLsbD_xor, BitVec.getLsbD_not, BitVec.getLsbD_not]
    simp [hi]
theorem byte_u32 (n : Nat) (hn : n < 4294967296) (c : UInt8) : ∃ y : Nat, bits .xor .u32 (n : Int) (c.toNat : Int) = (y : Int) ∧ y < 4294967296 ∧ BitVec.ofNat 32 y = BitVec.ofNat 32 n ^^^ Crc.wide c :=
  ⟨n ^^^ c.toNat, xor_u32 _ _ hn (by have := c.toNat_lt; omega), Nat.xor_lt_two_pow (n := 32) (by omega) (by have := c.toNat_lt; omega), ofNat_xor _ _⟩
theorem quad_u32 (y : Nat) (hy : y < 4294967296) : ∃ m z : Nat, bits .and .u32 (y : Int) 15 = (m : Int) ∧ m < 16 ∧ bits .xor .u32 ((y : Int) / 16) (Crc.tab m : Int) = (z : Int) ∧ z < 4294967296 ∧ BitVec.ofNat 32 z = Crc.quad (BitVec.ofNat 32 y) := by
  have ht := Crc.tab_lt (y % 16)
  have hq : y / 16 < 4294967296 := by omega
  have he : (y : Int) / 16 = ((y / 16 : Nat) : Int) := by omega
  rw [he]
  refine ⟨y % 16, (y / 16) ^^^ Crc.tab (y % 16), ?_, by omega, xor_u32 _ _ hq ht, Nat.xor_lt_two_pow (n := 32) (by omega) (by omega), ?_⟩
  · show IntKind.u32.wrap ((BitVec.ofInt 32 (y : Int) &&& BitVec.ofInt 32 ((15 : Nat) : Int)).toNat : Int) = _
    rw [bv_nat, BitVec.toNat_and]
    have := Nat.and_two_pow_sub_one_eq_mod y 4
    have e : (BitVec.ofInt 32 ((15 : Nat) : Int)).toNat = 2 ^ 4 - 1 := by decide
    rw [e, BitVec.toNat_ofNat, Nat.mod_eq_of_lt hy, this, wrap_u32 _ (by omega)]
  · rw [ofNat_xor]
    unfold Crc.quad
    rw [BitVec.toNat_ofNat, Nat.mod_eq_of_lt hy]
    congr 1
    apply BitVec.eq_of_toNat_eq
    rw [BitVec.toNat_ushiftRight, BitVec.toNat_ofNat, BitVec.toNat_ofNat, Nat.mod_eq_of_lt hy, Nat.shiftRight_eq_div_pow]
    omega

def MoreRel (R : BitVec 32) (bs : List UInt8) (vi vr : Value) : Prop := ∃ k n : Nat, vi = .int .i64 k ∧ vr = .int .u32 (n : Int) ∧ k ≤ bs.length ∧ n < 4294967296 ∧ R = Crc.run (BitVec.ofNat 32 n) (bs.drop k)

end Go.Proofs.Ytgicjdlpkphfnaa

namespace Go.Proofs.Ytgicjdlpkphfnaa
open Go.RowKit
set_option maxRecDepth 100000

/-- the last four, k of them written -/
def tail4 (s : BitVec 32) (k : Nat) : List UInt8 := (Crc.sumBytes s).take k ++ List.replicate (4 - k) 0
theorem tail4_length (s : BitVec 32) (k : Nat) (h : k ≤ 4) : (tail4 s k).length = 4 := by
  simp [tail4, Crc.sumBytes_length]; omega
theorem tail4_set (s : BitVec 32) (k : Nat) (h : k < 4) : (tail4 s k).set k (UInt8.ofNat (s.toNat / 2 ^ (8 * k))) = tail4 s (k + 1) := by
  have e : ∀ j, (s >>> j).toNat = s.toNat / 2 ^ j := fun j => by rw [BitVec.toNat_ushiftRight, Nat.shiftRight_eq_div_pow]
  obtain rfl | rfl | rfl | rfl : k = 0 ∨ k = 1 ∨ k = 2 ∨ k = 3 := by omega
  all_goals simp [tail4, Crc.sumBytes, e, List.replicate]
theorem byte_at (n j : Nat) : (n : Int) / 2 ^ j % 256 = ((UInt8.ofNat (n / 2 ^ j)).toNat : Int) := by
  rw [UInt8.toNat_ofNat', Int.natCast_emod, Int.natCast_ediv, Int.natCast_pow]
  rfl
theorem cells_set (a b : List UInt8) (k : Nat) (c : UInt8) (v : Int) (h : v = (c.toNat : Int)) : (cells (a ++ b)).set (a.length + k) (.int .u8 v) = cells (a ++ b.set k c) := by
  subst h
  unfold cells
  have e : (a ++ b).set (a.length + k) c = a ++ b.set k c := by rw [List.set_append_right _ _ (by omega), Nat.add_sub_cancel_left]
  rw [← e, List.map_set]

end Go.Proofs.Ytgicjdlpkphfnaa

namespace Go.Proofs.Ytgicjdlpkphfnaa
open Go.RowKit
set_option maxRecDepth 100000


/-- what Open hands back: memory of its own, in which the whole stands; nothing that was there has turned -/
def Opened (w : World) (bs : List UInt8) (e : Ending) (w' : World) : Prop :=
  Below w.heap.size w w' ∧
  ((Crc.opens bs ∧ ∃ g c, e = .returned (.tuple #[.slice (some ⟨g, 0, none⟩) (bs.length - 4) (bs.length - 4), .bool true]) ∧ w'.ownsRow w.heap.size 5 1 (.slice (some ⟨g, 0, none⟩) bs.length c) bs.length (cells bs)) ∨
   (¬ Crc.opens bs ∧ e = .returned (.tuple #[.slice none 0 0, .bool false])))

end Go.Proofs.Ytgicjdlpkphfnaa

namespace Go.Proofs.Ytgicjdlpkphfnaa
open Go.RowKit
set_option maxRecDepth 100000

/-- X is s with the first i of the bits x turned, from bit k on -/
def Turned (s X : List UInt8) (k x i : Nat) : Prop :=
  X.length = s.length ∧ (x = 0 → X = s) ∧ ∀ j (h : j / 8 < X.length) (h' : j / 8 < s.length), X[j / 8].toNat.testBit (j % 8) = (s[j / 8].toNat.testBit (j % 8) ^^ (decide (k ≤ j ∧ j < k + i) && x.testBit (j - k)))
theorem Turned.start (s : List UInt8) (k x : Nat) : Turned s s k x 0 := ⟨rfl, fun _ => rfl, fun j h h' => by
  have : decide (k ≤ j ∧ j < k + 0) = false := by simp
  rw [this]; simp⟩
theorem Turned.skip {s X : List UInt8} {k x i : Nat} (h : Turned s X k x i) (hb : x.testBit i = false) : Turned s X k x (i + 1) := by
  refine ⟨h.1, h.2.1, fun j h1 h2 => ?_⟩
  rw [h.2.2 j h1 h2]
  congr 1
  by_cases hj : j = k + i
  · subst hj
    rw [show k + i - k = i by omega, hb]; simp
  · congr 2
    simp only [eq_iff_iff]; omega
theorem Turned.turn {s X : List UInt8} {k x i q e : Nat} (h : Turned s X k x i) (hb : x.testBit i = true) (hq : (k + i) / 8 = q) (he : (k + i) % 8 = e) (hx : q < X.length) (c : UInt8) (hc : c.toNat = X[q].toNat ^^^ 2 ^ e) : Turned s (X.set q c) k x (i + 1) := by
  refine ⟨by rw [List.length_set]; exact h.1, fun h0 => by rw [h0] at hb; simp at hb, fun j h1 h2 => ?_⟩
  rw [List.length_set] at h1
  rw [List.getElem_set]
  by_cases hj : j = k + i
  · subst hj
    rw [if_pos hq.symm, hc, Nat.testBit_xor, he, Nat.testBit_two_pow_self]
    have h3 := h.2.2 (k + i) h1 h2
    rw [he] at h3
    have e0 : decide (k ≤ k + i ∧ k + i < k + i) = false := by simp
    have e1 : decide (k ≤ k + i ∧ k + i < k + (i + 1)) = true := by simp
    rw [e0, Bool.false_and, Bool.xor_false] at h3
    rw [e1, show k + i - k = i by omega, hb, ← h3]
    simp only [hq, Bool.true_and]
  · have e1 : decide (k ≤ j ∧ j < k + (i + 1)) = decide (k ≤ j ∧ j < k + i) := by
      congr 1
      simp only [eq_iff_iff]; omega
    rw [e1, ← h.2.2 j h1 h2]
    by_cases hjq : q = j / 8
    · rw [if_pos hjq, hc, Nat.testBit_xor, Nat.testBit_two_pow_of_ne (by omega)]
      simp only [hjq, Bool.xor_false]
    · rw [if_neg hjq]
theorem Turned.told {b X : List UInt8} {k x : Nat} (h : Turned (Crc.sealed b) X k x 32) (hk : k + 32 ≤ 8 * (b.length + 4)) (hx : x < 4294967296) (h0 : x ≠ 0) : ¬ Crc.opens X := by
  have hl : X.length = b.length + 4 := by rw [h.1, Crc.sealed_length]
  refine Crc.burst b X k (BitVec.ofNat 32 x) h.1 (by omega) (fun e => h0 ?_) ?_
  · have := congrArg BitVec.toNat e
    rw [BitVec.toNat_ofNat, Nat.mod_eq_of_lt hx] at this
    simpa using this
  · intro i p q hp hq
    have hi : i < (Crc.bitsOf X).length := by
      rcases Nat.lt_or_ge i (Crc.bitsOf X).length with h | h
      · exact h
      · rw [List.getElem?_eq_none h] at hp; cases hp
    rw [Crc.bitsOf_length] at hi
    have h1 : i / 8 < X.length := by omega
    have h2 : i / 8 < (Crc.sealed b).length := by rw [← h.1]; exact h1
    rw [Crc.bitsOf_at X i h1] at hp
    rw [Crc.bitsOf_at _ i h2] at hq
    have h3 := h.2.2 i h1 h2
    rw [Option.some.inj hp, Option.some.inj hq] at h3
    rw [h3, BitVec.getLsbD_ofNat]
    congr 1
    by_cases hki : k ≤ i
    · by_cases h32 : i < k + 32
      · simp [hki, h32]; omega
      · have : x.testBit (i - k) = false := Nat.testBit_lt_two_pow (Nat.lt_of_lt_of_le hx (by
          have : 2 ^ 32 ≤ 2 ^ (i - k) := Nat.pow_le_pow_right (by omega) (by omega)
          omega))
        simp [this]
    · simp [hki]

theorem bit_at (x i : Nat) : ((x : Int) / 2 ^ i).tmod 2 = ((x / 2 ^ i % 2 : Nat) : Int) := by
  have h : (x : Int) / 2 ^ i = ((x / 2 ^ i : Nat) : Int) := by rw [Int.natCast_ediv, Int.natCast_pow]; rfl
  rw [h]
  generalize x / 2 ^ i = y
  rw [Int.tmod_eq_emod_of_nonneg (by omega)]; omega
theorem bit_yes {x i : Nat} (h : x.testBit i = true) : (((x : Int) / 2 ^ i).tmod 2 == 1) = true := by
  rw [Nat.testBit_eq_decide_div_mod_eq] at h
  have h1 : x / 2 ^ i % 2 = 1 := by simpa using h
  rw [bit_at, h1]; rfl
theorem bit_no {x i : Nat} (h : x.testBit i = false) : (((x : Int) / 2 ^ i).tmod 2 == 1) = false := by
  rw [Nat.testBit_eq_decide_div_mod_eq] at h
  have h1 : x / 2 ^ i % 2 = 0 := by have : ¬ x / 2 ^ i % 2 = 1 := by simpa using h
                                    omega
  rw [bit_at, h1]; rfl
/-- one bit of a byte, turned -/
theorem byte_turn (c : UInt8) (e : Nat) (he : e < 8) : ∃ y : Nat, bits .xor .u8 (c.toNat : Int) (2 ^ e % 256) = (y : Int) ∧ y < 256 ∧ y = c.toNat ^^^ 2 ^ e := by
  have h1 : 2 ^ e < 256 := Nat.pow_lt_pow_right (a := 2) (n := 8) (by omega) he
  have h2 : ((2 : Int) ^ e % 256) = ((2 ^ e : Nat) : Int) := by
    have : ((2 ^ e : Nat) : Int) = (2 : Int) ^ e := by rw [Int.natCast_pow]; rfl
    rw [← this]
    exact Int.emod_eq_of_lt (Int.natCast_nonneg _) (Int.ofNat_lt.2 h1)
  have hc := c.toNat_lt
  refine ⟨c.toNat ^^^ 2 ^ e, ?_, Nat.xor_lt_two_pow (n := 8) (by omega) (by omega), rfl⟩
  rw [h2, u8_xor_nat _ _ (by omega) h1]

end Go.Proofs.Ytgicjdlpkphfnaa
