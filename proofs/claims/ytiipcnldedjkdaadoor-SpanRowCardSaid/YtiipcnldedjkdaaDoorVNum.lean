/-
  Layer 1: what vint.number and vint.Get answer, of any bytes. Nothing is assumed but that the bytes lie in memory.
-/
import Derived.Test.YtiipcnldedjkdaaDoorVSize
import Derived.Test.YtiipcnldedjkdaaDoorVErr
import Derived.Test.YtiipcnldedjkdaaDoorWords
namespace Go.Proofs.YtiipcnldedjkdaaDoor
open Go.RowKit

def NumRel (bs : List UInt8) (o n i : Value) : Prop := ∃ (b : Bool) (k acc : Nat), o = .bool b ∧ n = .int .i64 acc ∧ i = .int .i64 k ∧ k ≤ 7 ∧ k ≤ bs.length ∧
  ((b = true ∧ acc < 128 ^ k ∧ Plain.get bs = Plain.getL (7 - k) (bs.drop k) k acc) ∨ (b = false ∧ 1 ≤ k ∧ acc < 562949953421312 ∧ Plain.get bs = if Plain.size acc = k then (acc, k, 0) else (0, 0, 12)))
def NumPost (bs : List UInt8) (w : World) (e : Ending) (w' : World) : Prop :=
  ∃ at_ : Int, e = .returned (.tuple #[.int .i64 (Plain.get bs).1, .int .i64 (Plain.get bs).2.1, errOf at_ (Plain.get bs).2.2]) ∧ w = w'

theorem and128_lo (c : Nat) (h : c < 128) : bits .and .u8 (c : Int) 128 = 0 := by
  have := u8_and_nat c 128 (by omega) (by omega)
  have e : c &&& 128 = 0 := by have := nat_bit 7 c; simp at this; rw [this]; omega
  rw [e] at this; simpa using this
theorem and128_hi (d : Nat) (h : d < 128) : bits .and .u8 ((d + 128 : Nat) : Int) 128 = 128 := by
  have := u8_and_nat (d + 128) 128 (by omega) (by omega)
  have e : (d + 128) &&& 128 = 128 := by have := nat_bit 7 (d + 128); simp at this; rw [this]; omega
  rw [e] at this; simpa using this
theorem and127_hi (d : Nat) (h : d < 128) : bits .and .u8 ((d + 128 : Nat) : Int) 127 = d := by
  have := u8_and_nat (d + 128) 127 (by omega) (by omega)
  have e : (d + 128) &&& 127 = d := by rw [nat_mask7]; omega
  rw [e] at this; simpa using this

theorem or_i64 (a b : Nat) (ha : a < 4611686018427387904) (hb : b < 4611686018427387904) : bits .or .i64 (a : Int) (b : Int) = ((a ||| b : Nat) : Int) := by
  have hx : a ||| b < 2 ^ 62 := Nat.or_lt_two_pow (by omega) (by omega)
  have e : ∀ c : Nat, c < 4611686018427387904 → (BitVec.ofInt 64 (c : Int)).toNat = c := fun c hc => by
    rw [BitVec.ofInt_natCast, BitVec.toNat_ofNat]; exact Nat.mod_eq_of_lt (by omega)
  show IntKind.i64.wrap ((BitVec.ofInt 64 (a : Int) ||| BitVec.ofInt 64 (b : Int)).toNat : Int) = _
  rw [BitVec.toNat_or, e a ha, e b hb, IntKind.wrap_i64]
  omega
theorem pow128 (k : Nat) : 2 ^ (7 * k) = 128 ^ k := by rw [Nat.pow_mul]
theorem pow128_le (k : Nat) (h : k ≤ 7) : 128 ^ k ≤ 562949953421312 := by
  have : 128 ^ k ≤ 128 ^ 7 := Nat.pow_le_pow_right (by omega) h
  omega
/-- a group joins the ones below it -/
theorem join (acc c k : Nat) (hk : k < 7) (ha : acc < 128 ^ k) (hc : c < 128) :
    bits .or .i64 (acc : Int) (wrap64 ((c : Int) * 2 ^ (7 * k))) = ((acc + c * 128 ^ k : Nat) : Int) ∧ acc + c * 128 ^ k < 128 ^ (k + 1) := by
  have h1 := pow128_le (k + 1) (by omega)
  have h2 : c * 128 ^ k + 128 ^ k ≤ 128 ^ (k + 1) := by
    have : (c + 1) * 128 ^ k ≤ 128 * 128 ^ k := Nat.mul_le_mul_right _ (by omega)
    rw [Nat.add_mul] at this
    rw [Nat.pow_succ]; omega
  have e : ((c : Int) * 2 ^ (7 * k)) = ((c * 128 ^ k : Nat) : Int) := by
    rw [← pow128, Int.natCast_mul, Int.natCast_pow]; rfl
  have hj : c * 128 ^ k ||| acc = c * 128 ^ k + acc := nat_join (7 * k) _ _ (by rw [pow128]; exact Nat.mul_mod_left _ _) (by rw [pow128]; exact ha)
  refine ⟨?_, by omega⟩
  rw [e, IntWalk.wrap64_in _ (by omega), or_i64 _ _ (by omega) (by omega), Nat.or_comm, hj, Nat.add_comm]

/-- the last byte's ways: where the code asks for the size, the document asks for a last byte of 0, and for one too large -/
theorem last_byte (acc c k : Nat) (hk : k < 7) (ha : acc < 128 ^ k) (hc : c < 128) :
    (if (0 < k ∧ c = 0) ∨ Plain.maxN < acc + c * 128 ^ k then (0, 0, 12) else (acc + c * 128 ^ k, k + 1, 0)) = (if Plain.size ((acc + c * 128 ^ k : Nat) : Int) = k + 1 then (acc + c * 128 ^ k, k + 1, 0) else ((0, 0, 12) : Nat × Nat × Nat)) := by
  have hs : Plain.size ((acc + c * 128 ^ k : Nat) : Int) = k + 1 ↔ ¬ ((0 < k ∧ c = 0) ∨ Plain.maxN < acc + c * 128 ^ k) := by
    unfold Plain.size Plain.maxN
    have hz := sz_cases (acc + c * 128 ^ k)
    rw [Int.toNat_natCast]
    generalize Plain.sz (acc + c * 128 ^ k) = q at *
    obtain rfl | rfl | rfl | rfl | rfl | rfl | rfl : k = 0 ∨ k = 1 ∨ k = 2 ∨ k = 3 ∨ k = 4 ∨ k = 5 ∨ k = 6 := by omega
    all_goals
      simp only [Nat.reducePow] at *
      split <;> omega
  by_cases h : (0 < k ∧ c = 0) ∨ Plain.maxN < acc + c * 128 ^ k
  · rw [if_pos h, if_neg (fun h' => hs.1 h' h)]
  · rw [if_neg h, if_pos (hs.2 h)]

/-- one more byte -/
theorem getL_step (bs : List UInt8) (k acc : Nat) (h1 : k < bs.length) (h2 : k < 7) : Plain.getL (7 - k) (bs.drop k) k acc =
    if bs[k].toNat < 128 then (if (0 < k ∧ bs[k].toNat = 0) ∨ Plain.maxN < acc + bs[k].toNat * 128 ^ k then (0, 0, 12) else (acc + bs[k].toNat * 128 ^ k, k + 1, 0))
    else Plain.getL (7 - (k + 1)) (bs.drop (k + 1)) (k + 1) (acc + (bs[k].toNat - 128) * 128 ^ k) := by
  obtain ⟨f, hf⟩ : ∃ f, 7 - k = f + 1 := ⟨7 - k - 1, by omega⟩
  rw [hf, List.drop_eq_getElem_cons h1, Plain.getL, show 7 - (k + 1) = f by omega]
theorem getL_short (bs : List UInt8) (k acc : Nat) (h1 : bs.length ≤ k) (h2 : k < 7) : Plain.getL (7 - k) (bs.drop k) k acc = (0, 0, 11) := by
  obtain ⟨f, hf⟩ : ∃ f, 7 - k = f + 1 := ⟨7 - k - 1, by omega⟩
  rw [hf, List.drop_of_length_le h1, Plain.getL]

theorem post_err (bs : List UInt8) (w : World) (at_ : Int) (code : Nat) (hc : code ≠ 0) (h : Plain.get bs = (0, 0, code)) :
    NumPost bs w (.returned (.tuple #[.int .i64 0, .int .i64 0, .iface 110 (.agg #[.int .i64 at_, .iface 27 (.int .i64 code)])])) w := by
  refine ⟨at_, ?_, rfl⟩
  rw [h]
  simp [errOf, hc]
theorem post_ok (bs : List UInt8) (w : World) (n k : Nat) (h : Plain.get bs = (n, k, 0)) : NumPost bs w (.returned (.tuple #[.int .i64 n, .int .i64 k, .nilIface])) w := by
  refine ⟨0, ?_, rfl⟩
  rw [h]
  simp [errOf]

theorem num_walk (A : Option Addr) (cap : Nat) (bs : List UInt8) (w : World) (hm : bs.length ≤ maxLen) (hA : Lies w A (cells bs)) :
    Calls Tryd.prog 54 #[.slice A bs.length cap] w (NumPost bs w) := by
  unfold maxLen at hm
  go_enter Tryd.func54, Tryd.ntmps54
  go_wp2
  go_loop [7, 5, 6] (fun o n i => NumRel bs o n i) (fun _ _ i => 7 - (intOf i).toNat)
  case atStart => exact ⟨true, 0, 0, rfl, rfl, rfl, by omega, by omega, Or.inl ⟨rfl, by omega, rfl⟩⟩
  case round =>
    obtain ⟨b, k, acc, rfl, rfl, rfl, hk, hkl, h⟩ := hrel
    rcases h with ⟨rfl, hacc, hg⟩ | ⟨rfl, hk1, hacc, hg⟩
    · by_cases hlt : k < bs.length ∧ k < 7
      · obtain ⟨h1, h2⟩ := hlt
        rw [getL_step bs k acc h1 h2] at hg
        obtain ⟨ad, rfl, hb, hcell⟩ := hA.at_ (k := k) (by rw [cells_length]; exact h1)
        rw [cells_at bs k h1] at hcell
        have hc := bs[k].toNat_lt
        generalize bs[k].toNat = c at *
        by_cases hc1 : c < 128
        · rw [if_pos hc1, last_byte acc c k h2 hacc hc1] at hg
          have hand := and128_lo c hc1
          have hj := join acc c k h2 hacc hc1
          have hp := pow128_le (k + 1) (by omega)
          have HG := Lib.hid hg
          have HJ := Lib.hid hj
          clear hg hj
          go_wp2
          go_round
          case rel => exact ⟨false, k + 1, acc + c * 128 ^ k, rfl, by rw [HJ.out.1], by go_num, by omega, by omega, Or.inr ⟨rfl, by omega, by have := HJ.out.2; omega, HG.out⟩⟩
          case measure => simp [intOf]; omega
        · obtain ⟨d, rfl⟩ : ∃ d, c = d + 128 := ⟨c - 128, by omega⟩
          rw [if_neg hc1, Nat.add_sub_cancel] at hg
          have hand := and128_hi d (by omega)
          have hand7 := and127_hi d (by omega)
          have hj := join acc d k h2 hacc (by omega)
          have HG := Lib.hid hg
          have HJ := Lib.hid hj
          clear hg hj
          generalize hq : d + 128 = q at *
          have HQ := Lib.hid hq
          clear hq
          have hd : d < 128 := by have := HQ.out; omega
          go_wp2
          go_round
          case rel => exact ⟨true, k + 1, acc + d * 128 ^ k, rfl, by rw [HJ.out.1], by go_num, by omega, by omega, Or.inl ⟨rfl, HJ.out.2, HG.out⟩⟩
          case measure => simp [intOf]; omega
      · by_cases h7 : k < 7
        · have hkl2 : bs.length = k := by omega
          rw [getL_short bs k acc (by omega) h7] at hg
          have HG := Lib.hid hg
          clear hg
          go_wp2
          go_ret3
          exact post_err bs w _ 11 (by omega) HG.out
        · obtain rfl : k = 7 := by omega
          have HG := Lib.hid (show Plain.get bs = (0, 0, 12) from hg)
          clear hg
          go_wp2
          all_goals go_ret3
          all_goals exact post_err bs w _ 12 (by omega) HG.out
    · by_cases hs : Plain.size acc = k
      · rw [if_pos hs] at hg
        have HG := Lib.hid hg
        have HS := Lib.hid hs
        clear hg hs
        go_wp2_with fail
        refine (size_any _ _).mono ?_
        rintro e w' ⟨rfl, rfl⟩
        rw [HS.out]
        go_wp2
        go_ret3
        exact post_ok bs w _ _ HG.out
      · rw [if_neg hs] at hg
        have HG := Lib.hid hg
        have hne : ((Plain.size acc : Int) != (k : Int)) = true := by rw [bne_iff_ne]; omega
        have hle := Plain.size_le acc
        clear hg hs
        go_wp2_with fail
        refine (size_any _ _).mono ?_
        rintro e w' ⟨rfl, rfl⟩
        generalize Plain.size acc = q at *
        go_wp2
        go_ret3
        exact post_err bs w _ 12 (by omega) HG.out
end Go.Proofs.YtiipcnldedjkdaaDoor
