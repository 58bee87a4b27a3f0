/-
  Layer 1, the document's answer (turntableref01): what Get, PutText and GetText answer: the same plain functions as vint's. Assumed: b is at most 2^40 bytes long.
-/
import Derived.Test.YtiipcnldedjkdaaDoorR1
namespace Go.Proofs.YtiipcnldedjkdaaDoor
open Go.RowKit
set_option maxRecDepth 100000

def RGetRel (bs : List UInt8) (n i : Value) : Prop := ∃ k acc : Nat, n = .int .i64 acc ∧ i = .int .i64 k ∧ k ≤ 7 ∧ k ≤ bs.length ∧ acc < 128 ^ k ∧ Plain.get bs = Plain.getL (7 - k) (bs.drop k) k acc
def RGetPost (bs : List UInt8) (w : World) (e : Ending) (w' : World) : Prop :=
  e = .returned (.tuple #[.int .i64 (Plain.get bs).1, .int .i64 (Plain.get bs).2.1, .int .i64 (Plain.get bs).2.2]) ∧ w = w'
theorem rpost (bs : List UInt8) (w : World) (x k c : Nat) (X K C : Int) (h : Plain.get bs = (x, k, c)) (hx : (x : Int) = X) (hk : (k : Int) = K) (hc : (c : Int) = C) : RGetPost bs w (.returned (.tuple #[.int .i64 X, .int .i64 K, .int .i64 C])) w := by
  refine ⟨?_, rfl⟩
  rw [h, hx, hk, hc]

theorem shl_at (d k : Nat) (hk : k < 7) (hd : d < 128) : ∃ D : Nat, D = d * 128 ^ k ∧ wrap64 ((d : Int) * 2 ^ (7 * k)) = (D : Int) ∧ D ≤ 562949953421312 := by
  have h1 := pow128_le (k + 1) (by omega)
  have h2 : d * 128 ^ k ≤ 128 * 128 ^ k := Nat.mul_le_mul_right _ (by omega)
  rw [Nat.pow_succ] at h1
  have e : ((d : Int) * 2 ^ (7 * k)) = ((d * 128 ^ k : Nat) : Int) := by
    rw [← pow128, Int.natCast_mul, Int.natCast_pow]; rfl
  exact ⟨_, rfl, by rw [e, IntWalk.wrap64_in _ (by omega)], by omega⟩

set_option maxHeartbeats 1000000 in
set_option maxRecDepth 100000 in
theorem rget_walk (A : Option Addr) (cap : Nat) (bs : List UInt8) (w : World) (hm : bs.length ≤ maxLen) (hA : Lies w A (cells bs)) :
    Calls Tryd.prog 24 #[.slice A bs.length cap] w (RGetPost bs w) := by
  unfold maxLen at hm
  go_enter Tryd.func24, Tryd.ntmps24
  go_wp2
  go_loop [5, 6] (fun n i => RGetRel bs n i) (fun _ i => 7 - (intOf i).toNat)
  case atStart => exact ⟨0, 0, rfl, rfl, by omega, by omega, by omega, rfl⟩
  case round =>
    obtain ⟨k, acc, rfl, rfl, hk, hkl, hacc, hg⟩ := hrel
    have hap := pow128_le k hk
    by_cases hlt : k < bs.length ∧ k < 7
    · obtain ⟨h1, h2⟩ := hlt
      rw [getL_step bs k acc h1 h2] at hg
      obtain ⟨ad, rfl, hb, hcell⟩ := hA.at_ (k := k) (by rw [cells_length]; exact h1)
      rw [cells_at bs k h1] at hcell
      have hc := bs[k].toNat_lt
      generalize bs[k].toNat = c at *
      by_cases hc1 : c < 128
      · rw [if_pos hc1] at hg
        obtain ⟨D, hD, hj, hDb⟩ := shl_at c k h2 hc1
        rw [← hD] at hg
        have hmod : (c : Int) % 128 = (c : Int) := by omega
        have hacc2 : acc < 562949953421313 := by omega
        clear hD hacc hap
        unfold Plain.maxN at hg
        by_cases hk0 : 0 < k
        · have dk : decide (0 < k) = true := by simpa using hk0
          by_cases hc0 : c = 0
          · have dc : ((c : Int) == 0) = true := by rw [beq_iff_eq]; omega
            rw [if_pos (.inl ⟨hk0, hc0⟩)] at hg
            have HG := Lib.hid hg
            clear hg hc0
            go_wp2
            go_ret3
            exact rpost bs w 0 0 12 _ _ _ HG.out rfl rfl rfl
          · have dc : ((c : Int) == 0) = false := beq_eq_false_iff_ne.2 (by omega)
            by_cases hmx : 281474976710656 < acc + D
            · rw [if_pos (.inr hmx)] at hg
              have dm : decide ((281474976710656 : Int) < (acc : Int) + (D : Int)) = true := by simp; omega
              have HG := Lib.hid hg
              clear hg hc0
              go_wp2
              go_ret3
              exact rpost bs w 0 0 12 _ _ _ HG.out rfl rfl rfl
            · rw [if_neg (by omega)] at hg
              have dm : decide ((281474976710656 : Int) < (acc : Int) + (D : Int)) = false := by simp; omega
              have HG := Lib.hid hg
              clear hg hc0
              go_wp2
              go_ret3
              exact rpost bs w (acc + D) (k + 1) 0 _ _ _ HG.out (by omega) (by omega) rfl
        · have dk : decide (0 < k) = false := by simpa using hk0
          by_cases hmx : 281474976710656 < acc + D
          · rw [if_pos (.inr hmx)] at hg
            have dm : decide ((281474976710656 : Int) < (acc : Int) + (D : Int)) = true := by simp; omega
            have HG := Lib.hid hg
            clear hg
            go_wp2
            go_ret3
            exact rpost bs w 0 0 12 _ _ _ HG.out rfl rfl rfl
          · rw [if_neg (by omega)] at hg
            have dm : decide ((281474976710656 : Int) < (acc : Int) + (D : Int)) = false := by simp; omega
            have HG := Lib.hid hg
            clear hg
            go_wp2
            go_ret3
            exact rpost bs w (acc + D) (k + 1) 0 _ _ _ HG.out (by omega) (by omega) rfl
      · obtain ⟨d, hd⟩ : ∃ d, c = d + 128 := ⟨c - 128, by omega⟩
        obtain ⟨D, hD, hj, hDb⟩ := shl_at d k h2 (by omega)
        rw [if_neg hc1, hd, Nat.add_sub_cancel, ← hD] at hg
        have HA := Lib.hid (show acc + D < 128 ^ (k + 1) by rw [hD]; exact (join acc d k h2 hacc (by omega)).2)
        have hmod : (c : Int) % 128 = (d : Int) := by omega
        have hd128 : d < 128 := by omega
        have hacc2 : acc < 562949953421313 := by omega
        have HG := Lib.hid hg
        clear hd hD hg hacc hap
        go_wp2
        go_round
        case rel => exact ⟨k + 1, acc + D, by go_num, by go_num, by omega, by omega, HA.out, HG.out⟩
        case measure => simp [intOf]; omega
    · by_cases h7 : k < 7
      · have hle : bs.length = k := by omega
        rw [getL_short bs k acc (by omega) h7] at hg
        have HG := Lib.hid hg
        clear hg
        go_wp2
        go_ret3
        exact rpost bs w 0 0 11 _ _ _ HG.out rfl rfl rfl
      · obtain rfl : k = 7 := by omega
        have HG := Lib.hid (show Plain.get bs = (0, 0, 12) from hg)
        clear hg
        go_wp2
        all_goals go_ret3
        all_goals exact rpost bs w 0 0 12 _ _ _ HG.out rfl rfl rfl

theorem rget_is (A : Option Addr) (n cap : Nat) (bs : List UInt8) (w : World) (X K C : Int) (hn : bs.length = n) (hm : n ≤ maxLen) (hA : Lies w A (cells bs)) (h1 : ((Plain.get bs).1 : Int) = X) (h2 : ((Plain.get bs).2.1 : Int) = K) (h3 : ((Plain.get bs).2.2 : Int) = C) :
    Calls Tryd.prog 24 #[.slice A n cap] w fun e w' => e = .returned (.tuple #[.int .i64 X, .int .i64 K, .int .i64 C]) ∧ w = w' := by
  subst hn h1 h2 h3
  exact (rget_walk A cap bs w hm hA).mono fun _ _ h => h
end Go.Proofs.YtiipcnldedjkdaaDoor
