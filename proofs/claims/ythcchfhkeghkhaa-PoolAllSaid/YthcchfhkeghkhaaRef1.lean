/-
  R1: Layer 1, the document's answer (turntableref01): what Size, Put, Get, PutText and GetText answer: the same plain functions as vint's. Assumed: b is at most 2^40 bytes long.
  R1G: Layer 1, the document's answer (turntableref01): what Get, PutText and GetText answer: the same plain functions as vint's. Assumed: b is at most 2^40 bytes long.
  R1T: Layer 1, the document's answer (turntableref01): what PutText and GetText answer: the same plain functions as vint's. Assumed: b is at most 2^40 bytes long.
-/
import Derived.Test.YthcchfhkeghkhaaVint
import Derived.Test.YthcchfhkeghkhaaBase

namespace Go.Proofs.Ythcchfhkeghkhaa
open Go.RowKit
set_option maxRecDepth 100000

theorem sz_div (m : Nat) (h : 128 ≤ m) (h2 : m ≤ 281474976710656) : Plain.sz m = Plain.sz (m / 128) + 1 := by
  have h1 := sz_cases m
  have h3 := sz_cases (m / 128)
  generalize Plain.sz m = a at *
  generalize Plain.sz (m / 128) = b at *
  omega

def RSizeRel (n : Nat) (vn vs : Value) : Prop := ∃ m k : Nat, vn = .int .i64 m ∧ vs = .int .i64 k ∧ m ≤ 281474976710656 ∧ k + Plain.sz m = Plain.sz n + 1 ∧ 1 ≤ k

set_option maxRecDepth 100000 in
theorem rsize_yes (n : Nat) (w : World) (h : n ≤ 281474976710656) :
    Calls Try.prog 71 #[.int .i64 n] w fun e w' => e = .returned (.int .i64 (Plain.sz n)) ∧ w = w' := by
  have hs7 := Plain.sz_le n
  go_enter Try.func71, Try.ntmps71
  go_wp2
  go_loop [0, 3] (fun vn vs => RSizeRel n vn vs) (fun vn _ => (intOf vn).toNat)
  case atStart => exact ⟨n, 1, rfl, rfl, h, by omega, by omega⟩
  case round =>
    obtain ⟨m, k, rfl, rfl, hm, hk, hk1⟩ := hrel
    have hmp := Plain.sz_pos m
    by_cases h128 : 128 ≤ m
    · have HD := Lib.hid (sz_div m h128 hm)
      have HK := Lib.hid hk
      have hk8 : k ≤ 8 := by omega
      clear hk
      go_wp2
      go_round
      case rel => exact ⟨m / 128, k + 1, by go_num, by go_num, by omega, by have := HD.out; have := HK.out; omega, by omega⟩
      case measure => simp [intOf]; omega
    · have hs1 : Plain.sz m = 1 := by have := sz_cases m; omega
      have HK := Lib.hid (show (k : Int) = (Plain.sz n : Int) by omega)
      clear hk hs1 hmp
      go_wp2
      go_ret
      exact ⟨ret_int HK.out, rfl⟩
theorem rsize_no (n : Int) (w : World) (h : n < 0 ∨ 281474976710656 < n) :
    Calls Try.prog 71 #[.int .i64 n] w fun e w' => e = .returned (.int .i64 0) ∧ w = w' := by
  rcases h with h | h
  · go_enter Try.func71, Try.ntmps71
    go_wp2
    go_ret
    exact ⟨rfl, rfl⟩
  · have h' : ¬ n < 0 := by omega
    go_enter Try.func71, Try.ntmps71
    go_wp2
    go_ret
    exact ⟨rfl, rfl⟩
theorem rsize_any (n : Int) (w : World) : Calls Try.prog 71 #[.int .i64 n] w fun e w' => e = .returned (.int .i64 (Plain.size n)) ∧ w = w' := by
  unfold Plain.size
  split
  · rename_i h
    obtain ⟨m, rfl⟩ := Int.eq_ofNat_of_zero_le h.1
    exact rsize_yes m w (by omega)
  · exact rsize_no n w (by omega)

def RPutRel (w : World) (bs : List UInt8) (size n : Nat) (vn vo vi : Value) (wr : World) : Prop :=
  ∃ (k m : Nat) (done : List UInt8), vn = .int .i64 m ∧ vi = .int .i64 k ∧ k ≤ size ∧ m ≤ 281474976710656 ∧ wr.ownsRow w.heap.size 5 1 vo done.length (cells done) ∧ Below w.heap.size w wr ∧ done.length = bs.length + k ∧ done ++ Plain.enc (size - k) m = bs ++ Plain.enc size n

theorem enc_last (n : Nat) : Plain.enc 1 n = [UInt8.ofNat (n % 128)] := by simp [Plain.enc]

theorem rput_size (A : Option Addr) (cap : Nat) (bs : List UInt8) (size n : Nat) (w : World) (hm : bs.length ≤ 1099511627776) (hn : n ≤ 281474976710656) (hsz : size ≤ 7) (hA : Lies w A (cells bs)) (N : Int) (hN : N = n ∨ size = 0)
    (HS : Hid (Calls Try.prog 71 #[.int .i64 N] w fun e w' => e = .returned (.int .i64 size) ∧ w = w')) :
    Calls Try.prog 50 #[.slice A bs.length cap, .int .i64 N] w (Made w (bs ++ Plain.enc size n)) := by
  obtain ⟨i0, hi, hz0, hz1, hz2⟩ := info_parts infoU8
  have hcl := cells_length bs
  have hA' : Lies (w.alloc (.cells #[] 5)) A (cells bs) := hA.keep (by simp) fun p hp => World.cell?_alloc_lt w _ p hp
  go_enter Try.func50, Try.ntmps50
  go_wp2_with fail
  refine HS.out.mono ?_
  rintro e w' ⟨rfl, rfl⟩
  go_wp2_with (at_builtin; refine wpList_app rfl _ _ 68 rfl w.heap.size 5 i0 (.int .u8 0) Try.underlying68 hi hz0 hz1 hz2 rfl (.slice (some ⟨w.heap.size, 0, none⟩) 0 0) 0 [] rfl ?a1 A bs.length cap (cells bs) rfl hcl ?a3 (cells_one bs) ?a4 ?a5 ?a6)
  case a1 => exact World.ownsRow_lit w #[] 0 (Nat.le_refl _) (by unfold maxLen; omega) rfl
  case a3 => exact hA'
  case a4 => omega
  case a5 => simp
  case a6 =>
    intro v1 w1 hown1 hg1 hat1
    have hb1 : Below w.heap.size w w1 := ((Below.refl _ _).alloc (Nat.le_refl _) _).grown hg1 (by simp) (fun g hg => by simp [Value.ownBlock] at hg; omega)
    have HO1 := Lib.hid (show w1.ownsRow w.heap.size 5 1 v1 bs.length (cells bs) by simpa using hown1)
    clear hown1 hg1 hat1
    go_wp2
    rcases hN with rfl | rfl
    · go_loopw [1, 6, 7] (fun vn vo vi wr => RPutRel w bs size n vn vo vi wr) (fun _ _ vi _ => size - (intOf vi).toNat)
      case atStart => exact ⟨0, n, bs, rfl, rfl, Nat.zero_le _, hn, HO1.out, hb1, rfl, rfl⟩
      case round =>
        obtain ⟨k, m, done, rfl, rfl, hk, hmx, hown, hbr, hdl, hde⟩ := hrel
        have HO := Lib.hid hown
        have HD := Lib.hid hde
        have HDL := Lib.hid hdl
        clear hown hde hdl
        rcases Nat.lt_trichotomy (k + 1) size with h1 | h1 | h1
        · have hr : m % 128 < 128 := Nat.mod_lt _ (by omega)
          have hmod : ((m : Int) % 128) = ((m % 128 : Nat) : Int) := by omega
          have HE := Lib.hid (show done ++ [UInt8.ofNat (m % 128 + 128)] ++ Plain.enc (size - (k + 1)) (m / 128) = bs ++ Plain.enc size n by
            obtain ⟨j, hj⟩ : ∃ j, size - k = j + 2 := ⟨size - k - 2, by omega⟩
            rw [← HD.out, hj, enc_more, List.append_assoc, show size - (k + 1) = j + 1 by omega]; rfl)
          have HB := Lib.hid (Plain.byte_more m)
          generalize m % 128 = r at *
          have hq : ((r : Int) + 128) = ((r + 128 : Nat) : Int) := by omega
          have hq2 : r + 128 ≤ 255 := by omega
          generalize r + 128 = q at *
          go_wp2_with (at_builtin; refine wpList_append_own_at _ rfl _ _ 68 rfl w.heap.size 5 i0 (.int .u8 0) 1 1 Try.underlying68 hi hz0 hz1 hz2 rfl (by decide) u6 done.length (cells done) rfl ?b1 ⟨wr.heap.size, 0, none⟩ 1 1 [.int .u8 (q : Int)] rfl rfl ?b2 ?b3 ?b4 ?b5 ?b6 ?b7)
          case b1 => exact HO.out.alloc _
          case b2 => exact cell_one_new _ _ _
          case b3 => simp [Value.oneCell']
          case b4 => have := HDL.out; unfold maxLen; omega
          case b5 => have := HDL.out; omega
          case b6 => have := hbr.size; simp; omega
          case b7 =>
            intro v' w2 hown2 hgrow hnil hat
            have hb2 : Below w.heap.size w w2 := (hbr.alloc hbr.size _).grown hgrow (by have := hbr.size; simp; omega) (fun g hg => (HO.out.lt g hg).1)
            have HO2 := Lib.hid (show w2.ownsRow w.heap.size 5 1 v' (done ++ [UInt8.ofNat q]).length (cells (done ++ [UInt8.ofNat q])) by
              rw [cells_append, List.length_append]; simpa [cells, HB.out] using hown2)
            clear hown2 hgrow hnil hat
            go_wp2
            go_roundw
            case rel => exact ⟨k + 1, m / 128, done ++ [UInt8.ofNat q], by go_num, by go_num, by omega, by omega, HO2.out, hb2, by have := HDL.out; simp; omega, HE.out⟩
            case measure => simp [intOf]; omega
        · have hr : m % 128 < 128 := Nat.mod_lt _ (by omega)
          have hmod : ((m : Int) % 128) = ((m % 128 : Nat) : Int) := by omega
          have HE := Lib.hid (show done ++ [UInt8.ofNat (m % 128)] ++ Plain.enc (size - (k + 1)) (m / 128) = bs ++ Plain.enc size n by
            rw [← HD.out, show size - k = 1 by omega, enc_last, show size - (k + 1) = 0 by omega, Plain.enc, List.append_nil])
          have HB := Lib.hid (Plain.byte_last m)
          generalize m % 128 = q at *
          go_wp2_with (at_builtin; refine wpList_append_own_at _ rfl _ _ 68 rfl w.heap.size 5 i0 (.int .u8 0) 1 1 Try.underlying68 hi hz0 hz1 hz2 rfl (by decide) u6 done.length (cells done) rfl ?c1 ⟨wr.heap.size, 0, none⟩ 1 1 [.int .u8 (q : Int)] rfl rfl ?c2 ?c3 ?c4 ?c5 ?c6 ?c7)
          case c1 => exact HO.out.alloc _
          case c2 => exact cell_one_new _ _ _
          case c3 => simp [Value.oneCell']
          case c4 => have := HDL.out; unfold maxLen; omega
          case c5 => have := HDL.out; omega
          case c6 => have := hbr.size; simp; omega
          case c7 =>
            intro v' w2 hown2 hgrow hnil hat
            have hb2 : Below w.heap.size w w2 := (hbr.alloc hbr.size _).grown hgrow (by have := hbr.size; simp; omega) (fun g hg => (HO.out.lt g hg).1)
            have HO2 := Lib.hid (show w2.ownsRow w.heap.size 5 1 v' (done ++ [UInt8.ofNat q]).length (cells (done ++ [UInt8.ofNat q])) by
              rw [cells_append, List.length_append]; simpa [cells, HB.out] using hown2)
            clear hown2 hgrow hnil hat
            go_wp2
            go_roundw
            case rel => exact ⟨k + 1, m / 128, done ++ [UInt8.ofNat q], by go_num, by go_num, by omega, by omega, HO2.out, hb2, by have := HDL.out; simp; omega, HE.out⟩
            case measure => simp [intOf]; omega
        · obtain rfl : k = size := by omega
          go_wp2
          go_ret
          refine ⟨_, rfl, ?_, hbr⟩
          have e : bs ++ Plain.enc k n = done := by have := HD.out; rw [Nat.sub_self, Plain.enc, List.append_nil] at this; exact this.symm
          rw [e]
          exact HO.out
    · refine wp_loop_rounds 1 ?_
      rw [rounds_succ]
      go_wp2
      go_ret
      refine ⟨_, rfl, ?_, hb1⟩
      rw [Plain.enc, List.append_nil]
      exact HO1.out

theorem rput_any (A : Option Addr) (cap : Nat) (bs : List UInt8) (n : Int) (w : World) (hm : bs.length ≤ 1099511627776) (hA : Lies w A (cells bs)) :
    Calls Try.prog 50 #[.slice A bs.length cap, .int .i64 n] w (Made w (bs ++ Plain.put n)) := by
  unfold Plain.put
  split
  · rename_i h
    obtain ⟨m, rfl⟩ := Int.eq_ofNat_of_zero_le h.1
    exact rput_size A cap bs (Plain.sz m) m w hm (by omega) (Plain.sz_le m) hA m (.inl rfl) (Lib.hid (rsize_yes m w (by omega)))
  · have := rput_size A cap bs 0 0 w hm (by omega) (by omega) hA n (.inr rfl) (Lib.hid (rsize_no n w (by omega)))
    rwa [Plain.enc] at this
end Go.Proofs.Ythcchfhkeghkhaa

namespace Go.Proofs.Ythcchfhkeghkhaa
open Go.RowKit
set_option maxRecDepth 100000

def RGetRel (bs : List UInt8) (n i : Value) : Prop := ∃ k acc : Nat, n = .int .i64 acc ∧ i = .int .i64 k ∧ k ≤ 7 ∧ k ≤ bs.length ∧ acc < 128 ^ k ∧ Plain.get bs = Plain.getL (7 - k) (bs.drop k) k acc
def RGetPost (bs : List UInt8) (w : World) (e : Ending) (w' : World) : Prop :=
  e = .returned (.tuple #[.int .i64 (Plain.get bs).1, .int .i64 (Plain.get bs).2.1, .int .i64 (Plain.get bs).2.2]) ∧ w = w'
theorem rpost (bs : List UInt8) (w : World) (x k c : Nat) (X K C : Int) (h : Plain.get bs = (x, k, c)) (hx : (x : Int) = X) (hk : (k : Int) = K) (hc : (c : Int) = C) : RGetPost bs w (.returned (.tuple #[.int .i64 X, .int .i64 K, .int .i64 C])) w := by
  refine ⟨?_, rfl⟩
  rw [h, hx, hk, hc]

theorem shl_at (d k : Nat) (hk : k < 7) (hd : d < 128) : ∃ D : Nat, D = d * 128 ^ k ∧ wrap64 ((d : Int) * 2 ^ (7 * k)) = (D : Int) ∧ D ≤ 562949953421312 := by
  have h1 := pow128_le (k + 1) (by omega)
  have h2 : d * 128 ^ k ≤ 128 * 128 ^ k := Nat.mul_le_mul_right _ (by omega)
  rw [Nat.pow_succ] at h1
  have e : ((d : Int) * 2 ^ (7 * k)) = ((d * 128 ^ k : Nat) : Int) := by
    rw [← pow128, Int.natCast_mul, Int.natCast_pow]; rfl
  exact ⟨_, rfl, by rw [e, IntWalk.wrap64_in _ (by omega)], by omega⟩

end Go.Proofs.Ythcchfhkeghkhaa

namespace Go.Proofs.Ythcchfhkeghkhaa
open Go.RowKit
set_option maxRecDepth 100000

set_option maxHeartbeats 1000000 in
theorem rputText_any (A : Option Addr) (cap : Nat) (bs s : List UInt8) (w : World) (hm : bs.length ≤ 1099511627776) (hA : Lies w A (cells bs)) (hs : s.length ≤ maxLen) :
    Calls Try.prog 72 #[.slice A bs.length cap, .string (str s)] w (Made w (bs ++ Plain.putText s)) := by
  obtain ⟨i0, hi, hz0, hz1, hz2⟩ := info_parts infoU8
  have hcl := cells_length bs
  have hA' : Lies (w.alloc (.cells #[] 5)) A (cells bs) := hA.keep (by simp) fun p hp => World.cell?_alloc_lt w _ p hp
  have hsl := str_size s
  have hsc := Lib.hid (strCells_cells s)
  unfold maxLen at hs
  have HL := Lib.hid (show (bs ++ Plain.put s.length).length = bs.length + Plain.size s.length by rw [List.length_append, Plain.put_length])
  have HP := Lib.hid (rput_any A cap bs s.length w hm hA)
  unfold Plain.putText
  by_cases h : 32 < s.length
  · rw [if_pos h, List.append_nil]
    generalize str s = S at *
    generalize s.length = L at *
    subst hsl
    go_enter Try.func72, Try.ntmps72
    go_wp2_with (at_builtin; refine wpList_app rfl _ _ 68 rfl w.heap.size 5 i0 (.int .u8 0) Try.underlying68 hi hz0 hz1 hz2 rfl (.slice (some ⟨w.heap.size, 0, none⟩) 0 0) 0 [] rfl ?a1 A bs.length cap (cells bs) rfl hcl ?a3 (cells_one bs) ?a4 ?a5 ?a6)
    case a1 => exact World.ownsRow_lit w #[] 0 (Nat.le_refl _) (by unfold maxLen; omega) rfl
    case a3 => exact hA'
    case a4 => omega
    case a5 => simp
    case a6 =>
      intro v1 w1 hown1 hg1 hat1
      have hb1 : Below w.heap.size w w1 := ((Below.refl _ _).alloc (Nat.le_refl _) _).grown hg1 (by simp) (fun g hg => by simp [Value.ownBlock] at hg; omega)
      have HO1 := Lib.hid (show w1.ownsRow w.heap.size 5 1 v1 bs.length (cells bs) by simpa using hown1)
      clear hown1 hg1 hat1
      go_wp2
      go_ret
      exact ⟨_, rfl, HO1.out, hb1⟩
  · rw [if_neg h, ← List.append_assoc]
    have hpl := Plain.size_le s.length
    have HF := Lib.hid (show ∀ (v : Value) (w' : World), w'.ownsRow w.heap.size 5 1 v ((bs ++ Plain.put s.length).length + s.length) (cells (bs ++ Plain.put s.length) ++ cells s) → Below w.heap.size w w' → Made w (bs ++ Plain.put s.length ++ s) (.returned v) w' from
      fun v w' ho hb => ⟨v, rfl, by rw [cells_append, List.length_append]; exact ho, hb⟩)
    generalize bs ++ Plain.put s.length ++ s = out at *
    generalize bs ++ Plain.put s.length = mid at *
    generalize str s = S at *
    generalize cells s = cs at *
    generalize hq : Plain.size s.length = q at *
    clear hq
    generalize s.length = L at *
    subst hsl
    go_enter Try.func72, Try.ntmps72
    go_wp2_with fail
    refine HP.out.mono ?_
    rintro e w1 ⟨v, rfl, hown, hb⟩
    have HO := Lib.hid hown
    clear hown
    go_wp2_with (at_builtin; refine Lib.wpList_append_own_string _ rfl _ _ 68 9 rfl w.heap.size 5 i0 Try.underlying68 Try.underlying9 hi hz0 hz1 hz2 v mid.length (cells mid) rfl ?b1 S rfl ?b2 ?b3 ?b4 ?b5)
    case b1 => exact HO.out
    case b2 => have := HL.out; unfold maxLen; omega
    case b3 => have := HL.out; omega
    case b4 => exact hb.size
    case b5 =>
      intro v' w2 hown2 hgrow hnil
      have hb2 : Below w.heap.size w w2 := hb.grown hgrow hb.size (fun g hg => (HO.out.lt g hg).1)
      rw [hsc.out] at hown2
      have HO2 := Lib.hid hown2
      clear hown2 hgrow hnil
      go_wp2
      go_ret
      exact HF.out _ _ HO2.out hb2

def RTextPost (bs : List UInt8) (w : World) (e : Ending) (w' : World) : Prop :=
  e = .returned (.tuple #[.string (str (Plain.getText bs).1), .int .i64 (Plain.getText bs).2.1, .int .i64 (Plain.getText bs).2.2]) ∧ w = w'
theorem rtpost (bs s : List UInt8) (S : ByteArray) (w : World) (k c : Nat) (K C : Int) (h : Plain.getText bs = (s, k, c)) (hs : str s = S) (hk : (k : Int) = K) (hc : (c : Int) = C) : RTextPost bs w (.returned (.tuple #[.string S, .int .i64 K, .int .i64 C])) w := by
  refine ⟨?_, rfl⟩
  rw [h, hs, hk, hc]

end Go.Proofs.Ythcchfhkeghkhaa
