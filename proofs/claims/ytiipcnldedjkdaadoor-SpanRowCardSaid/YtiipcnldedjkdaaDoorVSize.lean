/-
  Layer 1: what bits.Len64 and vint.Size answer, for every argument. Nothing is assumed.
-/
import Derived.Test.YtiipcnldedjkdaaDoorMem
import Derived.Test.YtiipcnldedjkdaaDoorPlain
import Derived.WalkKit
import Derived.Handy
import Derived.Lib.Hide
namespace Go.Proofs.YtiipcnldedjkdaaDoor
open Go.RowKit

theorem size_no (n : Int) (w : World) (h : n < 0 ∨ 281474976710656 < n) :
    Calls Tryd.prog 48 #[.int .i64 n] w fun e w' => e = .returned (.int .i64 0) ∧ w = w' := by
  rcases h with h | h
  · go_enter Tryd.func48, Tryd.ntmps48
    go_wp2
    go_ret
    exact ⟨rfl, rfl⟩
  · have h' : ¬ n < 0 := by omega
    go_enter Tryd.func48, Tryd.ntmps48
    go_wp2
    go_ret
    exact ⟨rfl, rfl⟩

/-- how many bits a byte has, and so on upward -/
def bl8 (x : Nat) : Nat := if x < 1 then 0 else if x < 2 then 1 else if x < 4 then 2 else if x < 8 then 3 else if x < 16 then 4 else if x < 32 then 5 else if x < 64 then 6 else if x < 128 then 7 else 8
theorem tab_at (t : ByteArray) (ht : (List.range 256).all (fun i => (t.data.getD i 0).toNat == bl8 i) = true) (x : Nat) (h : x < 256) (h' : x < t.size) : t[x].toNat = bl8 x := by
  rw [List.all_eq_true] at ht
  have := ht x (by simpa using h)
  have hx : x < t.data.size := h'
  rw [Array.getD_eq_getD_getElem?, Array.getElem?_eq_getElem hx] at this
  have h2 : t.data[x].toNat = bl8 x := by simpa using this
  exact h2
theorem bl8_le (x : Nat) : bl8 x ≤ 8 := by
  unfold bl8; repeat' split
  all_goals omega
theorem tab_close (t : ByteArray) (ht : (List.range 256).all (fun i => (t.data.getD i 0).toNat == bl8 i) = true) (K : Int) (y : Int) (hK0 : 0 ≤ K) (hK : K ≤ 56) (h0 : 0 ≤ y) (h : y < 256) (h' : y.toNat < t.size) :
    wrap64 (K + wrap64 ((t[y.toNat].toNat : Nat) : Int)) = K + (bl8 y.toNat : Int) := by
  rw [tab_at t ht y.toNat (by omega) h']
  have := bl8_le y.toNat
  rw [IntWalk.wrap64_in (bl8 y.toNat : Int) (by omega), IntWalk.wrap64_in _ (by omega)]
theorem tab_close0 (t : ByteArray) (ht : (List.range 256).all (fun i => (t.data.getD i 0).toNat == bl8 i) = true) (y : Int) (h0 : 0 ≤ y) (h : y < 256) (h' : y.toNat < t.size) :
    wrap64 (wrap64 ((t[y.toNat].toNat : Nat) : Int)) = (bl8 y.toNat : Int) := by
  rw [tab_at t ht y.toNat (by omega) h']
  have := bl8_le y.toNat
  rw [IntWalk.wrap64_in (bl8 y.toNat : Int) (by omega), IntWalk.wrap64_in _ (by omega)]

/-- how many bits, as Len64 parts it -/
def bl (x : Int) : Int :=
  if 4294967296 ≤ x then (if 65536 ≤ x / 4294967296 then 48 + bl8 (x / 4294967296 / 65536).toNat else if 256 ≤ x / 4294967296 then 40 + bl8 (x / 4294967296 / 256).toNat else 32 + bl8 (x / 4294967296).toNat)
  else if 65536 ≤ x then (if 256 ≤ x / 65536 then 24 + bl8 (x / 65536 / 256).toNat else 16 + bl8 (x / 65536).toNat)
  else if 256 ≤ x then 8 + bl8 (x / 256).toNat else bl8 x.toNat

set_option maxRecDepth 100000 in
theorem len64_any (x : Int) (w : World) (h0 : 0 ≤ x) (h1 : x ≤ 562949953421311) :
    Calls Tryd.prog 53 #[.int .u64 x] w fun e w' => e = .returned (.int .i64 (bl x)) ∧ w = w' := by
  go_enter Tryd.func53, Tryd.ntmps53
  go_wp2
  all_goals go_ret
  all_goals refine ⟨ret_int ?_, rfl⟩
  all_goals unfold bl
  · rw [if_pos (by omega), if_pos (by omega)]; exact tab_close _ (by decide +kernel) _ _ (by omega) (by omega) (by omega) (by omega) _
  · rw [if_pos (by omega), if_neg (by omega), if_pos (by omega)]; exact tab_close _ (by decide +kernel) _ _ (by omega) (by omega) (by omega) (by omega) _
  · rw [if_pos (by omega), if_neg (by omega), if_neg (by omega)]; exact tab_close _ (by decide +kernel) _ _ (by omega) (by omega) (by omega) (by omega) _
  · rw [if_neg (by omega), if_pos (by omega), if_pos (by omega)]; exact tab_close _ (by decide +kernel) _ _ (by omega) (by omega) (by omega) (by omega) _
  · rw [if_neg (by omega), if_pos (by omega), if_neg (by omega)]; exact tab_close _ (by decide +kernel) _ _ (by omega) (by omega) (by omega) (by omega) _
  · rw [if_neg (by omega), if_neg (by omega), if_pos (by omega)]; exact tab_close _ (by decide +kernel) _ _ (by omega) (by omega) (by omega) (by omega) _
  · rw [if_neg (by omega), if_neg (by omega), if_neg (by omega)]; exact tab_close0 _ (by decide +kernel) _ (by omega) (by omega) _

/-- n | 1 -/
theorem or1 (n : Nat) : (n ||| 1) / 2 = n / 2 ∧ (n ||| 1) % 2 = 1 := by
  refine ⟨?_, ?_⟩
  · have := Nat.or_div_two_pow (n := 1) (a := n) (b := 1); simpa using this
  · rw [Nat.or_mod_two_eq_one]; right; rfl
theorem bl8_cases (y : Nat) : (y < 1 ∧ bl8 y = 0) ∨ (1 ≤ y ∧ y < 2 ∧ bl8 y = 1) ∨ (2 ≤ y ∧ y < 4 ∧ bl8 y = 2) ∨ (4 ≤ y ∧ y < 8 ∧ bl8 y = 3) ∨ (8 ≤ y ∧ y < 16 ∧ bl8 y = 4) ∨ (16 ≤ y ∧ y < 32 ∧ bl8 y = 5) ∨ (32 ≤ y ∧ y < 64 ∧ bl8 y = 6) ∨ (64 ≤ y ∧ y < 128 ∧ bl8 y = 7) ∨ (128 ≤ y ∧ bl8 y = 8) := by
  unfold bl8
  repeat' split
  all_goals omega
theorem sz_cases (n : Nat) : (n < 128 ∧ Plain.sz n = 1) ∨ (128 ≤ n ∧ n < 16384 ∧ Plain.sz n = 2) ∨ (16384 ≤ n ∧ n < 2097152 ∧ Plain.sz n = 3) ∨ (2097152 ≤ n ∧ n < 268435456 ∧ Plain.sz n = 4) ∨ (268435456 ≤ n ∧ n < 34359738368 ∧ Plain.sz n = 5) ∨ (34359738368 ≤ n ∧ n < 4398046511104 ∧ Plain.sz n = 6) ∨ (4398046511104 ≤ n ∧ Plain.sz n = 7) := by
  unfold Plain.sz
  repeat' split
  all_goals omega
theorem sz_bl (n : Nat) (x : Int) (hn : n ≤ 281474976710656) (hx0 : 0 ≤ x) (hx1 : x / 2 = n / 2) (hx2 : x % 2 = 1) : (bl x + 6) / 7 = Plain.sz n ∧ 0 ≤ bl x ∧ bl x ≤ 64 := by
  have hs := sz_cases n
  generalize Plain.sz n = q at *
  unfold bl
  split
  · split
    · have hb := bl8_cases (x / 4294967296 / 65536).toNat; generalize hq : bl8 (x / 4294967296 / 65536).toNat = z at *; clear hq; omega
    · split
      · have hb := bl8_cases (x / 4294967296 / 256).toNat; generalize hq : bl8 (x / 4294967296 / 256).toNat = z at *; clear hq; omega
      · have hb := bl8_cases (x / 4294967296).toNat; generalize hq : bl8 (x / 4294967296).toNat = z at *; clear hq; omega
  · split
    · split
      · have hb := bl8_cases (x / 65536 / 256).toNat; generalize hq : bl8 (x / 65536 / 256).toNat = z at *; clear hq; omega
      · have hb := bl8_cases (x / 65536).toNat; generalize hq : bl8 (x / 65536).toNat = z at *; clear hq; omega
    · split
      · have hb := bl8_cases (x / 256).toNat; generalize hq : bl8 (x / 256).toNat = z at *; clear hq; omega
      · have hb := bl8_cases x.toNat; generalize hq : bl8 x.toNat = z at *; clear hq; omega

theorem size_yes (n : Nat) (w : World) (h : n ≤ 281474976710656) :
    Calls Tryd.prog 48 #[.int .i64 n] w fun e w' => e = .returned (.int .i64 (Plain.sz n)) ∧ w = w' := by
  have h1 := or1 n
  have hs := sz_bl n ((n ||| 1 : Nat) : Int) h (by omega) (by omega) (by omega)
  have ho : bits .or .u64 (n : Int) 1 = ((n ||| 1 : Nat) : Int) := u64_or_nat n 1 (by omega) (by omega)
  have hb : (n ||| 1) ≤ 562949953421311 := by omega
  have HO := Lib.hid ho
  have H1 := Lib.hid h1
  have HS := Lib.hid hs
  clear ho h1 hs
  generalize (n ||| 1 : Nat) = x at *
  go_enter Tryd.func48, Tryd.ntmps48
  go_wp2_with fail
  rw [HO.out]
  refine (len64_any (x : Int) _ (by omega) (by omega)).mono ?_
  rintro e w' ⟨rfl, rfl⟩
  have hb0 := HS.out.2.1
  have hb1 := HS.out.2.2
  go_wp2
  go_ret
  refine ⟨ret_int ?_, rfl⟩
  have := HS.out.1
  omega

/-- Size, of any integer. -/
theorem size_any (n : Int) (w : World) : Calls Tryd.prog 48 #[.int .i64 n] w fun e w' => e = .returned (.int .i64 (Plain.size n)) ∧ w = w' := by
  unfold Plain.size
  split
  · rename_i h
    obtain ⟨m, rfl⟩ := Int.eq_ofNat_of_zero_le h.1
    exact size_yes m w (by omega)
  · exact size_no n w (by omega)
end Go.Proofs.YtiipcnldedjkdaaDoor
