/-
  Layer 9, the document's answer (turntableref09): its put and number. Assumed: that the bytes lie in memory.
-/
import Derived.Test.YtbjaieopjkbijaaDoorL9S
import Derived.Test.YtbjaieopjkbijaaDoorRf8

namespace Go.Proofs.YtbjaieopjkbijaaDoor
open Go.RowKit
set_option maxRecDepth 100000

set_option maxHeartbeats 2000000 in
theorem rnumber_walk (A : Option Addr) (cap n : Nat) (bs : List UInt8) (w : World) (hn : bs.length = n) (hn4 : n ≤ 4) (hA : Lies w A (cells bs)) :
    Calls Tryd.prog 28 #[.slice A n cap] w fun e w' => e = .returned (.int .i64 (Tb.num bs : Int)) ∧ w = w' := by
  have HN := Lib.hid hn
  have HA := Lib.hid hA
  clear hA hn
  go_enter Tryd.func28, Tryd.ntmps28
  go_wp2_with fail
  go_loopw [3, 4] (fun vs vi wr => wr = w ∧ ∃ k : Nat, k ≤ n ∧ vi = .int .i64 ((k : Int) - 1) ∧ vs = .int .i64 (Tb.num (bs.drop k) : Int)) (fun _ vi _ => (intOf vi + 1).toNat)
  case atStart => exact ⟨rfl, n, Nat.le_refl _, rfl, by rw [← HN.out, List.drop_length]; rfl⟩
  case round =>
    obtain ⟨rfl, k, hk, rfl, rfl⟩ := hrel
    rcases Nat.eq_zero_or_pos k with rfl | hk0
    · go_wp2
      go_ret
      exact ⟨by rw [List.drop_zero]; rfl, rfl⟩
    · obtain ⟨m, rfl⟩ : ∃ m, k = m + 1 := ⟨k - 1, by omega⟩
      have hml : m < bs.length := by have := HN.out; omega
      obtain ⟨ad, rfl, hadb, hc⟩ := HA.out.at_ (k := m) (by rw [cells_length]; exact hml)
      rw [cells_at bs m hml] at hc
      have HD := Lib.hid (show Tb.num (bs.drop m) = bs[m].toNat + 256 * Tb.num (bs.drop (m + 1)) by rw [List.drop_eq_getElem_cons hml, Tb.num])
      have hlt := Tb.num_lt (bs.drop (m + 1))
      have hle : 256 ^ (bs.drop (m + 1)).length ≤ 256 ^ 3 := Nat.pow_le_pow_right (by omega) (by rw [List.length_drop]; have := HN.out; omega)
      have hcv := bs[m].toNat_lt
      generalize bs[m].toNat = c at *
      generalize Tb.num (bs.drop (m + 1)) = v at *
      have hv : v < 16777216 := by omega
      have HMN := Lib.hid (show m ≤ n by omega)
      clear hlt hle hk0
      have ecast : ((m + 1 : Nat) : Int) - 1 = (m : Int) := by omega
      rw [ecast]
      clear ecast
      go_wp2
      go_roundw
      case rel => exact ⟨by trivial, m, HMN.out, by go_num, by rw [HD.out]; go_num⟩
      case measure => first | omega | (simp [intOf]; done) | (simp [intOf]; omega)

set_option maxHeartbeats 2000000 in
/-- the document's put: behind bytes of one's own -/
theorem rputn_walk (B k L x : Nat) (hk : k ≤ 4) (hx : x < 4611686018427387904) (v : Value) (bs : List UInt8) (w : World) (hB : B ≤ w.heap.size) (hL9 : L ≤ 64) (hown : w.ownsRow B 5 1 v L (cells bs)) :
    Calls Tryd.prog 38 #[v, .int .i64 (x : Int), .int .i64 (k : Int)] w fun e w' => ∃ v', e = .returned v' ∧ w'.ownsRow B 5 1 v' (L + k) (cells (bs ++ Tb.le k x)) ∧ Below B w w' ∧ Grew w v w' v' := by
  obtain ⟨i0, hi, hz0, hz1, hz2⟩ := info_parts infoU8
  have HOWN := Lib.hid hown
  obtain ⟨A0, cap0, rfl, -, -, -, -⟩ := own_form hown
  clear hown
  go_enter Tryd.func38, Tryd.ntmps38
  go_wp2_with fail
  go_loopw [0, 1, 7] (fun vb vx vi wr => ∃ i : Nat, vi = .int .i64 i ∧ i ≤ k ∧ vx = .int .i64 ((x / 256 ^ i : Nat) : Int) ∧ wr.ownsRow B 5 1 vb (L + i) (cells (bs ++ Tb.le i x)) ∧ Below B w wr ∧ Grew w (.slice A0 L cap0) wr vb) (fun _ _ vi _ => k - (intOf vi).toNat)
  case atStart => exact ⟨0, rfl, by omega, by simp, by simpa [Tb.le] using HOWN.out, Below.refl _ _, Grew.refl _ _⟩
  case round =>
    obtain ⟨i, rfl, hik, rfl, hown, hbr, hgr⟩ := hrel
    have HOW := Lib.hid hown
    have HGR := Lib.hid hgr
    have hsz : B ≤ wr.heap.size := Nat.le_trans hB hbr.size
    clear hgr
    by_cases hi4 : i < k
    · have HV := Lib.hid (show cells (bs ++ Tb.le i x) ++ [.int .u8 (((x / 256 ^ i : Nat) : Int) % 256)] = cells (bs ++ Tb.le (i + 1) x) by
        rw [le_snoc, ← List.append_assoc, cells_append (bs ++ Tb.le i x)]
        congr 1)
      have HDV := Lib.hid (show x / 256 ^ i / 256 = x / 256 ^ (i + 1) by rw [Nat.div_div_eq_div_mul, Nat.pow_succ])
      obtain ⟨y, hy⟩ : ∃ y, x / 256 ^ i = y := ⟨_, rfl⟩
      rw [hy] at HV HDV ⊢
      have hyx : y < 4611686018427387904 := by rw [← hy]; exact Nat.lt_of_le_of_lt (Nat.div_le_self _ _) hx
      obtain ⟨AQ, capq, rfl, -, -, -, -⟩ := own_form hown
      clear hown hy
      go_wp2_with (at_builtin; refine wpList_app rfl _ _ 25 rfl B 5 i0 (.int .u8 0) Tryd.underlying25 hi hz0 hz1 hz2 rfl (.slice AQ (L + i) capq) (L + i) (cells (bs ++ Tb.le i x)) rfl ?a1 (some ⟨wr.heap.size, 0, none⟩) 1 1 [.int .u8 ((y : Int) % 256)] rfl rfl ?a2 ?a3 ?a4 ?a5 ?a6)
      case a1 => exact HOW.out.alloc _
      case a2 => exact Lies.new wr #[.int .u8 ((y : Int) % 256)] 5
      case a3 => simp [Value.oneCell']
      case a4 => omega
      case a5 => simp; omega
      case a6 =>
        intro v1 w1 hown1 hg1 hat1
        have b1 : Below B w w1 := (hbr.alloc hsz _).grown hg1 (by simp; omega) (fun g hg => (HOW.out.lt g hg).1)
        rw [HV.out] at hown1
        have HG1 := Lib.hid ((HGR.out.alloc (.cells #[.int .u8 ((y : Int) % 256)] 5)).step hg1 (by simpa using hat1))
        have HO1 := Lib.hid hown1
        have HB1 := Lib.hid b1
        have HII := Lib.hid (show i + 1 ≤ k by omega)
        clear hown1 b1 hg1 hat1
        go_wp2
        go_roundw
        case rel => exact ⟨i + 1, by go_num, HII.out, by rw [← HDV.out, Int.natCast_ediv]; rfl, by rw [← Nat.add_assoc]; exact HO1.out, HB1.out, HG1.out⟩
        case measure => have := HII.out; first | omega | (simp [intOf]; omega)
    · obtain rfl : i = k := by omega
      clear hown
      go_wp2
      go_ret
      exact ⟨_, rfl, HOW.out, hbr, HGR.out⟩
end Go.Proofs.YtbjaieopjkbijaaDoor
