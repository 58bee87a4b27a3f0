/-
  Layer 7: numbers and bits as a sector's bits turn. Nothing is assumed.
-/
import Derived.Test.YtldecmodhppjpaaDvR
import Derived.Laws.BitsAllLaws

namespace Go.Proofs.Ytldecmodhppjpaa
open Go.RowKit
set_option maxRecDepth 100000

theorem quo8 (W : World) (p : Nat) (hp : p < 1000) : (binOp .quo 3 (.int .i64 (p : Int)) (.int .i64 8)).run Try.prog W = .ok (.int .i64 ((p / 8 : Nat) : Int)) W := by
  have h0 : (0 : Int) ≤ (p : Int) := by omega
  have h1 : (p : Int) ≤ 1000 := by omega
  go_simp
  rw [IntKind.wrap_i64]
  omega
theorem rem8 (W : World) (p : Nat) (hp : p < 1000) : (binOp .rem 3 (.int .i64 (p : Int)) (.int .i64 8)).run Try.prog W = .ok (.int .i64 ((p % 8 : Nat) : Int)) W := by
  have h0 : (0 : Int) ≤ (p : Int) := by omega
  have h1 : (p : Int) ≤ 1000 := by omega
  go_simp
  exact Int.tmod_eq_emod_of_nonneg h0
theorem and1 (W : World) (x : Nat) (hx : x < 4294967296) : (binOp .and 49 (.int .u32 (x : Int)) (.int .u32 1)).run Try.prog W = .ok (.int .u32 ((x % 2 : Nat) : Int)) W := by
  have h := u32_and_nat x 1 hx (by omega)
  rw [Nat.and_one_is_mod] at h
  go_simp
  exact h
theorem conv8 (W : World) (b : Nat) (hb : b < 2) : (convert 49 5 (.int .u32 (b : Int))).run Try.prog W = .ok (.int .u8 (b : Int)) W := by
  rcases b with _ | _ | b
  · kernel_rfl
  · kernel_rfl
  · omega
theorem shl8 (W : World) (b e : Nat) (hb : b < 2) (he : e < 8) : (binOp .shl 5 (.int .u8 (b : Int)) (.int .i64 (e : Int))).run Try.prog W = .ok (.int .u8 ((b * 2 ^ e : Nat) : Int)) W := by
  have hb' : b = 0 ∨ b = 1 := by omega
  have he' : e = 0 ∨ e = 1 ∨ e = 2 ∨ e = 3 ∨ e = 4 ∨ e = 5 ∨ e = 6 ∨ e = 7 := by omega
  rcases hb' with rfl | rfl <;> rcases he' with rfl | rfl | rfl | rfl | rfl | rfl | rfl | rfl <;> first | rfl | go_simp
theorem shl_toNat (e : Nat) (he : e < 8) : ((1 : UInt8) <<< UInt8.ofNat e).toNat = 2 ^ e := by
  have he' : e = 0 ∨ e = 1 ∨ e = 2 ∨ e = 3 ∨ e = 4 ∨ e = 5 ∨ e = 6 ∨ e = 7 := by omega
  rcases he' with rfl | rfl | rfl | rfl | rfl | rfl | rfl | rfl <;> decide
/-- a byte of which a bit turns, or none -/
def turned1 (c : UInt8) (b e : Nat) : UInt8 := if b = 1 then c ^^^ ((1 : UInt8) <<< UInt8.ofNat e) else c
theorem xor8 (W : World) (c : UInt8) (b e : Nat) (hb : b < 2) (he : e < 8) : (binOp .xor 5 (.int .u8 (c.toNat : Int)) (.int .u8 ((b * 2 ^ e : Nat) : Int))).run Try.prog W = .ok (.int .u8 ((turned1 c b e).toNat : Int)) W := by
  have hc : c.toNat < 256 := c.toNat_lt
  have hz : b * 2 ^ e < 256 := by
    have : 2 ^ e ≤ 2 ^ 7 := Nat.pow_le_pow_right (by omega) (by omega)
    have hb' : b = 0 ∨ b = 1 := by omega
    rcases hb' with rfl | rfl <;> omega
  have h := u8_xor_nat c.toNat (b * 2 ^ e) hc hz
  have h2 : (turned1 c b e).toNat = c.toNat ^^^ (b * 2 ^ e) := by
    unfold turned1
    have hb' : b = 0 ∨ b = 1 := by omega
    rcases hb' with rfl | rfl
    · simp
    · rw [if_pos rfl, UInt8.toNat_xor, shl_toNat e he, Nat.one_mul]
  rw [h2]
  generalize b * 2 ^ e = z at *
  go_simp
theorem shr1 (W : World) (x : Nat) : (binOp .shr 49 (.int .u32 (x : Int)) (.int .u64 1)).run Try.prog W = .ok (.int .u32 ((x / 2 : Nat) : Int)) W := by
  go_simp
theorem run_indexArr (W : World) (g o m : Nat) (hm : m < 64) : (Instr.indexAt 66 (.pointer (some ⟨g, o, none⟩)) (.int .i64 (m : Int))).run Try.prog W = .ok (.pointer (some ⟨g, o + m, none⟩)) W := by
  have h0 : (0 : Int) ≤ (m : Int) := by omega
  have h1 : (m : Int) < 64 := by omega
  have e : (⟨g, o, none⟩ : Addr).add m = ⟨g, o + m, none⟩ := Addr.add_mid g o m
  go_simp
end Go.Proofs.Ytldecmodhppjpaa
