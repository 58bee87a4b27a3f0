/-
  A slice of numbers of 64 bits that came in, opened. Nothing is assumed.
-/
import Derived.Test.YtldophaccbakoaaClose
namespace Go.Proofs.Ytldophaccbakoaa
open Go.ChangeShapes Go.WideShapes Go.ChangeAt Go.RowKit

/-- numbers of 64 bits as cells -/
def u64s (zs : List Nat) : List Value := zs.map fun n : Nat => .int .u64 (n : Int)
theorem u64s_length (zs : List Nat) : (u64s zs).length = zs.length := by simp [u64s]
theorem open_u64s {H : Type} {enc : TypeId × Value → H} {W : World} {r : Reach} {b0 : Nat} {v : Value} {d : DataW H} {ps : List MemPlace} (hval : Value.okWide Try.prog W r b0 39 v) (h : DataW.Trod enc Try.prog W 0 (fun _ => true) true 39 v d ps) (hlt : ∀ x ∈ ps, x.block < W.heap.size) :
    ∃ (A : Option Addr) (cap : Nat) (zs : List Nat), v = .slice A zs.length cap ∧ zs.length ≤ cap ∧ cap ≤ maxLen ∧ Lies W A (u64s zs) := by
  obtain ⟨a0, len, cap, rfl⟩ := okWide_slice Try.underlying39 hval
  obtain ⟨fuel, hf⟩ := h
  rcases open_ints Try.underlying39 Try.underlying34 (by kernel_rfl) hf with ⟨hcs, hx⟩ | ⟨a, len', cap', zs, hcs, _, hl, hm, hz, hx, hcell, hwz⟩
  · simp [Value.cells] at hcs
    obtain ⟨rfl, rfl, rfl⟩ := hcs
    exact ⟨none, 0, [], rfl, by simp, by unfold maxLen; omega, Lies.nil⟩
  · simp [Value.cells] at hcs
    obtain ⟨rfl, rfl, rfl⟩ := hcs
    simp only [Prod.mk.injEq] at hx
    obtain ⟨rfl, rfl⟩ := hx
    simp only [if_true] at hz
    have hlen : ((zs.take len).map Int.toNat).length = len := by simp; omega
    refine ⟨some a, cap, (zs.take len).map Int.toNat, by rw [hlen], by omega, hm, ?_⟩
    rcases Nat.eq_zero_or_pos len with h0 | h0
    · subst h0; exact .inl (by simp [u64s])
    · refine .inr ⟨a, rfl, hlt (.cell a.block a.off) (MemPlace.mem_row.2 ⟨0, by omega, by simp⟩), fun j u hu => ?_⟩
      have hj : j < len := by
        rcases Nat.lt_or_ge j len with h | h
        · exact h
        · rw [List.getElem?_eq_none (by rw [u64s_length, hlen]; exact h)] at hu; cases hu
      have hjz : j < zs.length := by omega
      have hw := bounds_u64 (hwz zs[j] (List.getElem_mem hjz))
      rw [hcell j hjz, ← hu]
      have e : ((zs[j].toNat : Nat) : Int) = zs[j] := by omega
      simp [u64s, hj, List.getElem?_eq_getElem hjz, e]
end Go.Proofs.Ytldophaccbakoaa
