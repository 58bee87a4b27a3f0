/-
  Layer 17: a Geo, and a row of numbers of 16 bits, that came in, opened. Nothing is assumed.
-/
import Derived.Test.YtgicjdlpkphfnaaBase
import Derived.Test.YtgicjdlpkphfnaaMath17
import Derived.ChangeSame
import Derived.JoinedOf
import Derived.Deep.Slices
import Derived.Deep.Fields

namespace Go.Proofs.Ytgicjdlpkphfnaa
open Go.ChangeShapes Go.WideShapes Go.ChangeAt Go.RowKit Go.Deep
set_option maxRecDepth 100000

theorem trodG_int {H : Type} {enc : TypeId × Value → H} {w : World} {base : Nat} {spare : Nat → Bool} {held : Bool} {n : Nat} {v : Value} {y : DataW H × List MemPlace} (h : DataW.trod enc Try.prog w base spare held n 3 [v] = some y) : ∃ x : Int, v = .int .i64 x := by
  obtain ⟨x, e, -, -⟩ := DataW.trod_int Try.underlying3 h
  exact ⟨x, by injection e⟩
theorem open_geo {H : Type} {enc : TypeId × Value → H} {W : World} {r : Reach} {b0 : Nat} {v : Value} {d : DataW H} {ps : List MemPlace} (hval : Value.okWide Try.prog W r b0 23 v) (h : DataW.Trod enc Try.prog W 0 (fun _ => true) true 23 v d ps) :
    ∃ g : Ge.G, v = .agg #[.int .i64 g.E, .int .i64 g.S, .int .i64 g.M] := by
  obtain ⟨cs, rfl, hsz⟩ := okWide_struct Try.underlying23 hval
  have hC : Try.prog.cellsOf 23 = 3 := by kernel_rfl
  obtain ⟨fuel, hf⟩ := h
  have hc : cs.toList.length = 3 := by simpa using hsz.trans hC
  have ht : DataW.trod enc Try.prog W 0 (fun _ => true) true fuel 23 cs.toList = some (d, ps) := hf
  clear hf hval hsz
  obtain ⟨L, hL⟩ : ∃ L, cs.toList = L := ⟨_, rfl⟩
  rw [hL] at hc ht
  obtain ⟨ys, n', hn', hy, hlen, hyl, hfl⟩ := DataW.trod_struct Try.underlying23 ht
  have k1 : Try.prog.cellsOf 3 = 1 := by kernel_rfl
  match L, hc with
  | [c0, c1, c2], _ =>
    match ys, hyl with
    | [y0, y1, y2], _ =>
      have h0 : DataW.trod enc Try.prog W 0 (fun _ => true) true n' 3 [c0] = some y0 := by have := hfl 0 _ rfl; simpa [k1] using this
      have h1 : DataW.trod enc Try.prog W 0 (fun _ => true) true n' 3 [c1] = some y1 := by have := hfl 1 _ rfl; simpa [k1] using this
      have h2 : DataW.trod enc Try.prog W 0 (fun _ => true) true n' 3 [c2] = some y2 := by have := hfl 2 _ rfl; simpa [k1] using this
      obtain ⟨a0, rfl⟩ := trodG_int h0
      obtain ⟨a1, rfl⟩ := trodG_int h1
      obtain ⟨a2, rfl⟩ := trodG_int h2
      refine ⟨⟨a0, a1, a2⟩, ?_⟩
      congr 1
      apply Array.toList_inj.1
      exact hL

theorem open_u16s {H : Type} {enc : TypeId × Value → H} {W : World} {r : Reach} {b0 : Nat} {v : Value} {d : DataW H} {ps : List MemPlace} (hval : Value.okWide Try.prog W r b0 36 v) (h : DataW.Trod enc Try.prog W 0 (fun _ => true) true 36 v d ps) (hlt : ∀ x ∈ ps, x.block < W.heap.size) :
    ∃ (A : Option Addr) (cap : Nat) (zs : List Int), v = .slice A zs.length cap ∧ zs.length ≤ cap ∧ cap ≤ maxLen ∧ Lies W A (zs.map fun x => .int .u16 x) ∧ ∀ x ∈ zs, 0 ≤ x ∧ x ≤ 65535 := by
  obtain ⟨a0, len, cap, rfl⟩ := okWide_slice Try.underlying36 hval
  obtain ⟨fuel, hf⟩ := h
  rcases open_ints Try.underlying36 Try.underlying37 (by kernel_rfl) hf with ⟨hcs, hx⟩ | ⟨a, len', cap', zs, hcs, _, hl, hm, hz, hx, hcell, hwz⟩
  · simp [Value.cells] at hcs
    obtain ⟨rfl, rfl, rfl⟩ := hcs
    exact ⟨none, 0, [], rfl, by simp, by unfold maxLen; omega, Lies.nil, by simp⟩
  · simp [Value.cells] at hcs
    obtain ⟨rfl, rfl, rfl⟩ := hcs
    simp only [Prod.mk.injEq] at hx
    obtain ⟨rfl, rfl⟩ := hx
    simp only [if_true] at hz
    have hlen : (zs.take len).length = len := by simp; omega
    refine ⟨some a, cap, zs.take len, by rw [hlen], by omega, hm, ?_, fun x hx => bounds_u16 (hwz x (List.mem_of_mem_take hx))⟩
    rcases Nat.eq_zero_or_pos len with h0 | h0
    · subst h0; exact .inl (by simp)
    · refine .inr ⟨a, rfl, hlt (.cell a.block a.off) (MemPlace.mem_row.2 ⟨0, by omega, by simp⟩), fun j u hu => ?_⟩
      have hj : j < len := by
        rcases Nat.lt_or_ge j len with h | h
        · exact h
        · rw [List.getElem?_eq_none (by rw [List.length_map, hlen]; exact h)] at hu; cases hu
      have hjz : j < zs.length := by omega
      rw [hcell j hjz, ← hu]
      simp [hj, List.getElem?_eq_getElem hjz]
end Go.Proofs.Ytgicjdlpkphfnaa
