/-
  Layer 15: what came in: rows of entries, an Ask: how they lie in memory. Nothing is assumed.
-/
import Derived.Test.YtcoedohfggeaiaaQyA

namespace Go.Proofs.Ytcoedohfggeaiaa
open Go.ChangeShapes Go.WideShapes Go.ChangeAt Go.RowKit Go.Deep En
set_option maxRecDepth 100000

/-- an Ask that came in -/
structure AskIn (a : Qy.A) : Prop where
  lo : I64 a.lo
  hi : I64 a.hi
  cl : I64 a.cl
  tk : I64 a.tk
  id : I64 a.id
  lim : I64 a.lim

theorem open_ents {H : Type} {enc : TypeId × Value → H} {W : World} {r : Reach} {b0 : Nat} {v : Value} {d : DataW H} {ps : List MemPlace} (hval : Value.okWide Try.prog W r b0 22 v) (h : DataW.Trod enc Try.prog W 0 (fun _ => true) true 22 v d ps) (hlt : ∀ x ∈ ps, x.block < W.heap.size) :
    ∃ (A : Option Addr) (cap : Nat) (xs : List Ent), v = .slice A xs.length cap ∧ xs.length ≤ cap ∧ cap ≤ maxLen ∧ Lies W A (flatEn xs) ∧ ∀ u ∈ xs, EntIn W u := by
  obtain ⟨fuel, hf⟩ := h
  have hone : v.cells.toList = [v] := cells_one_slice Try.underlying22 hval
  rw [hone] at hf
  exact read_rows entCs 13 entCs_length (by omega) (EntIn W) Try.underlying22 (by kernel_rfl) (fun _ _ _ hc ht hl => ent_of hc ht hl) hf hlt
theorem open_ask {H : Type} {enc : TypeId × Value → H} {W : World} {r : Reach} {b0 : Nat} {v : Value} {d : DataW H} {ps : List MemPlace} (hval : Value.okWide Try.prog W r b0 31 v) (h : DataW.Trod enc Try.prog W 0 (fun _ => true) true 31 v d ps) :
    ∃ (a : Qy.A), v = .agg (askA a) ∧ AskIn a := by
  obtain ⟨cs, rfl, hsz⟩ := okWide_struct Try.underlying31 hval
  have hC : Try.prog.cellsOf 31 = 7 := by kernel_rfl
  obtain ⟨fuel, hf⟩ := h
  have hc : cs.toList.length = 7 := by simpa using hsz.trans hC
  have ht : DataW.trod enc Try.prog W 0 (fun _ => true) true fuel 31 cs.toList = some (d, ps) := hf
  clear hf hval hsz
  obtain ⟨L, hL⟩ : ∃ L, cs.toList = L := ⟨_, rfl⟩
  rw [hL] at hc ht
  obtain ⟨ys, n', hn', hy, hlen, hyl, hfl⟩ := DataW.trod_struct Try.underlying31 ht
  have k1 : Try.prog.cellsOf 3 = 1 := by kernel_rfl
  have k2 : Try.prog.cellsOf 2 = 1 := by kernel_rfl
  have k3 : Try.prog.cellsOf 9 = 1 := by kernel_rfl
  match L, hc with
  | [c0, c1, c2, c3, c4, c5, c6], _ =>
    match ys, hyl with
    | [y0, y1, y2, y3, y4, y5, y6], _ =>
      have h0 : DataW.trod enc Try.prog W 0 (fun _ => true) true n' 9 [c0] = some y0 := by have := hfl 0 _ rfl; simpa [k1, k2, k3] using this
      have h1 : DataW.trod enc Try.prog W 0 (fun _ => true) true n' 2 [c1] = some y1 := by have := hfl 1 _ rfl; simpa [k1, k2, k3] using this
      have h2 : DataW.trod enc Try.prog W 0 (fun _ => true) true n' 2 [c2] = some y2 := by have := hfl 2 _ rfl; simpa [k1, k2, k3] using this
      have h3 : DataW.trod enc Try.prog W 0 (fun _ => true) true n' 3 [c3] = some y3 := by have := hfl 3 _ rfl; simpa [k1, k2, k3] using this
      have h4 : DataW.trod enc Try.prog W 0 (fun _ => true) true n' 2 [c4] = some y4 := by have := hfl 4 _ rfl; simpa [k1, k2, k3] using this
      have h5 : DataW.trod enc Try.prog W 0 (fun _ => true) true n' 2 [c5] = some y5 := by have := hfl 5 _ rfl; simpa [k1, k2, k3] using this
      have h6 : DataW.trod enc Try.prog W 0 (fun _ => true) true n' 3 [c6] = some y6 := by have := hfl 6 _ rfl; simpa [k1, k2, k3] using this
      obtain ⟨s, e, -⟩ := DataW.trod_string Try.underlying9 h0
      injection e with e
      obtain ⟨a1, rfl, i1⟩ := trodA_int64 h1
      obtain ⟨a2, rfl, i2⟩ := trodA_int64 h2
      obtain ⟨a3, rfl, i3⟩ := trodA_int h3
      obtain ⟨a4, rfl, i4⟩ := trodA_int64 h4
      obtain ⟨a5, rfl, i5⟩ := trodA_int64 h5
      obtain ⟨a6, rfl, i6⟩ := trodA_int h6
      refine ⟨⟨s.data.toList, a1, a2, a3, a4, a5, a6⟩, ?_, i1, i2, i3, i4, i5, i6⟩
      congr 1
      apply Array.toList_inj.1
      rw [hL, e]
      rfl
end Go.Proofs.Ytcoedohfggeaiaa
