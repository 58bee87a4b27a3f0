/-
  Bat1: Layer 4: a slice of spans in memory, batch.isBatch, and the laws' Great: what they answer, of any spans. Nothing is assumed but that the spans lie in memory.
  BatPut: Layer 4: batch.Put: the bytes that it makes, of any spans. Assumed: that the spans lie in memory, and that the program's table of sums holds what its text lays there.
  BatHd: Layer 4: bytes.HasPrefix, batch.takeHead and batch.takeSpans: what they answer, of any bytes. Assumed: that the bytes lie in memory, and that errors.errorType is what its own text lays.
  BatSp: Layer 4: batch.takeSpans: what it answers, of any bytes. Assumed: that the bytes lie in memory, and that errors.errorType is what its own text lays.
-/
import Derived.Test.YthcchfhkeghkhaaSpanO
import Derived.Test.YthcchfhkeghkhaaMath
import Derived.Test.YthcchfhkeghkhaaRef3
import Derived.RegionTactic
import Derived.BigRegion
import Derived.Test.YthcchfhkeghkhaaCrcC
import Derived.Lib.SlBytesConst
import Derived.Test.YthcchfhkeghkhaaSpanG

namespace Go.Proofs.Ythcchfhkeghkhaa
open Go.RowKit
set_option maxRecDepth 100000

/-- the k-th span's cells, in every later world, as the walk spells them -/
theorem at_span {w : World} {A : Option Addr} {l : List Plain.Sp} (h : Lies w A (flat l)) (k : Nat) (hk : k < l.length) :
    ∃ ad, A = some ad ∧ ad.block < w.heap.size ∧ ∀ u, Below w.heap.size w u → u.cell? (ad.add (k * 7)) = some (.int .i64 l[k].t) ∧ u.cell? ⟨(ad.add (k * 7)).block, (ad.add (k * 7)).off + 1, none⟩ = some (.int .i64 l[k].i) ∧ u.cell? ⟨(ad.add (k * 7)).block, (ad.add (k * 7)).off + 2, none⟩ = some (.int .i64 l[k].p) ∧ u.cell? ⟨(ad.add (k * 7)).block, (ad.add (k * 7)).off + 3, none⟩ = some (.int .i64 l[k].s) ∧ u.cell? ⟨(ad.add (k * 7)).block, (ad.add (k * 7)).off + 4, none⟩ = some (.int .i64 l[k].d) ∧ u.cell? ⟨(ad.add (k * 7)).block, (ad.add (k * 7)).off + 5, none⟩ = some (.string (str l[k].sv)) ∧ u.cell? ⟨(ad.add (k * 7)).block, (ad.add (k * 7)).off + 6, none⟩ = some (.string (str l[k].nm)) := by
  obtain ⟨ad, rfl, hadb, -⟩ := h.at_ (k := k * 7) (by rw [flat_length]; omega)
  refine ⟨ad, rfl, hadb, ?_⟩
  have hc2 : ∀ j u, (spanCells l[k])[j]? = some u → w.cell? ((ad.add (k * 7)).add j) = some u := fun j u hu => by
    have hj : j < 7 := by
      rcases Nat.lt_or_ge j 7 with h | h
      · exact h
      · rw [List.getElem?_eq_none (by rw [spanCells_length]; exact h)] at hu; cases hu
    have hf := flat_at l k j l[k] (List.getElem?_eq_getElem hk) hj
    rw [hu] at hf
    rw [addr_add]
    rcases h with h | ⟨ad', e, _, hc⟩
    · rw [h] at hf; simp at hf
    · injection e with e; subst e; exact hc _ _ hf
  have hpb : (ad.add (k * 7)).block < w.heap.size := by rw [addr_block]; exact hadb
  exact fun u hu => ⟨(hu.cell hpb).trans (hc2 0 _ rfl), (hu.cell (p := ⟨(ad.add (k * 7)).block, (ad.add (k * 7)).off + 1, none⟩) hpb).trans (hc2 1 _ rfl), (hu.cell (p := ⟨(ad.add (k * 7)).block, (ad.add (k * 7)).off + 2, none⟩) hpb).trans (hc2 2 _ rfl), (hu.cell (p := ⟨(ad.add (k * 7)).block, (ad.add (k * 7)).off + 3, none⟩) hpb).trans (hc2 3 _ rfl), (hu.cell (p := ⟨(ad.add (k * 7)).block, (ad.add (k * 7)).off + 4, none⟩) hpb).trans (hc2 4 _ rfl), (hu.cell (p := ⟨(ad.add (k * 7)).block, (ad.add (k * 7)).off + 5, none⟩) hpb).trans (hc2 5 _ rfl), (hu.cell (p := ⟨(ad.add (k * 7)).block, (ad.add (k * 7)).off + 6, none⟩) hpb).trans (hc2 6 _ rfl)⟩

/-- spans whose texts may be -/
def Fine (l : List Plain.Sp) : Prop := ∀ x ∈ l, x.sv.length ≤ maxLen ∧ x.nm.length ≤ maxLen
theorem sp_right (x : Plain.Sp) : Plain.rightN x.t x.i x.p x.s x.d (str x.sv).size (str x.nm).size = x.right := by rw [str_size, str_size]; rfl

end Go.Proofs.Ythcchfhkeghkhaa

namespace Go.Proofs.Ythcchfhkeghkhaa
open Go.RowKit
set_option maxRecDepth 100000

theorem lies_frz (w : World) (g : Nat) (xs : List Value) (cs : Array Value) (t : TypeId) (fr : Nat × Nat) (h : xs = cs.toList) (hg : w.heap.size = g) : Lies (w.alloc (.cells cs t fr)) (some ⟨g, 0, none⟩) xs := by
  subst h hg; exact .inr ⟨_, rfl, by simp, World.news_of_block (heap_alloc_new w _)⟩
theorem outp_right (x : Plain.Sp) (h : x.right = true) : x.outp = x.bytes := by unfold Plain.Sp.outp; rw [if_pos h]

end Go.Proofs.Ythcchfhkeghkhaa

namespace Go.Proofs.Ythcchfhkeghkhaa
open Go.RowKit
set_option maxRecDepth 100000

end Go.Proofs.Ythcchfhkeghkhaa

namespace Go.Proofs.Ythcchfhkeghkhaa
open Go.RowKit
set_option maxRecDepth 100000

theorem infoSp : (Try.prog.info? 45).map (fun i => (i.zero, i.size, i.bytes)) = some (some (.agg #[.int .i64 0, .int .i64 0, .int .i64 0, .int .i64 0, .int .i64 0, .string ⟨#[]⟩, .string ⟨#[]⟩]), 7, 72) := by kernel_rfl

/-- reading so many from here, with these got, comes to r -/
def RdsIs (x : List UInt8) (n a : Nat) (acc : List Plain.Sp) (r : List Plain.Sp × Nat × Nat) : Prop := ∀ q : Nat, q ≤ n → n ≤ q → Plain.rds x q a acc = r
theorem rds_far {x : List UInt8} {n a : Nat} {acc : List Plain.Sp} {r : List Plain.Sp × Nat × Nat} (h : Plain.rds x n a acc = r) : RdsIs x n a acc r := fun q h1 h2 => by rw [Nat.le_antisymm h1 h2]; exact h
theorem rds_near {x : List UInt8} {n a : Nat} {acc : List Plain.Sp} {r : List Plain.Sp × Nat × Nat} (h : RdsIs x n a acc r) : Plain.rds x n a acc = r := h n (Nat.le_refl _) (Nat.le_refl _)
theorem rds_stop {x : List UInt8} {n a e : Nat} {acc : List Plain.Sp} {r : List Plain.Sp × Nat × Nat} (h : RdsIs x (n + 1) a acc r) (hr : Plain.Sp.rd (x.drop a) = (Plain.Sp.zero, 0, e)) (he : e ≠ 0) : r = ([], a, e) := by
  have := rds_near h
  unfold Plain.rds at this
  rw [hr] at this
  simpa [he] using this.symm
theorem rds_go {x : List UInt8} {n a k : Nat} {s : Plain.Sp} {acc : List Plain.Sp} {r : List Plain.Sp × Nat × Nat} (h : RdsIs x (n + 1) a acc r) (hr : Plain.Sp.rd (x.drop a) = (s, k, 0)) : RdsIs x n (a + k) (acc ++ [s]) r := by
  have := rds_near h
  unfold Plain.rds at this
  rw [hr] at this
  exact rds_far (by simpa using this)
theorem rds_end {x : List UInt8} {a : Nat} {acc : List Plain.Sp} {r : List Plain.Sp × Nat × Nat} (h : RdsIs x 0 a acc r) : r = if a < x.length then ([], a, 12) else (acc, a, 0) := (rds_near h).symm

/-- a slice of spans that was handed back -/
def GivesS (w w' : World) (l : List Plain.Sp) (v : Value) : Prop := ∃ A cap, v = .slice A l.length cap ∧ l.length ≤ cap ∧ cap ≤ maxLen ∧ Lies w' A (flat l) ∧ Below w.heap.size w w'
theorem GivesS.nil {w w' : World} (h : Below w.heap.size w w') : GivesS w w' [] (.slice none 0 0) := ⟨none, 0, rfl, by simp, by unfold maxLen; omega, .inl rfl, h⟩
theorem GivesS.own {w w' : World} {l : List Plain.Sp} {v : Value} {B : Nat} (ho : w'.ownsRow B 45 7 v l.length (flat l)) (h : Below w.heap.size w w') : GivesS w w' l v := by
  rcases ho.2 with ⟨rfl, h0⟩ | ⟨g, cap, cur, rfl, hb, hg, h1, h2, h3⟩
  · have : l = [] := List.eq_nil_of_length_eq_zero h0
    subst this
    exact GivesS.nil h
  · exact ⟨_, cap, rfl, h1, h2, .inr ⟨_, rfl, (ho.lt g rfl).2, ho.cells (g := g) rfl⟩, h⟩

end Go.Proofs.Ythcchfhkeghkhaa
