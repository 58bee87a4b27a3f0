/-
  Layer 16: what came in: rows of calls (Op): how they lie in memory; turntablelaw16.great, of any calls. Nothing is assumed.
-/
import Derived.Test.YthcchfhkeghkhaaOpR
import Derived.Test.YthcchfhkeghkhaaBatC
import Derived.Test.YthcchfhkeghkhaaLwP
import Derived.BigRegion
import Derived.BigQuiet
import Derived.Deep.CutRange

namespace Go.Proofs.Ythcchfhkeghkhaa
open Go.ChangeShapes Go.WideShapes Go.ChangeAt Go.RowKit Go.Deep
set_option maxRecDepth 100000

/-- a call that came in -/
structure O16 where
  what : Int
  l : List Plain.Sp
  A : Option Addr
  cap : Nat
  id : Int
instance : Inhabited O16 := ⟨⟨0, [], none, 0, 0⟩⟩
def o16Cells (o : O16) : List Value := [.int .i64 o.what, .slice o.A o.l.length o.cap, .int .i64 o.id]
theorem o16Cells_length (o : O16) : (o16Cells o).length = 3 := rfl
def flatO16 (l : List O16) : List Value := l.flatMap o16Cells
structure O16In (w : World) (o : O16) : Prop where
  le : o.l.length ≤ o.cap
  cap : o.cap ≤ maxLen
  lies : Lies w o.A (flat o.l)
  fine : Fine o.l
theorem O16In.below {w w' : World} {o : O16} (h : O16In w o) (hb : Below w.heap.size w w') : O16In w' o := ⟨h.le, h.cap, h.lies.below hb, h.fine⟩

section
variable {H : Type} {enc : TypeId × Value → H} {W : World} {n : Nat} {y : DataW H × List MemPlace}
theorem trod16_i64 {v : Value} {base : Nat} {spare : Nat → Bool} {held : Bool} (h : DataW.trod enc Try.prog W base spare held n 2 [v] = some y) : ∃ x : Int, v = .int .i64 x := by
  obtain ⟨x, e, -, hw⟩ := DataW.trod_int Try.underlying2 h
  exact ⟨x, (by injection e)⟩
theorem trod16_int {v : Value} {base : Nat} {spare : Nat → Bool} {held : Bool} (h : DataW.trod enc Try.prog W base spare held n 3 [v] = some y) : ∃ x : Int, v = .int .i64 x := by
  obtain ⟨x, e, -, hw⟩ := DataW.trod_int Try.underlying3 h
  exact ⟨x, (by injection e)⟩
theorem o16_of {cs : List Value} (hc : cs.length = 3) (ht : DataW.trod enc Try.prog W 0 (fun _ => true) true n 31 cs = some y) (hlt : ∀ p ∈ y.2, p.block < W.heap.size) : ∃ o : O16, cs = o16Cells o ∧ O16In W o := by
  obtain ⟨ys, n', hn', hy, hlen, hyl, hfl⟩ := DataW.trod_struct Try.underlying31 ht
  have k1 : Try.prog.cellsOf 3 = 1 := by kernel_rfl
  have k2 : Try.prog.cellsOf 2 = 1 := by kernel_rfl
  have k3 : Try.prog.cellsOf 29 = 1 := by kernel_rfl
  match cs, hc with
  | [c0, c1, c2], _ =>
    match ys, hyl with
    | [y0, y1, y2], _ =>
      have h0 : DataW.trod enc Try.prog W 0 (fun _ => true) true n' 3 [c0] = some y0 := by have := hfl 0 _ rfl; simpa [k1, k2, k3] using this
      have h1 : DataW.trod enc Try.prog W 0 (fun _ => true) true n' 29 [c1] = some y1 := by have := hfl 1 _ rfl; simpa [k1, k2, k3] using this
      have h2 : DataW.trod enc Try.prog W 0 (fun _ => true) true n' 2 [c2] = some y2 := by have := hfl 2 _ rfl; simpa [k1, k2, k3] using this
      have hin : ∀ p ∈ y1.2, p.block < W.heap.size := fun p hp => hlt p (by rw [hy]; exact List.mem_flatMap.2 ⟨y1, by simp, hp⟩)
      obtain ⟨a0, rfl⟩ := trod16_int h0
      obtain ⟨A, cap, xs, rfl, l1, l2, l3, l4⟩ := read_spans13 h1 hin
      obtain ⟨a2, rfl⟩ := trod16_i64 h2
      exact ⟨⟨a0, xs, A, cap, a2⟩, rfl, l1, l2, l3, l4⟩
end
theorem open_ops16 {H : Type} {enc : TypeId × Value → H} {W : World} {r : Reach} {b0 : Nat} {v : Value} {d : DataW H} {ps : List MemPlace} (hval : Value.okWide Try.prog W r b0 22 v) (h : DataW.Trod enc Try.prog W 0 (fun _ => true) true 22 v d ps) (hlt : ∀ x ∈ ps, x.block < W.heap.size) :
    ∃ (A : Option Addr) (cap : Nat) (xs : List O16), v = .slice A xs.length cap ∧ xs.length ≤ cap ∧ cap ≤ maxLen ∧ Lies W A (flatO16 xs) ∧ ∀ u ∈ xs, O16In W u := by
  obtain ⟨fuel, hf⟩ := h
  have hone : v.cells.toList = [v] := cells_one_slice Try.underlying22 hval
  rw [hone] at hf
  exact read_rows o16Cells 3 o16Cells_length (by omega) (O16In W) Try.underlying22 (by kernel_rfl) (fun _ _ _ hc ht hl => o16_of hc ht hl) hf hlt
/-- the k-th call's cells, as the walk spells them -/
theorem at_o16 {w : World} {A : Option Addr} {l : List O16} (h : Lies w A (flatO16 l)) (k : Nat) (hk : k < l.length) :
    ∃ ad, A = some ad ∧ ad.block < w.heap.size ∧ ∀ u, Below w.heap.size w u → u.cell? (ad.add (k * 3)) = some (.int .i64 l[k].what) ∧ u.cell? ⟨(ad.add (k * 3)).block, (ad.add (k * 3)).off + 1, none⟩ = some (.slice l[k].A l[k].l.length l[k].cap) ∧ u.cell? ⟨(ad.add (k * 3)).block, (ad.add (k * 3)).off + 2, none⟩ = some (.int .i64 l[k].id) := by
  have hfl : (flatO16 l).length = l.length * 3 := flatMap_len o16Cells 3 o16Cells_length l
  obtain ⟨ad, rfl, hadb, -⟩ := h.at_ (k := k * 3) (by rw [hfl]; omega)
  refine ⟨ad, rfl, hadb, ?_⟩
  have hc2 : ∀ j u, (o16Cells l[k])[j]? = some u → w.cell? ((ad.add (k * 3)).add j) = some u := fun j u hu => by
    have hj : j < 3 := by
      rcases Nat.lt_or_ge j 3 with h | h
      · exact h
      · rw [List.getElem?_eq_none (by rw [o16Cells_length]; exact h)] at hu; cases hu
    have hf := flatMap_at o16Cells 3 o16Cells_length l k j l[k] (List.getElem?_eq_getElem hk) hj
    rw [hu] at hf
    rw [addr_add]
    rcases h with h | ⟨ad', e, _, hcl⟩
    · have : (flatO16 l).length = 0 := by rw [h]; rfl
      rw [hfl] at this; omega
    · injection e with e; subst e
      exact hcl _ _ hf
  intro u hu
  have key : ∀ j c, (o16Cells l[k])[j]? = some c → u.cell? ((ad.add (k * 3)).add j) = some c := fun j c hc => (hu.cell (by rw [addr_block, addr_block]; exact hadb)).trans (hc2 j c hc)
  have h0 : u.cell? (ad.add (k * 3)) = some (.int .i64 l[k].what) := by have := key 0 _ rfl; simpa [Addr.add] using this
  have key2 : ∀ j c, 0 < j → (o16Cells l[k])[j]? = some c → u.cell? ⟨(ad.add (k * 3)).block, (ad.add (k * 3)).off + j, none⟩ = some c := fun j c hj hc => by
    have := key j c hc
    obtain ⟨q, hq⟩ : ∃ q, ad.add (k * 3) = q := ⟨_, rfl⟩
    rw [hq] at this h0 ⊢
    obtain ⟨b, o, sp⟩ := q
    cases sp with
    | none => simpa [Addr.add, Nat.ne_of_gt hj] using this
    | some n =>
      simp only [World.cell?] at h0
      split at h0 <;> simp at h0
  exact ⟨h0, key2 1 _ (by omega) rfl, key2 2 _ (by omega) rfl⟩
end Go.Proofs.Ythcchfhkeghkhaa
