/-
  Layer 14: what came in: rows of calls (Op), an entry: how they lie in memory. Nothing is assumed.
-/
import Derived.Test.YtepfbpljkhchbaaEnK
import Derived.Test.YtepfbpljkhchbaaRd
import Derived.Test.YtepfbpljkhchbaaEnC

namespace Go.Proofs.Ytepfbpljkhchbaa
open Go.ChangeShapes Go.WideShapes Go.ChangeAt Go.RowKit Go.Deep En
set_option maxRecDepth 100000

/-- a call that came in -/
structure Opq where
  what : Int
  t : Ent
  id : Int
  is : Bool
  cl : Int
  sq : Int
  pl : Int
  sz : Int
instance : Inhabited Opq := ⟨⟨0, default, 0, false, 0, 0, 0, 0⟩⟩
def opA (o : Opq) : Array Value := #[.int .i64 o.what, .int .i64 o.t.e.id, .int .i64 o.t.e.cl, .int .i64 o.t.e.tick, .int .i64 o.t.e.cost, .bool o.t.e.pin, .int .i64 o.t.e.bid, .int .i64 o.t.e.lo, .int .i64 o.t.e.hi, .int .i64 o.t.e.many, .slice o.t.A o.t.e.sv.length o.t.cap, .int .i64 o.t.e.seq, .int .i64 o.t.e.pl, .int .i64 o.t.e.sz, .int .i64 o.id, .bool o.is, .int .i64 o.cl, .int .i64 o.sq, .int .i64 o.pl, .int .i64 o.sz]
def opCells (o : Opq) : List Value := (opA o).toList
theorem opCells_length (o : Opq) : (opCells o).length = 20 := rfl
def flatO (l : List Opq) : List Value := l.flatMap opCells
/-- an entry that came in -/
structure EntIn (w : World) (t : Ent) : Prop where
  id : I64 t.e.id
  le : t.e.sv.length ≤ t.cap
  cap : t.cap ≤ maxLen
  lies : Lies w t.A (strs t.e.sv)
theorem EntIn.below {w w' : World} {t : Ent} (h : EntIn w t) (hb : Below w.heap.size w w') : EntIn w' t := ⟨h.id, h.le, h.cap, h.lies.below hb⟩
theorem EntIn.svs {w : World} {t : Ent} (h : EntIn w t) (h9 : t.e.sv.length ≤ 9000) : Svs w t.e.sv t.A t.cap := ⟨h9, h.le, h.cap, h.lies⟩
structure OpIn (w : World) (o : Opq) : Prop where
  t : EntIn w o.t
  id : I64 o.id

section
variable {H : Type} {enc : TypeId × Value → H} {W : World} {n : Nat} {y : DataW H × List MemPlace}
theorem trodA_int64 {v : Value} {base : Nat} {spare : Nat → Bool} {held : Bool} (h : DataW.trod enc Try.prog W base spare held n 2 [v] = some y) : ∃ x : Int, v = .int .i64 x ∧ I64 x := by
  obtain ⟨x, e, -, hw⟩ := DataW.trod_int Try.underlying2 h
  have := bounds_i64 hw
  exact ⟨x, (by injection e), by unfold I64; omega⟩
theorem read_texts {v : Value} (h : DataW.trod enc Try.prog W 0 (fun _ => true) true n 31 [v] = some y) (hlt : ∀ p ∈ y.2, p.block < W.heap.size) :
    ∃ (A : Option Addr) (cap : Nat) (bs : List (List UInt8)), v = .slice A bs.length cap ∧ bs.length ≤ cap ∧ cap ≤ maxLen ∧ Lies W A (strs bs) := by
  obtain ⟨A, cap, xs, h1, h2, h3, h4, -⟩ := read_rows (fun s : List UInt8 => [.string (str s)]) 1 (fun _ => rfl) (by omega) (fun _ => True) Try.underlying31 (by kernel_rfl) (fun n cs y hc ht _ => by
    obtain ⟨c, rfl⟩ := one_of hc
    obtain ⟨s, e, -⟩ := DataW.trod_string Try.underlying9 ht
    injection e with e
    exact ⟨s.data.toList, by rw [e]; rfl, trivial⟩) h hlt
  refine ⟨A, cap, xs, h1, h2, h3, ?_⟩
  have e : xs.flatMap (fun s : List UInt8 => [Value.string (str s)]) = strs xs := by
    unfold strs
    clear h1 h2 h4
    induction xs with
    | nil => rfl
    | cons a l ih => rw [List.flatMap_cons, ih]; rfl
  rwa [e] at h4
theorem ent_of {cs : List Value} (hc : cs.length = 13) (ht : DataW.trod enc Try.prog W 0 (fun _ => true) true n 35 cs = some y) (hlt : ∀ p ∈ y.2, p.block < W.heap.size) : ∃ t : Ent, cs = entCs t ∧ EntIn W t := by
  obtain ⟨ys, n', hn', hy, hlen, hyl, hfl⟩ := DataW.trod_struct Try.underlying35 ht
  have k1 : Try.prog.cellsOf 3 = 1 := by kernel_rfl
  have k2 : Try.prog.cellsOf 2 = 1 := by kernel_rfl
  have k3 : Try.prog.cellsOf 30 = 5 := by kernel_rfl
  have k4 : Try.prog.cellsOf 33 = 5 := by kernel_rfl
  have k5 : Try.prog.cellsOf 4 = 1 := by kernel_rfl
  have k6 : Try.prog.cellsOf 31 = 1 := by kernel_rfl
  match cs, hc with
  | [c0, c1, c2, c3, c4, c5, c6, c7, c8, c9, c10, c11, c12], _ =>
    match ys, hyl with
    | [y0, y1, y2, y3, y4], _ =>
      have h0 : DataW.trod enc Try.prog W 0 (fun _ => true) true n' 30 [c0, c1, c2, c3, c4] = some y0 := by have := hfl 0 _ rfl; simpa [k1, k2, k3, k4] using this
      have h1 : DataW.trod enc Try.prog W 0 (fun _ => true) true n' 33 [c5, c6, c7, c8, c9] = some y1 := by have := hfl 1 _ rfl; simpa [k1, k2, k3, k4] using this
      have h2 : DataW.trod enc Try.prog W 0 (fun _ => true) true n' 2 [c10] = some y2 := by have := hfl 2 _ rfl; simpa [k1, k2, k3, k4] using this
      have h3 : DataW.trod enc Try.prog W 0 (fun _ => true) true n' 3 [c11] = some y3 := by have := hfl 3 _ rfl; simpa [k1, k2, k3, k4] using this
      have h4 : DataW.trod enc Try.prog W 0 (fun _ => true) true n' 3 [c12] = some y4 := by have := hfl 4 _ rfl; simpa [k1, k2, k3, k4] using this
      have hin : ∀ q ∈ [y0, y1, y2, y3, y4], ∀ p ∈ q.2, p.block < W.heap.size := fun q hq p hp => hlt p (by rw [hy]; exact List.mem_flatMap.2 ⟨q, hq, hp⟩)
      obtain ⟨a10, rfl, -⟩ := trodA_int64 h2
      obtain ⟨a11, rfl, -⟩ := trodA_int h3
      obtain ⟨a12, rfl, -⟩ := trodA_int h4
      obtain ⟨zs, n2, -, -, -, hzl, hgl⟩ := DataW.trod_struct Try.underlying30 h0
      obtain ⟨us, n3, -, hu, -, hul, hvl⟩ := DataW.trod_struct Try.underlying33 h1
      match zs, hzl, us, hul with
      | [z0, z1, z2, z3, z4], _, [u0, u1, u2, u3, u4], _ =>
        have g0 : DataW.trod enc Try.prog W 0 (fun _ => true) true n2 2 [c0] = some z0 := by have := hgl 0 _ rfl; simpa [k1, k2, k5, k6] using this
        have g1 : DataW.trod enc Try.prog W 0 (fun _ => true) true n2 3 [c1] = some z1 := by have := hgl 1 _ rfl; simpa [k1, k2, k5, k6] using this
        have g2 : DataW.trod enc Try.prog W 0 (fun _ => true) true n2 2 [c2] = some z2 := by have := hgl 2 _ rfl; simpa [k1, k2, k5, k6] using this
        have g3 : DataW.trod enc Try.prog W 0 (fun _ => true) true n2 3 [c3] = some z3 := by have := hgl 3 _ rfl; simpa [k1, k2, k5, k6] using this
        have g4 : DataW.trod enc Try.prog W 0 (fun _ => true) true n2 4 [c4] = some z4 := by have := hgl 4 _ rfl; simpa [k1, k2, k5, k6] using this
        have v0 : DataW.trod enc Try.prog W 0 (fun _ => true) true n3 2 [c5] = some u0 := by have := hvl 0 _ rfl; simpa [k1, k2, k5, k6] using this
        have v1 : DataW.trod enc Try.prog W 0 (fun _ => true) true n3 2 [c6] = some u1 := by have := hvl 1 _ rfl; simpa [k1, k2, k5, k6] using this
        have v2 : DataW.trod enc Try.prog W 0 (fun _ => true) true n3 2 [c7] = some u2 := by have := hvl 2 _ rfl; simpa [k1, k2, k5, k6] using this
        have v3 : DataW.trod enc Try.prog W 0 (fun _ => true) true n3 3 [c8] = some u3 := by have := hvl 3 _ rfl; simpa [k1, k2, k5, k6] using this
        have v4 : DataW.trod enc Try.prog W 0 (fun _ => true) true n3 31 [c9] = some u4 := by have := hvl 4 _ rfl; simpa [k1, k2, k5, k6] using this
        obtain ⟨a0, rfl, i0⟩ := trodA_int64 g0
        obtain ⟨a1, rfl, -⟩ := trodA_int g1
        obtain ⟨a2, rfl, -⟩ := trodA_int64 g2
        obtain ⟨a3, rfl, -⟩ := trodA_int g3
        obtain ⟨a4, rfl⟩ := trodA_bool g4
        obtain ⟨a5, rfl, -⟩ := trodA_int64 v0
        obtain ⟨a6, rfl, -⟩ := trodA_int64 v1
        obtain ⟨a7, rfl, -⟩ := trodA_int64 v2
        obtain ⟨a8, rfl, -⟩ := trodA_int v3
        obtain ⟨A, cap, bs, rfl, l1, l2, l3⟩ := read_texts v4 (fun p hp => hin y1 (by simp) p (by rw [hu]; exact List.mem_flatMap.2 ⟨u4, by simp, hp⟩))
        exact ⟨⟨⟨a0, a1, a2, a3, a4, a5, a6, a7, a8, bs, a10, a11, a12⟩, A, cap⟩, rfl, i0, l1, l2, l3⟩
theorem op_of {cs : List Value} (hc : cs.length = 20) (ht : DataW.trod enc Try.prog W 0 (fun _ => true) true n 37 cs = some y) (hlt : ∀ p ∈ y.2, p.block < W.heap.size) : ∃ o : Opq, cs = opCells o ∧ OpIn W o := by
  obtain ⟨ys, n', hn', hy, hlen, hyl, hfl⟩ := DataW.trod_struct Try.underlying37 ht
  have k1 : Try.prog.cellsOf 3 = 1 := by kernel_rfl
  have k2 : Try.prog.cellsOf 2 = 1 := by kernel_rfl
  have k3 : Try.prog.cellsOf 35 = 13 := by kernel_rfl
  have k5 : Try.prog.cellsOf 4 = 1 := by kernel_rfl
  match cs, hc with
  | [c0, c1, c2, c3, c4, c5, c6, c7, c8, c9, c10, c11, c12, c13, c14, c15, c16, c17, c18, c19], _ =>
    match ys, hyl with
    | [y0, y1, y2, y3, y4, y5, y6, y7], _ =>
      have h0 : DataW.trod enc Try.prog W 0 (fun _ => true) true n' 3 [c0] = some y0 := by have := hfl 0 _ rfl; simpa [k1, k2, k3, k5] using this
      have h1 : DataW.trod enc Try.prog W 0 (fun _ => true) true n' 35 [c1, c2, c3, c4, c5, c6, c7, c8, c9, c10, c11, c12, c13] = some y1 := by have := hfl 1 _ rfl; simpa [k1, k2, k3, k5] using this
      have h2 : DataW.trod enc Try.prog W 0 (fun _ => true) true n' 2 [c14] = some y2 := by have := hfl 2 _ rfl; simpa [k1, k2, k3, k5] using this
      have h3 : DataW.trod enc Try.prog W 0 (fun _ => true) true n' 4 [c15] = some y3 := by have := hfl 3 _ rfl; simpa [k1, k2, k3, k5] using this
      have h4 : DataW.trod enc Try.prog W 0 (fun _ => true) true n' 3 [c16] = some y4 := by have := hfl 4 _ rfl; simpa [k1, k2, k3, k5] using this
      have h5 : DataW.trod enc Try.prog W 0 (fun _ => true) true n' 2 [c17] = some y5 := by have := hfl 5 _ rfl; simpa [k1, k2, k3, k5] using this
      have h6 : DataW.trod enc Try.prog W 0 (fun _ => true) true n' 3 [c18] = some y6 := by have := hfl 6 _ rfl; simpa [k1, k2, k3, k5] using this
      have h7 : DataW.trod enc Try.prog W 0 (fun _ => true) true n' 3 [c19] = some y7 := by have := hfl 7 _ rfl; simpa [k1, k2, k3, k5] using this
      have hin : ∀ q ∈ [y0, y1, y2, y3, y4, y5, y6, y7], ∀ p ∈ q.2, p.block < W.heap.size := fun q hq p hp => hlt p (by rw [hy]; exact List.mem_flatMap.2 ⟨q, hq, hp⟩)
      obtain ⟨a0, rfl, -⟩ := trodA_int h0
      obtain ⟨t, e1, i1⟩ := ent_of rfl h1 (hin y1 (by simp))
      obtain ⟨a2, rfl, i2⟩ := trodA_int64 h2
      obtain ⟨a3, rfl⟩ := trodA_bool h3
      obtain ⟨a4, rfl, -⟩ := trodA_int h4
      obtain ⟨a5, rfl, -⟩ := trodA_int64 h5
      obtain ⟨a6, rfl, -⟩ := trodA_int h6
      obtain ⟨a7, rfl, -⟩ := trodA_int h7
      refine ⟨⟨a0, t, a2, a3, a4, a5, a6, a7⟩, ?_, i1, i2⟩
      unfold entCs enA at e1
      injection e1 with e q
      subst e
      simp only [List.cons.injEq] at q
      obtain ⟨rfl, rfl, rfl, rfl, rfl, rfl, rfl, rfl, rfl, rfl, rfl, rfl, -⟩ := q
      rfl
end
theorem open_ops14 {H : Type} {enc : TypeId × Value → H} {W : World} {r : Reach} {b0 : Nat} {v : Value} {d : DataW H} {ps : List MemPlace} (hval : Value.okWide Try.prog W r b0 22 v) (h : DataW.Trod enc Try.prog W 0 (fun _ => true) true 22 v d ps) (hlt : ∀ x ∈ ps, x.block < W.heap.size) :
    ∃ (A : Option Addr) (cap : Nat) (xs : List Opq), v = .slice A xs.length cap ∧ xs.length ≤ cap ∧ cap ≤ maxLen ∧ Lies W A (flatO xs) ∧ ∀ u ∈ xs, OpIn W u := by
  obtain ⟨fuel, hf⟩ := h
  have hone : v.cells.toList = [v] := cells_one_slice Try.underlying22 hval
  rw [hone] at hf
  exact read_rows opCells 20 opCells_length (by omega) (OpIn W) Try.underlying22 (by kernel_rfl) (fun _ _ _ hc ht hl => op_of hc ht hl) hf hlt
theorem open_ent {H : Type} {enc : TypeId × Value → H} {W : World} {r : Reach} {b0 : Nat} {v : Value} {d : DataW H} {ps : List MemPlace} (hval : Value.okWide Try.prog W r b0 35 v) (h : DataW.Trod enc Try.prog W 0 (fun _ => true) true 35 v d ps) (hlt : ∀ x ∈ ps, x.block < W.heap.size) :
    ∃ (t : Ent), v = .agg (enA t.e (.slice t.A t.e.sv.length t.cap)) ∧ EntIn W t := by
  obtain ⟨cs, rfl, hsz⟩ := okWide_struct Try.underlying35 hval
  have hC : Try.prog.cellsOf 35 = 13 := by kernel_rfl
  obtain ⟨fuel, hf⟩ := h
  obtain ⟨t, e, hi⟩ := ent_of (cs := cs.toList) (by simpa using hsz.trans hC) hf hlt
  refine ⟨t, ?_, hi⟩
  unfold entCs at e
  rw [Array.toList_inj.1 e]
end Go.Proofs.Ytepfbpljkhchbaa
