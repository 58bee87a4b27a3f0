/-
  Layer 14: what came in: an entry: how it lies in memory. Nothing is assumed. (Out of OpE.)
-/
import Derived.Test.YtcoedohfggeaiaaEnK
import Derived.Test.YtcoedohfggeaiaaRd

namespace Go.Proofs.Ytcoedohfggeaiaa
open Go.ChangeShapes Go.WideShapes Go.ChangeAt Go.RowKit Go.Deep En
set_option maxRecDepth 100000

/-- an entry that came in -/
structure EntIn (w : World) (t : Ent) : Prop where
  id : I64 t.e.id
  le : t.e.sv.length ≤ t.cap
  cap : t.cap ≤ maxLen
  lies : Lies w t.A (strs t.e.sv)
theorem EntIn.below {w w' : World} {t : Ent} (h : EntIn w t) (hb : Below w.heap.size w w') : EntIn w' t := ⟨h.id, h.le, h.cap, h.lies.below hb⟩
theorem EntIn.svs {w : World} {t : Ent} (h : EntIn w t) (h9 : t.e.sv.length ≤ 9000) : Svs w t.e.sv t.A t.cap := ⟨h9, h.le, h.cap, h.lies⟩

section
variable {H : Type} {enc : TypeId × Value → H} {W : World} {n : Nat} {y : DataW H × List MemPlace}
theorem trodA_int64 {v : Value} {base : Nat} {spare : Nat → Bool} {held : Bool} (h : DataW.trod enc Try.prog W base spare held n 2 [v] = some y) : ∃ x : Int, v = .int .i64 x ∧ I64 x := by
  obtain ⟨x, e, -, hw⟩ := DataW.trod_int Try.underlying2 h
  have := bounds_i64 hw
  exact ⟨x, (by injection e), by unfold I64; omega⟩
theorem read_texts {v : Value} (h : DataW.trod enc Try.prog W 0 (fun _ => true) true n 25 [v] = some y) (hlt : ∀ p ∈ y.2, p.block < W.heap.size) :
    ∃ (A : Option Addr) (cap : Nat) (bs : List (List UInt8)), v = .slice A bs.length cap ∧ bs.length ≤ cap ∧ cap ≤ maxLen ∧ Lies W A (strs bs) := by
  obtain ⟨A, cap, xs, h1, h2, h3, h4, -⟩ := read_rows (fun s : List UInt8 => [.string (str s)]) 1 (fun _ => rfl) (by omega) (fun _ => True) Try.underlying25 (by kernel_rfl) (fun n cs y hc ht _ => by
    obtain ⟨c, rfl⟩ := one_of hc
    obtain ⟨s, e, -⟩ := DataW.trod_string Try.underlying9 ht
    injection e with e
    exact ⟨s.data.toList, by rw [e]; rfl, trivial⟩) h hlt
  refine ⟨A, cap, xs, h1, h2, h3, ?_⟩
  have e : xs.flatMap (fun s : List UInt8 => [Value.string (str s)]) = strs xs := by
    unfold strs
    clear h1 h2 h4
    induction xs with
    | nil => rfl
    | cons a l ih => rw [List.flatMap_cons, ih]; rfl
  rwa [e] at h4
theorem ent_of {cs : List Value} (hc : cs.length = 13) (ht : DataW.trod enc Try.prog W 0 (fun _ => true) true n 29 cs = some y) (hlt : ∀ p ∈ y.2, p.block < W.heap.size) : ∃ t : Ent, cs = entCs t ∧ EntIn W t := by
  obtain ⟨ys, n', hn', hy, hlen, hyl, hfl⟩ := DataW.trod_struct Try.underlying29 ht
  have k1 : Try.prog.cellsOf 3 = 1 := by kernel_rfl
  have k2 : Try.prog.cellsOf 2 = 1 := by kernel_rfl
  have k3 : Try.prog.cellsOf 24 = 5 := by kernel_rfl
  have k4 : Try.prog.cellsOf 27 = 5 := by kernel_rfl
  have k5 : Try.prog.cellsOf 4 = 1 := by kernel_rfl
  have k6 : Try.prog.cellsOf 25 = 1 := by kernel_rfl
  match cs, hc with
  | [c0, c1, c2, c3, c4, c5, c6, c7, c8, c9, c10, c11, c12], _ =>
    match ys, hyl with
    | [y0, y1, y2, y3, y4], _ =>
      have h0 : DataW.trod enc Try.prog W 0 (fun _ => true) true n' 24 [c0, c1, c2, c3, c4] = some y0 := by have := hfl 0 _ rfl; simpa [k1, k2, k3, k4] using this
      have h1 : DataW.trod enc Try.prog W 0 (fun _ => true) true n' 27 [c5, c6, c7, c8, c9] = some y1 := by have := hfl 1 _ rfl; simpa [k1, k2, k3, k4] using this
      have h2 : DataW.trod enc Try.prog W 0 (fun _ => true) true n' 2 [c10] = some y2 := by have := hfl 2 _ rfl; simpa [k1, k2, k3, k4] using this
      have h3 : DataW.trod enc Try.prog W 0 (fun _ => true) true n' 3 [c11] = some y3 := by have := hfl 3 _ rfl; simpa [k1, k2, k3, k4] using this
      have h4 : DataW.trod enc Try.prog W 0 (fun _ => true) true n' 3 [c12] = some y4 := by have := hfl 4 _ rfl; simpa [k1, k2, k3, k4] using this
      have hin : ∀ q ∈ [y0, y1, y2, y3, y4], ∀ p ∈ q.2, p.block < W.heap.size := fun q hq p hp => hlt p (by rw [hy]; exact List.mem_flatMap.2 ⟨q, hq, hp⟩)
      obtain ⟨a10, rfl, -⟩ := trodA_int64 h2
      obtain ⟨a11, rfl, -⟩ := trodA_int h3
      obtain ⟨a12, rfl, -⟩ := trodA_int h4
      obtain ⟨zs, n2, -, -, -, hzl, hgl⟩ := DataW.trod_struct Try.underlying24 h0
      obtain ⟨us, n3, -, hu, -, hul, hvl⟩ := DataW.trod_struct Try.underlying27 h1
      match zs, hzl, us, hul with
      | [z0, z1, z2, z3, z4], _, [u0, u1, u2, u3, u4], _ =>
        have g0 : DataW.trod enc Try.prog W 0 (fun _ => true) true n2 2 [c0] = some z0 := by have := hgl 0 _ rfl; simpa [k1, k2, k5, k6] using this
        have g1 : DataW.trod enc Try.prog W 0 (fun _ => true) true n2 3 [c1] = some z1 := by have := hgl 1 _ rfl; simpa [k1, k2, k5, k6] using this
        have g2 : DataW.trod enc Try.prog W 0 (fun _ => true) true n2 2 [c2] = some z2 := by have := hgl 2 _ rfl; simpa [k1, k2, k5, k6] using this
        have g3 : DataW.trod enc Try.prog W 0 (fun _ => true) true n2 3 [c3] = some z3 := by have := hgl 3 _ rfl; simpa [k1, k2, k5, k6] using this
        have g4 : DataW.trod enc Try.prog W 0 (fun _ => true) true n2 4 [c4] = some z4 := by have := hgl 4 _ rfl; simpa [k1, k2, k5, k6] using this
        have v0 : DataW.trod enc Try.prog W 0 (fun _ => true) true n3 2 [c5] = some u0 := by have := hvl 0 _ rfl; simpa [k1, k2, k5, k6] using this
        have v1 : DataW.trod enc Try.prog W 0 (fun _ => true) true n3 2 [c6] = some u1 := by have := hvl 1 _ rfl; simpa [k1, k2, k5, k6] using this
        have v2 : DataW.trod enc Try.prog W 0 (fun _ => true) true n3 2 [c7] = some u2 := by have := hvl 2 _ rfl; simpa [k1, k2, k5, k6] using this
        have v3 : DataW.trod enc Try.prog W 0 (fun _ => true) true n3 3 [c8] = some u3 := by have := hvl 3 _ rfl; simpa [k1, k2, k5, k6] using this
        have v4 : DataW.trod enc Try.prog W 0 (fun _ => true) true n3 25 [c9] = some u4 := by have := hvl 4 _ rfl; simpa [k1, k2, k5, k6] using this
        obtain ⟨a0, rfl, i0⟩ := trodA_int64 g0
        obtain ⟨a1, rfl, -⟩ := trodA_int g1
        obtain ⟨a2, rfl, -⟩ := trodA_int64 g2
        obtain ⟨a3, rfl, -⟩ := trodA_int g3
        obtain ⟨a4, rfl⟩ := trodA_bool g4
        obtain ⟨a5, rfl, -⟩ := trodA_int64 v0
        obtain ⟨a6, rfl, -⟩ := trodA_int64 v1
        obtain ⟨a7, rfl, -⟩ := trodA_int64 v2
        obtain ⟨a8, rfl, -⟩ := trodA_int v3
        obtain ⟨A, cap, bs, rfl, l1, l2, l3⟩ := read_texts v4 (fun p hp => hin y1 (by simp) p (by rw [hu]; exact List.mem_flatMap.2 ⟨u4, by simp, hp⟩))
        exact ⟨⟨⟨a0, a1, a2, a3, a4, a5, a6, a7, a8, bs, a10, a11, a12⟩, A, cap⟩, rfl, i0, l1, l2, l3⟩
end
theorem open_ent {H : Type} {enc : TypeId × Value → H} {W : World} {r : Reach} {b0 : Nat} {v : Value} {d : DataW H} {ps : List MemPlace} (hval : Value.okWide Try.prog W r b0 29 v) (h : DataW.Trod enc Try.prog W 0 (fun _ => true) true 29 v d ps) (hlt : ∀ x ∈ ps, x.block < W.heap.size) :
    ∃ (t : Ent), v = .agg (enA t.e (.slice t.A t.e.sv.length t.cap)) ∧ EntIn W t := by
  obtain ⟨cs, rfl, hsz⟩ := okWide_struct Try.underlying29 hval
  have hC : Try.prog.cellsOf 29 = 13 := by kernel_rfl
  obtain ⟨fuel, hf⟩ := h
  obtain ⟨t, e, hi⟩ := ent_of (cs := cs.toList) (by simpa using hsz.trans hC) hf hlt
  refine ⟨t, ?_, hi⟩
  unfold entCs at e
  rw [Array.toList_inj.1 e]
end Go.Proofs.Ytcoedohfggeaiaa
