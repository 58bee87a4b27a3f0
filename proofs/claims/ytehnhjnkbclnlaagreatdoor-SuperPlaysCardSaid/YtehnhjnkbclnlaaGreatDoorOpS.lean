/-
  Layer 10: rows of tables that came in, and tables in boxes. Nothing is assumed.
-/
import Derived.Test.YtehnhjnkbclnlaaGreatDoorSuH

namespace Go.Proofs.YtehnhjnkbclnlaaGreatDoor
open Go.ChangeShapes Go.WideShapes Go.ChangeAt Go.RowKit
set_option maxRecDepth 100000

/-- a table, and where its extents lie -/
structure Tq where
  g : Int
  o : Int
  A : Option Addr
  cap : Nat
  xs : List Tb.Ext
instance : Inhabited Tq := ⟨⟨0, 0, none, 0, []⟩⟩
def Tq.t (x : Tq) : Tb.T := ⟨x.g, x.o, x.xs⟩
def Tq.z : Tq := ⟨0, 0, none, 0, []⟩
def tqCells (x : Tq) : List Value := [.int .i64 x.g, .int .i64 x.o, .slice x.A x.xs.length x.cap]
theorem tqCells_length (x : Tq) : (tqCells x).length = 3 := rfl
def flatT (l : List Tq) : List Value := l.flatMap tqCells
structure TqIn (w : World) (x : Tq) : Prop where
  l : x.xs.length ≤ x.cap
  m : x.cap ≤ maxLen
  lies : Lies w x.A (flatX x.xs)
theorem at_tq {w : World} {A : Option Addr} {l : List Tq} (h : Lies w A (flatT l)) (k : Nat) (hk : k < l.length) :
    ∃ ad, A = some ad ∧ w.cell? (ad.add (k * 3)) = some (.int .i64 l[k].g) ∧ w.cell? ⟨(ad.add (k * 3)).block, (ad.add (k * 3)).off + 1, none⟩ = some (.int .i64 l[k].o) ∧ w.cell? ⟨(ad.add (k * 3)).block, (ad.add (k * 3)).off + 2, none⟩ = some (.slice l[k].A l[k].xs.length l[k].cap) := by
  obtain ⟨ad, rfl, -, -⟩ := h.at_ (k := k * 3) (by unfold flatT; rw [flatMap9_len tqCells 3 tqCells_length]; omega)
  have hc2 : ∀ j u, (tqCells l[k])[j]? = some u → w.cell? ((ad.add (k * 3)).add j) = some u := fun j u hu => by
    have hj : j < 3 := by
      rcases Nat.lt_or_ge j 3 with h | h
      · exact h
      · rw [List.getElem?_eq_none (by rw [tqCells_length]; exact h)] at hu; cases hu
    have hf := flatMap9_at tqCells 3 tqCells_length l k j _ (List.getElem?_eq_getElem hk) hj
    rw [hu] at hf
    rw [addr_add]
    rcases h with h | ⟨ad', e, _, hc⟩
    · unfold flatT at h; rw [h] at hf; simp at hf
    · injection e with e; subst e; exact hc _ _ hf
  exact ⟨ad, rfl, hc2 0 _ rfl, hc2 1 _ rfl, hc2 2 _ rfl⟩
/-- a table in a box -/
structure TqAt (w : World) (q b : Nat) (x : Tq) : Prop where
  blk : Blk w b #[.int .i64 x.g, .int .i64 x.o, .slice x.A x.xs.length x.cap] 31
  old : Old w q x.A (flatX x.xs)
  l : x.xs.length ≤ x.cap
theorem TqAt.on {w w' : World} {q b : Nat} {x : Tq} (h : TqAt w q b x) (hb : b ∉ [q, q + 1, q + 2]) (k : Kept [q, q + 1, q + 2] w w') : TqAt w' q b x := ⟨k.blk h.blk hb, h.old.on k, h.l⟩
theorem TqAt.below {w w' : World} {q b : Nat} {x : Tq} (h : TqAt w q b x) (k : Below w.heap.size w w') : TqAt w' q b x := ⟨h.blk.below k (Nat.le_refl _), h.old.below k, h.l⟩
/-- a table that came in a row -/
theorem tq_of {H : Type} {enc : TypeId × Value → H} {W : World} {n : Nat} {y : DataW H × List MemPlace} {cs : List Value} (hc : cs.length = 3) (ht : DataW.trod enc Tryz.prog W 0 (fun _ => true) true n 31 cs = some y) (hlt : ∀ p ∈ y.2, p.block < W.heap.size) : ∃ x : Tq, cs = tqCells x ∧ TqIn W x := by
  obtain ⟨ys, n', hn', hy, hlen, hyl, hfl⟩ := DataW.trod_struct Tryz.underlying31 ht
  have k2 : Tryz.prog.cellsOf 2 = 1 := by kernel_rfl
  have k3 : Tryz.prog.cellsOf 3 = 1 := by kernel_rfl
  have k4 : Tryz.prog.cellsOf 29 = 1 := by kernel_rfl
  match cs, hc with
  | [c0, c1, c2], _ =>
    match ys, hyl with
    | [y0, y1, y2], _ =>
      have h0 : DataW.trod enc Tryz.prog W 0 (fun _ => true) true n' 2 [c0] = some y0 := by have := hfl 0 _ rfl; simpa [k2] using this
      have h1 : DataW.trod enc Tryz.prog W 0 (fun _ => true) true n' 3 [c1] = some y1 := by have := hfl 1 _ rfl; simpa [k3] using this
      have h2 : DataW.trod enc Tryz.prog W 0 (fun _ => true) true n' 29 [c2] = some y2 := by have := hfl 2 _ rfl; simpa [k4] using this
      have hin : ∀ q ∈ [y0, y1, y2], ∀ p ∈ q.2, p.block < W.heap.size := fun q hq p hp => hlt p (by rw [hy]; exact List.mem_flatMap.2 ⟨q, hq, hp⟩)
      obtain ⟨a0, rfl⟩ := trod_l64 h0
      obtain ⟨a1, rfl⟩ := trod_int1 h1
      obtain ⟨A, cap, xs, rfl, b1, b2, b3⟩ := read_exts h2 (hin y2 (by simp))
      exact ⟨⟨a0, a1, A, cap, xs⟩, rfl, b1, b2, b3⟩
/-- what was there ahead of the device -/
structure Low (w : World) (q : Nat) (A : Option Addr) (xs : List Value) : Prop where
  lies : Lies w A xs
  low : xs = [] ∨ ∀ ad, A = some ad → ad.block < q
theorem Low.of {w w' : World} {A : Option Addr} {xs : List Value} (h : Lies w A xs) (hb : Below w.heap.size w w') : Low w' w.heap.size A xs :=
  ⟨h.below hb, by rcases h with h | ⟨ad, rfl, h, _⟩
                  · exact .inl h
                  · exact .inr fun ad' e => by injection e with e; subst e; exact h⟩
theorem Low.on {w w' : World} {q : Nat} {A : Option Addr} {xs : List Value} {S : List Nat} (h : Low w q A xs) (k : Kept S w w') (hS : ∀ s ∈ S, q ≤ s) : Low w' q A xs := by
  refine ⟨h.lies.kept ?_ k, h.low⟩
  rcases h.low with h | h
  · exact .inl h
  · exact .inr fun ad e hm => by have := h ad e; have := hS _ hm; omega
theorem Low.below {w w' : World} {q : Nat} {A : Option Addr} {xs : List Value} (h : Low w q A xs) (hb : Below w.heap.size w w') : Low w' q A xs := ⟨h.lies.below hb, h.low⟩
theorem Low.old {w : World} {q : Nat} {A : Option Addr} {xs : List Value} (h : Low w q A xs) : Old w q A xs := ⟨h.lies, h.low.imp id fun h ad e hm => by have := h ad e; simp at hm; omega⟩
theorem Low.nil {w : World} {q : Nat} {A : Option Addr} : Low w q A [] := ⟨Lies.nil, .inl rfl⟩
structure TqLo (w : World) (q b : Nat) (x : Tq) : Prop where
  blk : Blk w b #[.int .i64 x.g, .int .i64 x.o, .slice x.A x.xs.length x.cap] 31
  low : Low w q x.A (flatX x.xs)
  l : x.xs.length ≤ x.cap
theorem TqLo.on {w w' : World} {q b : Nat} {x : Tq} {S : List Nat} (h : TqLo w q b x) (k : Kept S w w') (hS : ∀ s ∈ S, q ≤ s) (hb : b ∉ S) : TqLo w' q b x := ⟨k.blk h.blk hb, h.low.on k hS, h.l⟩
theorem TqLo.below {w w' : World} {q b : Nat} {x : Tq} (h : TqLo w q b x) (k : Below w.heap.size w w') : TqLo w' q b x := ⟨h.blk.below k (Nat.le_refl _), h.low.below k, h.l⟩
theorem Low.far {w : World} {b q : Nat} {A : Option Addr} {xs : List Value} (h : Low w b A xs) (hq : b ≤ q) : Old w q A xs := ⟨h.lies, h.low.imp id fun h ad e hm => by have := h ad e; simp at hm; omega⟩
theorem Fr.side {w w' : World} {q : Nat} {d : Plain.Dv} {S : List Nat} (h : Fr w q d) (k : Kept S w w') (h0 : ∀ s ∈ S, s < q) (h1 : 0 ∉ S) : Fr w' q d :=
  ⟨h.dev.keep k (fun hm => by have := h0 _ hm; omega) (fun hm => by have := h0 _ hm; omega) (fun hm => by have := h0 _ hm; omega), ⟨by have := k.size; have := h.tab.1; omega, fun i hi => (World.cell?_of_block (k.block _ h.tab.1 h1)).trans (h.tab.2 i hi)⟩, h.lt⟩
theorem Fr.apart {w w' : World} {q : Nat} {d : Plain.Dv} {S : List Nat} (h : Fr w q d) (k : Kept S w w') (h0 : ∀ s ∈ S, q + 2 < s) : Fr w' q d :=
  ⟨h.dev.keep k (fun hm => by have := h0 _ hm; omega) (fun hm => by have := h0 _ hm; omega) (fun hm => by have := h0 _ hm; omega), ⟨by have := k.size; have := h.tab.1; omega, fun i hi => (World.cell?_of_block (k.block _ h.tab.1 (fun hm => by have h1 := h0 _ hm; have h2 := h.lt; simp only at h1; omega))).trans (h.tab.2 i hi)⟩, h.lt⟩
end Go.Proofs.YtehnhjnkbclnlaaGreatDoor
