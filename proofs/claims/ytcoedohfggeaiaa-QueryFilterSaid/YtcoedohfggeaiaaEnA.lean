/-
  Layer 14: entries in memory; copies of them with services of their own (entry.own, turntableref14.own); turntableref14.SameEntry: what these answer, of any entries. Assumed: that their services lie in memory, and that there are at most 9000.
-/
import Derived.Test.YtcoedohfggeaiaaMath14
import Derived.Test.YtcoedohfggeaiaaItC
import Derived.Test.YtcoedohfggeaiaaTxC
import Derived.Test.YtcoedohfggeaiaaLatC
import Derived.Lib.SliceRun

namespace Go.Proofs.Ytcoedohfggeaiaa
open Go.RowKit Go.Maps En
set_option maxRecDepth 100000

/-- an entry's cells, its services at s -/
def enA (e : E) (s : Value) : Array Value := #[.int .i64 e.id, .int .i64 e.cl, .int .i64 e.tick, .int .i64 e.cost, .bool e.pin, .int .i64 e.bid, .int .i64 e.lo, .int .i64 e.hi, .int .i64 e.many, s, .int .i64 e.seq, .int .i64 e.pl, .int .i64 e.sz]
theorem enA_size (e : E) (s : Value) : (enA e s).size = 13 := rfl
theorem enA_one (e : E) (A : Option Addr) (n c : Nat) : ∀ u ∈ (enA e (.slice A n c)).toList, u.oneCell' = true := by
  intro u hu
  simp only [enA, List.mem_cons, List.not_mem_nil, or_false] at hu
  rcases hu with rfl | rfl | rfl | rfl | rfl | rfl | rfl | rfl | rfl | rfl | rfl | rfl | rfl <;> rfl
/-- its services lie there -/
structure Svs (w : World) (sv : List (List UInt8)) (A : Option Addr) (cap : Nat) : Prop where
  few : sv.length ≤ 9000
  le : sv.length ≤ cap
  cap : cap ≤ maxLen
  lies : Lies w A (strs sv)
theorem Svs.below {w w' : World} {sv : List (List UInt8)} {A : Option Addr} {cap : Nat} (h : Svs w sv A cap) (hb : Below w.heap.size w w') : Svs w' sv A cap := ⟨h.few, h.le, h.cap, h.lies.below hb⟩
theorem Svs.kept {w w' : World} {sv : List (List UInt8)} {A : Option Addr} {cap : Nat} {S : List Nat} (h : Svs w sv A cap) (ho : Off S A (strs sv)) (k : Kept S w w') : Svs w' sv A cap := ⟨h.few, h.le, h.cap, h.lies.kept ho k⟩

theorem infoStr14 : (Try.prog.info? 9).map (fun i => (i.zero, i.size, i.bytes)) = some (some (.string .empty), 1, 16) := by kernel_rfl
theorem infoEn : (Try.prog.info? 29).map (fun i => (i.zero, i.size, i.bytes)) = some (some (.agg (enA E.zero (.slice none 0 0))), 13, 120) := by kernel_rfl
/-- new texts that were made: their slice -/
theorem row_svs {w0 w : World} {v : Value} {sv : List (List UInt8)} {n : Nat} (h : w.ownsRow w0.heap.size 9 1 v n (strs sv)) (hn : sv.length = n) (h9 : n ≤ 9000) : ∃ A cap, v = .slice A n cap ∧ Svs w sv A cap ∧ ∀ ad, A = some ad → w0.heap.size ≤ ad.block := by
  subst hn
  rcases h.2 with ⟨rfl, h0⟩ | ⟨g, cap, cur, rfl, hb, hg, h1, h2, h3⟩
  · have : sv = [] := List.eq_nil_of_length_eq_zero h0
    subst this
    exact ⟨none, 0, rfl, ⟨by simp, Nat.le_refl _, by simp, .inl rfl⟩, fun _ e => by cases e⟩
  · exact ⟨_, cap, rfl, ⟨h9, h1, h2, .inr ⟨_, rfl, (h.lt g rfl).2, h.cells (g := g) rfl⟩⟩, fun ad e => by cases e; exact hb⟩

/-- a block that is an entry -/
abbrev BoxE (w : World) (g : Nat) (x : E) (s : Value) : Prop := Blk w g (enA x s) 29
theorem BoxE.all {w : World} {g : Nat} {x : E} {s : Value} (h : BoxE w g x s) : w.cell? ⟨g, 0, none⟩ = some (.int .i64 x.id) ∧ w.cell? ⟨g, 1, none⟩ = some (.int .i64 x.cl) ∧ w.cell? ⟨g, 2, none⟩ = some (.int .i64 x.tick) ∧ w.cell? ⟨g, 3, none⟩ = some (.int .i64 x.cost) ∧ w.cell? ⟨g, 4, none⟩ = some (.bool x.pin) ∧ w.cell? ⟨g, 5, none⟩ = some (.int .i64 x.bid) ∧ w.cell? ⟨g, 6, none⟩ = some (.int .i64 x.lo) ∧ w.cell? ⟨g, 7, none⟩ = some (.int .i64 x.hi) ∧ w.cell? ⟨g, 8, none⟩ = some (.int .i64 x.many) ∧ w.cell? ⟨g, 9, none⟩ = some s ∧ w.cell? ⟨g, 10, none⟩ = some (.int .i64 x.seq) ∧ w.cell? ⟨g, 11, none⟩ = some (.int .i64 x.pl) ∧ w.cell? ⟨g, 12, none⟩ = some (.int .i64 x.sz) :=
  ⟨h.cell 0, h.cell 1, h.cell 2, h.cell 3, h.cell 4, h.cell 5, h.cell 6, h.cell 7, h.cell 8, h.cell 9, h.cell 10, h.cell 11, h.cell 12⟩
theorem BoxE.melt {w : World} {g : Nat} {x : E} {s : Value} (h : BoxE w g x s) : w.frozen? ⟨g, 0, none⟩ = false ∧ w.frozen? ⟨g, 1, none⟩ = false ∧ w.frozen? ⟨g, 2, none⟩ = false ∧ w.frozen? ⟨g, 3, none⟩ = false ∧ w.frozen? ⟨g, 4, none⟩ = false ∧ w.frozen? ⟨g, 5, none⟩ = false ∧ w.frozen? ⟨g, 6, none⟩ = false ∧ w.frozen? ⟨g, 7, none⟩ = false ∧ w.frozen? ⟨g, 8, none⟩ = false ∧ w.frozen? ⟨g, 9, none⟩ = false ∧ w.frozen? ⟨g, 10, none⟩ = false ∧ w.frozen? ⟨g, 11, none⟩ = false ∧ w.frozen? ⟨g, 12, none⟩ = false :=
  ⟨h.frozen 0, h.frozen 1, h.frozen 2, h.frozen 3, h.frozen 4, h.frozen 5, h.frozen 6, h.frozen 7, h.frozen 8, h.frozen 9, h.frozen 10, h.frozen 11, h.frozen 12⟩
theorem BoxE.below {w w' : World} {g : Nat} {x : E} {s : Value} (h : BoxE w g x s) (hb : Below w.heap.size w w') : BoxE w' g x s := (Kept.of hb []).blk h (by simp)
theorem BoxE.new (w : World) (x : E) (s : Value) : BoxE (w.alloc (.cells (enA x s) 29)) w.heap.size x s := Blk.new w _ _

/-- an entry as a block of its own, read whole -/
theorem run_loadEn (w : World) (g : Nat) (e : E) (A : Option Addr) (n c : Nat) (h : BoxE w g e (.slice A n c)) : (Instr.loadAt 29 (.pointer (some ⟨g, 0, none⟩))).run Try.prog w = .ok (.agg (enA e (.slice A n c))) w := by
  obtain ⟨c0, c1, c2, c3, c4, c5, c6, c7, c8, c9, c10, c11, c12⟩ := h.all
  clear h
  unfold enA at *
  go_simp

theorem own_mono14 {w : World} {base base' size n : Nat} {e : TypeId} {v : Value} {xs : List Value} (h : w.ownsRow base e size v n xs) (hb : base' ≤ base) : w.ownsRow base' e size v n xs := by
  refine ⟨h.1, h.2.imp id ?_⟩
  rintro ⟨g, cap, cur, h1, h2, h3⟩
  exact ⟨g, cap, cur, h1, Nat.le_trans hb h2, h3⟩
/-- a whole entry written over another one -/
theorem BoxE.over {w : World} {g : Nat} {y : E} {sy : Value} (h : BoxE w g y sy) (x : E) (s : Value) : BoxE (((((((((((((w.setCell ⟨g, 0, none⟩ (.int .i64 x.id)).setCell ⟨g, 1, none⟩ (.int .i64 x.cl)).setCell ⟨g, 2, none⟩ (.int .i64 x.tick)).setCell ⟨g, 3, none⟩ (.int .i64 x.cost)).setCell ⟨g, 4, none⟩ (.bool x.pin)).setCell ⟨g, 5, none⟩ (.int .i64 x.bid)).setCell ⟨g, 6, none⟩ (.int .i64 x.lo)).setCell ⟨g, 7, none⟩ (.int .i64 x.hi)).setCell ⟨g, 8, none⟩ (.int .i64 x.many)).setCell ⟨g, 9, none⟩ s).setCell ⟨g, 10, none⟩ (.int .i64 x.seq)).setCell ⟨g, 11, none⟩ (.int .i64 x.pl)).setCell ⟨g, 12, none⟩ (.int .i64 x.sz)) g x s := by
  have := (((((((((((((h.set 0 (.int .i64 x.id)).set 1 (.int .i64 x.cl)).set 2 (.int .i64 x.tick)).set 3 (.int .i64 x.cost)).set 4 (.bool x.pin)).set 5 (.int .i64 x.bid)).set 6 (.int .i64 x.lo)).set 7 (.int .i64 x.hi)).set 8 (.int .i64 x.many)).set 9 s).set 10 (.int .i64 x.seq)).set 11 (.int .i64 x.pl)).set 12 (.int .i64 x.sz))
  have e : ((((((((((((((enA y sy).setIfInBounds 0 (.int .i64 x.id)).setIfInBounds 1 (.int .i64 x.cl)).setIfInBounds 2 (.int .i64 x.tick)).setIfInBounds 3 (.int .i64 x.cost)).setIfInBounds 4 (.bool x.pin)).setIfInBounds 5 (.int .i64 x.bid)).setIfInBounds 6 (.int .i64 x.lo)).setIfInBounds 7 (.int .i64 x.hi)).setIfInBounds 8 (.int .i64 x.many)).setIfInBounds 9 s).setIfInBounds 10 (.int .i64 x.seq)).setIfInBounds 11 (.int .i64 x.pl)).setIfInBounds 12 (.int .i64 x.sz)) = enA x s := by
    unfold enA
    simp only [List.setIfInBounds_toArray, List.set_cons_succ, List.set_cons_zero]
  show Blk _ g (enA x s) _
  rw [← e]
  exact this
theorem kept13 (w : World) (g : Nat) (x : E) (s : Value) : Kept [g] w (((((((((((((w.setCell ⟨g, 0, none⟩ (.int .i64 x.id)).setCell ⟨g, 1, none⟩ (.int .i64 x.cl)).setCell ⟨g, 2, none⟩ (.int .i64 x.tick)).setCell ⟨g, 3, none⟩ (.int .i64 x.cost)).setCell ⟨g, 4, none⟩ (.bool x.pin)).setCell ⟨g, 5, none⟩ (.int .i64 x.bid)).setCell ⟨g, 6, none⟩ (.int .i64 x.lo)).setCell ⟨g, 7, none⟩ (.int .i64 x.hi)).setCell ⟨g, 8, none⟩ (.int .i64 x.many)).setCell ⟨g, 9, none⟩ s).setCell ⟨g, 10, none⟩ (.int .i64 x.seq)).setCell ⟨g, 11, none⟩ (.int .i64 x.pl)).setCell ⟨g, 12, none⟩ (.int .i64 x.sz)) := ((((((((((((((Kept.refl [g] w).setCell (by simp) (.int .i64 x.id)).setCell (by simp) (.int .i64 x.cl)).setCell (by simp) (.int .i64 x.tick)).setCell (by simp) (.int .i64 x.cost)).setCell (by simp) (.bool x.pin)).setCell (by simp) (.int .i64 x.bid)).setCell (by simp) (.int .i64 x.lo)).setCell (by simp) (.int .i64 x.hi)).setCell (by simp) (.int .i64 x.many)).setCell (by simp) s).setCell (by simp) (.int .i64 x.seq)).setCell (by simp) (.int .i64 x.pl)).setCell (by simp) (.int .i64 x.sz))
theorem own_kept14 {w w' : World} {base size n : Nat} {e : TypeId} {v : Value} {xs : List Value} {S : List Nat} (h : w.ownsRow base e size v n xs) (k : Kept S w w') (hS : ∀ s ∈ S, s < base) : w'.ownsRow base e size v n xs := by
  refine ⟨h.1, h.2.imp id ?_⟩
  rintro ⟨g, cap, cur, h1, h2, h3, h4⟩
  exact ⟨g, cap, cur, h1, h2, (k.block g (Array.getElem?_eq_some_iff.1 h3).1 (fun hm => by have := hS g hm; omega)).trans h3, h4⟩
end Go.Proofs.Ytcoedohfggeaiaa
