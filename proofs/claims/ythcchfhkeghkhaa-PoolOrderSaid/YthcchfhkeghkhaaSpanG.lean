/-
  SpGet: Layer 3: span.takeSpan and span.Get: what they answer, of any bytes. Assumed: that the bytes lie in memory, and that errors.errorType is what its own text lays.
  SpG2: Layer 3: span.Get: what it answers, of any bytes. Assumed: that the bytes lie in memory, and that errors.errorType is what its own text lays.
-/
import Derived.Test.YthcchfhkeghkhaaSpanR
import Derived.Test.YthcchfhkeghkhaaSpAs
import Derived.Test.YthcchfhkeghkhaaSpanA
import Derived.RegionTactic
import Derived.BigRegion

namespace Go.Proofs.Ythcchfhkeghkhaa
open Go.RowKit
set_option maxRecDepth 100000

/-- the reader's error behind the span: what a part has, or that it is not right -/
def endErr (b : List UInt8) : Nat := if (runT b 2).2 = 0 ∧ (Plain.parts b).1.right = false then 12 else (runT b 2).2

theorem endErr_is (b : List UInt8) : endErr b = if (runT b 2).2 = 0 ∧ Plain.rightN (valN b 0) (valN b 1) (valN b 2) (valN b 3) (valN b 4) (str (valT b 0)).size (str (valT b 1)).size = false then 12 else (runT b 2).2 := by
  unfold endErr
  simp only [parts_is, Plain.Sp.right, str_size]
def zeroSp : Array Value := #[.int .i64 0, .int .i64 0, .int .i64 0, .int .i64 0, .int .i64 0, .string ⟨#[]⟩, .string ⟨#[]⟩]
theorem spN_zero (b : List UInt8) : spN b 0 = #[.int .i64 0, .int .i64 0, .int .i64 0, .int .i64 0, .int .i64 0, .string ⟨#[]⟩, .string ⟨#[]⟩] := by simp [spN]
theorem spT_two (b : List UInt8) : spT b 2 = #[.int .i64 (valN b 0 : Nat), .int .i64 (valN b 1 : Nat), .int .i64 (valN b 2 : Nat), .int .i64 (valN b 3 : Nat), .int .i64 (valN b 4 : Nat), .string (str (valT b 0)), .string (str (valT b 1))] := by simp [spT]
theorem three_new (w : World) (z1 z2 z3 : Array Value) (t1 t2 t3 : TypeId) :
    Kept [] w (((w.alloc (.cells z1 t1)).alloc (.cells z2 t2)).alloc (.cells z3 t3)) ∧ Blk (((w.alloc (.cells z1 t1)).alloc (.cells z2 t2)).alloc (.cells z3 t3)) w.heap.size z1 t1 ∧ Blk (((w.alloc (.cells z1 t1)).alloc (.cells z2 t2)).alloc (.cells z3 t3)) (w.heap.size + 1) z2 t2 ∧ Blk (((w.alloc (.cells z1 t1)).alloc (.cells z2 t2)).alloc (.cells z3 t3)) (w.heap.size + 1 + 1) z3 t3 ∧ (((w.alloc (.cells z1 t1)).alloc (.cells z2 t2)).alloc (.cells z3 t3)).heap.size = w.heap.size + 3 := by
  have h2 := Blk.new (w.alloc (.cells z1 t1)) z2 t2
  have h3 := Blk.new ((w.alloc (.cells z1 t1)).alloc (.cells z2 t2)) z3 t3
  simp only [World.size_alloc] at h2 h3
  exact ⟨(((Kept.refl _ _).alloc _).alloc _).alloc _, (((Kept.refl [] _).alloc _).alloc _).blk (Blk.new w z1 t1) (by simp), ((Kept.refl [] _).alloc _).blk h2 (by simp), h3, by simp⟩

/-- a span stored whole -/
theorem seven (w : World) (r : Nat) (z0 z1 z2 z3 z4 z5 z6 v0 v1 v2 v3 v4 v5 v6 : Value) (t : TypeId) (h : Blk w r #[z0, z1, z2, z3, z4, z5, z6] t) :
    Blk (((((((w.setCell ⟨r, 0, none⟩ v0).setCell ⟨r, 1, none⟩ v1).setCell ⟨r, 2, none⟩ v2).setCell ⟨r, 3, none⟩ v3).setCell ⟨r, 4, none⟩ v4).setCell ⟨r, 5, none⟩ v5).setCell ⟨r, 6, none⟩ v6) r #[v0, v1, v2, v3, v4, v5, v6] t ∧
    Kept [r] w (((((((w.setCell ⟨r, 0, none⟩ v0).setCell ⟨r, 1, none⟩ v1).setCell ⟨r, 2, none⟩ v2).setCell ⟨r, 3, none⟩ v3).setCell ⟨r, 4, none⟩ v4).setCell ⟨r, 5, none⟩ v5).setCell ⟨r, 6, none⟩ v6) :=
  ⟨by have := ((((((h.set 0 v0).set 1 v1).set 2 v2).set 3 v3).set 4 v4).set 5 v5).set 6 v6; simpa only [List.setIfInBounds_toArray, List.set_cons_succ, List.set_cons_zero] using this, ((((((((Kept.refl _ _).setCell (by simp) _).setCell (by simp) _).setCell (by simp) _).setCell (by simp) _).setCell (by simp) _).setCell (by simp) _).setCell (by simp) _)⟩
theorem Blk.seven {w : World} {r : Nat} {z0 z1 z2 z3 z4 z5 z6 : Value} {t : TypeId} (h : Blk w r #[z0, z1, z2, z3, z4, z5, z6] t) :
    w.cell? ⟨r, 0, none⟩ = some z0 ∧ w.cell? ⟨r, 1, none⟩ = some z1 ∧ w.cell? ⟨r, 2, none⟩ = some z2 ∧ w.cell? ⟨r, 3, none⟩ = some z3 ∧ w.cell? ⟨r, 4, none⟩ = some z4 ∧ w.cell? ⟨r, 5, none⟩ = some z5 ∧ w.cell? ⟨r, 6, none⟩ = some z6 :=
  ⟨h.cell 0, h.cell 1, h.cell 2, h.cell 3, h.cell 4, h.cell 5, h.cell 6⟩

end Go.Proofs.Ythcchfhkeghkhaa

namespace Go.Proofs.Ythcchfhkeghkhaa
open Go.RowKit
set_option maxRecDepth 100000

theorem rd_err (b : List UInt8) (h : endErr b ≠ 0) : Plain.Sp.rd b = (Plain.Sp.zero, 0, endErr b) := by
  unfold Plain.Sp.rd
  have e : (Plain.parts b).2.2 = (runT b 2).2 := by rw [parts_is]
  unfold endErr at h ⊢
  rw [e]
  generalize (runT b 2).2 = ee at *
  by_cases h0 : ee = 0
  · subst h0
    by_cases hr : (Plain.parts b).1.right = false
    · simp [hr]
    · rw [if_neg (by simp [hr])] at h; simp at h
  · rw [if_pos h0, if_neg (by simp [h0])]
theorem rd_ok (b : List UInt8) (h : endErr b = 0) : Plain.Sp.rd b = (⟨valN b 0, valN b 1, valN b 2, valN b 3, valN b 4, valT b 0, valT b 1⟩, (runT b 2).1, 0) := by
  unfold Plain.Sp.rd
  have e : (Plain.parts b).2.2 = (runT b 2).2 := by rw [parts_is]
  have e1 : (Plain.parts b).2.1 = (runT b 2).1 := by rw [parts_is]
  have e2 : (Plain.parts b).1 = ⟨valN b 0, valN b 1, valN b 2, valN b 3, valN b 4, valT b 0, valT b 1⟩ := by rw [parts_is]
  unfold endErr at h
  rw [e, e1]
  generalize (runT b 2).2 = ee at *
  by_cases h0 : ee = 0
  · subst h0
    by_cases hr : (Plain.parts b).1.right = false
    · rw [if_pos ⟨rfl, hr⟩] at h; simp at h
    · rw [if_neg (by simp), if_pos (by simpa using hr), e2]
  · rw [if_neg (by simp [h0])] at h; exact absurd h h0
theorem endErr_code (b : List UInt8) : endErr b = 0 ∨ endErr b = 11 ∨ endErr b = 12 := by
  have := Plain.parts_code b
  rw [parts_is] at this
  unfold endErr
  split
  · exact .inr (.inr rfl)
  · exact this
theorem two_new (w : World) (z1 z2 : Array Value) (t1 t2 : TypeId) :
    Kept [] w ((w.alloc (.cells z1 t1)).alloc (.cells z2 t2)) ∧ Blk ((w.alloc (.cells z1 t1)).alloc (.cells z2 t2)) w.heap.size z1 t1 ∧ Blk ((w.alloc (.cells z1 t1)).alloc (.cells z2 t2)) (w.heap.size + 1) z2 t2 ∧ ((w.alloc (.cells z1 t1)).alloc (.cells z2 t2)).heap.size = w.heap.size + 2 := by
  have h2 := Blk.new (w.alloc (.cells z1 t1)) z2 t2
  simp only [World.size_alloc] at h2
  exact ⟨((Kept.refl _ _).alloc _).alloc _, (((Kept.refl [] _).alloc _)).blk (Blk.new w z1 t1) (by simp), h2, by simp⟩

end Go.Proofs.Ythcchfhkeghkhaa
