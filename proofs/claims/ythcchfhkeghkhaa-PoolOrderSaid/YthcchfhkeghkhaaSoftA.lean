/-
  Appends in a statement whose order is open: onto an empty slice that was just made (memory is only made), and, late, onto memory of one's own. Nothing is assumed.
-/
import Derived.Test.YthcchfhkeghkhaaSoftL
import Derived.Test.YthcchfhkeghkhaaTrA
import Derived.Test.YthcchfhkeghkhaaGen

namespace Go.Proofs.Ythcchfhkeghkhaa
open Go.RowKit
set_option maxRecDepth 100000

/-! of spans -/
theorem soft_freshS {w : World} {ρ : Operand → Value} {o : Oper} {B : Nat} (hB : B ≤ w.heap.size) (ho : o.op = .buildSlice 29 0 #[]) : softUpon Try.prog w (Fact.fresh B 45) ((execOp ρ o).run Try.prog w) := by
  have hr : (execOp ρ o).run Try.prog w = .ok (.value (.slice (some ⟨w.heap.size, 0, none⟩) 0 0)) (w.alloc (.cells #[] 45)) := by
    simp [execOp, ho, go_sem]
  rw [hr]
  exact ⟨⟨_, rfl, hB, heap_alloc_new w _⟩, (Below.refl _ _).alloc (Nat.le_refl _) _⟩
theorem soft_oneS {w : World} {ρ : Operand → Value} {o : Oper} {y : Operand} {x : Plain.Sp} (hy : ρ y = .agg #[.int .i64 x.t, .int .i64 x.i, .int .i64 x.p, .int .i64 x.s, .int .i64 x.d, .string (str x.sv), .string (str x.nm)]) (ho : o.op = .buildSlice 29 1 #[(0, y)]) : softUpon Try.prog w (Fact.lie 1 (flat [x])) ((execOp ρ o).run Try.prog w) := by
  have hr : (execOp ρ o).run Try.prog w = .ok (.value (.slice (some ⟨w.heap.size, 0, none⟩) 1 1)) (w.alloc (.cells #[.int .i64 x.t, .int .i64 x.i, .int .i64 x.p, .int .i64 x.s, .int .i64 x.d, .string (str x.sv), .string (str x.nm)] 45)) := by
    simp [execOp, ho, hy, go_sem]
  rw [hr]
  exact ⟨⟨_, _, rfl, lies_made w _ _ _ _ rfl rfl⟩, (Below.refl _ _).alloc (Nat.le_refl _) _⟩
theorem soft_app0S {w : World} {ρ : Operand → Value} {o : Oper} {s x : Operand} {B n cap : Nat} {A : Option Addr} {l : List Plain.Sp} (hs : (Fact.fresh B 45).φ (ρ s) w) (hx : ρ x = .slice A n cap) (hA : Lies w A (flat l)) (hn : l.length = n) (h300 : n ≤ 1000) (ho : o.op = .call { callee := .builtin .append, args := #[s, x], argTypes := #[29, 29] }) :
    softUpon Try.prog w (Fact.row B 45 7 n (flat l)) ((execOp ρ o).run Try.prog w) := by
  obtain ⟨i0, hi, hz0, hz1, hz2⟩ := info_parts infoSp
  exact soft_app0 Try.underlying29 hi hz0 hz1 hz2 rfl (by decide) hs ⟨A, cap, hx, hA⟩ (by rw [flat_length, hn]) (flat_one l) (by unfold maxLen; omega) (by omega) ho
theorem late_appS {W : World} {a : Act} {o : Oper} {s x : Operand} {B n m : Nat} {l k : List Plain.Sp} {K : Act → World → Prop} {Q : Exit → Act → World → Prop} (hs : (Fact.row B 45 7 n (flat l)).φ (a.eval s) W) (hx : (Fact.lie m (flat k)).φ (a.eval x) W) (hm : k.length = m) (hb : n + m ≤ 1000) (hB : B ≤ W.heap.size) (ho : o.op = .call { callee := .builtin .append, args := #[s, x], argTypes := #[29, 29] })
    (hK : ∀ v w', w'.ownsRow B 45 7 v (n + m) (flat (l ++ k)) → (∀ u0, Below B u0 W → Below B u0 w') → K (a.put o.dst v) w') : o.wp Try.prog a W K Q := by
  obtain ⟨i0, hi, hz0, hz1, hz2⟩ := info_parts infoSp
  refine late_app Try.underlying29 hi hz0 hz1 hz2 rfl (by decide) hs hx (by rw [flat_length, hm]) (flat_one k) (by unfold maxLen; omega) (by omega) hB ho fun v w' h => hK v w' ?_
  rw [flat_append]
  exact h
theorem flat_take (l : List Plain.Sp) (k : Nat) : (flat l).take (k * 7) = flat (l.take k) := by
  induction l generalizing k with
  | nil => simp [flat]
  | cons x l ih =>
    rcases k with _ | k
    · simp [flat]
    · have h : flat (x :: l) = spanCells x ++ flat l := rfl
      have h2 : flat ((x :: l).take (k + 1)) = spanCells x ++ flat (l.take k) := rfl
      rw [h, h2, List.take_append, spanCells_length, ← ih k, List.take_of_length_le (by rw [spanCells_length]; omega)]
      congr 2
      omega
theorem flat_drop (l : List Plain.Sp) (k : Nat) : (flat l).drop (k * 7) = flat (l.drop k) := by
  induction l generalizing k with
  | nil => simp [flat]
  | cons x l ih =>
    rcases k with _ | k
    · simp [flat]
    · have h : flat (x :: l) = spanCells x ++ flat l := rfl
      have h2 : flat ((x :: l).drop (k + 1)) = flat (l.drop k) := rfl
      rw [h, h2, List.drop_append, spanCells_length, ← ih k, List.drop_of_length_le (by rw [spanCells_length]; omega), List.nil_append]
      congr 1
      omega
theorem slice_loS (W : World) (ad : Addr) (n cap j : Nat) (h1 : j ≤ n) (h2 : n ≤ cap) (h3 : cap ≤ 9223372036854775807) : (Instr.sliceAt 29 (.slice (some ad) n cap) (some (.int .i64 (j : Int))) none none).run Try.prog W = .ok (.slice (some (if cap = j then ad else ad.add (j * 7))) (n - j) (cap - j)) W := by
  by_cases h : cap = j
  · subst h
    obtain rfl : n = cap := by omega
    go_simp
  · go_simp
theorem slice_hiS (W : World) (ad : Addr) (n cap j : Nat) (h1 : j ≤ n) (h2 : n ≤ cap) (_h3 : cap ≤ 9223372036854775807) : (Instr.sliceAt 29 (.slice (some ad) n cap) none (some (.int .i64 (j : Int))) none).run Try.prog W = .ok (.slice (some ad) j cap) W := by
  have h : ¬ cap < j := by omega
  go_simp
/-- the spans from a place on -/
theorem soft_dropS {w : World} {ρ : Operand → Value} {o : Oper} {x y : Operand} {ad : Addr} {n cap j : Nat} {l : List Plain.Sp} (hx : ρ x = .slice (some ad) n cap) (hy : ρ y = .int .i64 (j : Int)) (hn : l.length = n) (h1 : j ≤ n) (h2 : n ≤ cap) (h3 : cap ≤ 9223372036854775807) (hA : Lies w (some ad) (flat l)) (ho : o.op = .slice 29 x (some y) none none) :
    softUpon Try.prog w (Fact.lie (n - j) (flat (l.drop j))) ((execOp ρ o).run Try.prog w) := by
  have e : (execOp ρ o).run Try.prog w = .ok (.value (.slice (some (if cap = j then ad else ad.add (j * 7))) (n - j) (cap - j))) w := by
    simp [execOp, ho, hx, hy, slice_loS w ad n cap j h1 h2 h3]
  rw [e]
  refine ⟨⟨_, _, rfl, ?_⟩, Below.refl _ _⟩
  rw [← flat_drop]
  have := hA.drop (k := j * 7) (cap := cap * 7) (by rw [flat_length, hn]; omega)
  by_cases h : cap = j
  · subst h; simpa using this
  · have h7 : cap * 7 ≠ j * 7 := by omega
    simpa [h, h7] using this
/-- the spans up to a place -/
theorem soft_takeS {w : World} {ρ : Operand → Value} {o : Oper} {x y : Operand} {ad : Addr} {n cap j : Nat} (hx : ρ x = .slice (some ad) n cap) (hy : ρ y = .int .i64 (j : Int)) (h1 : j ≤ n) (h2 : n ≤ cap) (h3 : cap ≤ 9223372036854775807) (ho : o.op = .slice 29 x none (some y) none) :
    softUpon Try.prog w (Fact.is (.slice (some ad) j cap)) ((execOp ρ o).run Try.prog w) := soft_slice hx hy (slice_hiS w ad n cap j h1 h2 h3) ho
theorem add_one (W : World) (k : Nat) (h : k < 9223372036854775807) : (binOp .add 3 (.int .i64 (k : Int)) (.int .i64 1)).run Try.prog W = .ok (.int .i64 ((k + 1 : Nat) : Int)) W := by
  have hw : IntKind.i64.wrap ((k : Int) + 1) = (k : Int) + 1 := by simp [IntKind.wrap, IntKind.bits, IntKind.signed]; omega
  go_simp
theorem soft_addOne {w : World} {ρ : Operand → Value} {o : Oper} {x y : Operand} {k : Nat} (hx : ρ x = .int .i64 (k : Int)) (hy : ρ y = .int .i64 1) (h : k < 9223372036854775807) (ho : o.op = .binOp .add 3 x y 3) : softUpon Try.prog w (Fact.is (.int .i64 ((k + 1 : Nat) : Int))) ((execOp ρ o).run Try.prog w) :=
  soft_bin hx hy ho rfl (add_one w k h)
/-- what an open region keeps of two slots, the second one a copy of the first -/
def Two (B n : Nat) (l : List Plain.Sp) (W : World) (p : Nat) (vs : List Value) (w : World) : Prop := Below B W w ∧ w.ownsRow B 45 7 (vs.getD 0 undef) n (flat l) ∧ (p = 2 → vs.getD 1 undef = vs.getD 0 undef)
end Go.Proofs.Ythcchfhkeghkhaa
