/-
  Layer 16: appends and slices of rows of spans in statements whose order is open (made by gen16/rps.py out of TrR8). Nothing is assumed.
-/
import Derived.Test.YthcchfhkeghkhaaRpB
import Derived.Test.YthcchfhkeghkhaaTrR6
import Derived.Test.YthcchfhkeghkhaaRc13
import Derived.Lib.MinMax

namespace Go.Proofs.Ythcchfhkeghkhaa
open Go.RowKit
set_option maxRecDepth 100000

theorem infoTr : (Try.prog.info? 29).map (fun i => (i.zero, i.size, i.bytes)) = some (some (.slice none 0 0), 1, 24) := by kernel_rfl
theorem lies_made16 (w : World) (g : Nat) (xs : List Value) (cs : Array Value) (t : TypeId) (h : xs = cs.toList) (hg : w.heap.size = g) : Lies (w.alloc (.cells cs t)) (some ⟨g, 0, none⟩) xs := by
  subst h hg; exact Lies.new w cs t
theorem soft_freshTr {w : World} {ρ : Operand → Value} {o : Oper} {B : Nat} (hB : B ≤ w.heap.size) (ho : o.op = .buildSlice 56 0 #[]) : softUpon Try.prog w (Fact.fresh B 29) ((execOp ρ o).run Try.prog w) := by
  have hr : (execOp ρ o).run Try.prog w = .ok (.value (.slice (some ⟨w.heap.size, 0, none⟩) 0 0)) (w.alloc (.cells #[] 29)) := by
    simp [execOp, ho, go_sem]
  rw [hr]
  exact ⟨⟨_, rfl, hB, heap_alloc_new w _⟩, (Below.refl _ _).alloc (Nat.le_refl _) _⟩
theorem soft_oneTr {w : World} {ρ : Operand → Value} {o : Oper} {y : Operand} {s : Tr} (hy : ρ y = .slice s.A s.ts.length s.cap) (ho : o.op = .buildSlice 56 1 #[(0, y)]) : softUpon Try.prog w (Fact.lie 1 (flatT [s])) ((execOp ρ o).run Try.prog w) := by
  have hr : (execOp ρ o).run Try.prog w = .ok (.value (.slice (some ⟨w.heap.size, 0, none⟩) 1 1)) (w.alloc (.cells #[.slice s.A s.ts.length s.cap] 29)) := by
    simp only [execOp, ho]
    simp [hy, go_sem]
  rw [hr]
  exact ⟨⟨_, _, rfl, lies_made16 w _ _ _ _ rfl rfl⟩, (Below.refl _ _).alloc (Nat.le_refl _) _⟩
theorem soft_app0Tr {w : World} {ρ : Operand → Value} {o : Oper} {s x : Operand} {B n : Nat} {l : List Tr} (hs : (Fact.fresh B 29).φ (ρ s) w) (hx : (Fact.lie n (flatT l)).φ (ρ x) w) (hn : l.length = n) (h300 : n ≤ 1000) (ho : o.op = .call { callee := .builtin .append, args := #[s, x], argTypes := #[56, 56] }) :
    softUpon Try.prog w (Fact.row B 29 1 n (flatT l)) ((execOp ρ o).run Try.prog w) := by
  obtain ⟨i0, hi, hz0, hz1, hz2⟩ := info_parts infoTr
  exact soft_app0 Try.underlying56 hi hz0 hz1 hz2 rfl (by decide) hs hx (by rw [flatT_length, hn]; omega) (flatT_one l) (by unfold maxLen; omega) (by omega) ho
theorem late_appTr {W : World} {a : Act} {o : Oper} {s x : Operand} {B n m : Nat} {l k : List Tr} {K : Act → World → Prop} {Q : Exit → Act → World → Prop} (hs : (Fact.row B 29 1 n (flatT l)).φ (a.eval s) W) (hx : (Fact.lie m (flatT k)).φ (a.eval x) W) (hm : k.length = m) (hb : n + m ≤ 1000) (hB : B ≤ W.heap.size) (ho : o.op = .call { callee := .builtin .append, args := #[s, x], argTypes := #[56, 56] })
    (hK : ∀ v w', w'.ownsRow B 29 1 v (n + m) (flatT (l ++ k)) → (∀ u0, Below B u0 W → Below B u0 w') → K (a.put o.dst v) w') : o.wp Try.prog a W K Q := by
  obtain ⟨i0, hi, hz0, hz1, hz2⟩ := info_parts infoTr
  refine late_app Try.underlying56 hi hz0 hz1 hz2 rfl (by decide) hs hx (by rw [flatT_length, hm]; omega) (flatT_one k) (by unfold maxLen; omega) (by omega) hB ho fun v w' h => hK v w' ?_
  have e : flatT (l ++ k) = flatT l ++ flatT k := flatT_append _ _
  rw [e]
  exact h
theorem run_dropTr (W : World) (A : Option Addr) (n cap j : Nat) (h1 : j ≤ n) (h2 : n ≤ cap) (_h3 : cap ≤ 9223372036854775807) (hA : A = none → n = 0) : (Instr.sliceAt 56 (.slice A n cap) (some (.int .i64 (j : Int))) none none).run Try.prog W = .ok (.slice (if cap = j then A else A.map (·.add j)) (n - j) (cap - j)) W := by
  rcases A with _ | ad
  · have h0 := hA rfl
    obtain rfl : j = 0 := by omega
    subst h0
    by_cases h : cap = 0
    · subst h
      go_simp
    · go_simp
  · by_cases h : cap = j
    · subst h
      obtain rfl : n = cap := by omega
      go_simp
    · go_simp
theorem run_takeTr (W : World) (A : Option Addr) (n cap j : Nat) (h1 : j ≤ n) (h2 : n ≤ cap) (_h3 : cap ≤ 9223372036854775807) (hA : A = none → n = 0) : (Instr.sliceAt 56 (.slice A n cap) none (some (.int .i64 (j : Int))) none).run Try.prog W = .ok (.slice A j cap) W := by
  rcases A with _ | ad
  · have h0 := hA rfl
    obtain rfl : j = 0 := by omega
    subst h0
    go_simp
  · have h : ¬ cap < j := by omega
    go_simp
theorem lies_noneTr {w : World} {A : Option Addr} {l : List Tr} (h : Lies w A (flatT l)) : A = none → l.length = 0 := by
  intro e
  rcases h with h | ⟨ad, e2, _⟩
  · have := congrArg List.length h
    rw [flatT_length] at this
    simpa using this
  · rw [e] at e2; cases e2
theorem soft_takeTr {w : World} {ρ : Operand → Value} {o : Oper} {x y : Operand} {A : Option Addr} {n cap j : Nat} {l : List Tr} (hx : ρ x = .slice A n cap) (hy : ρ y = .int .i64 (j : Int)) (hn : l.length = n) (h1 : j ≤ n) (h2 : n ≤ cap) (h3 : cap ≤ 9223372036854775807) (hA : Lies w A (flatT l)) (ho : o.op = .slice 56 x none (some y) none) :
    softUpon Try.prog w (Fact.lie j (flatT (l.take j))) ((execOp ρ o).run Try.prog w) := by
  have e : (execOp ρ o).run Try.prog w = .ok (.value (.slice A j cap)) w := by
    simp [execOp, ho, hx, hy, run_takeTr w A n cap j h1 h2 h3 (by rw [← hn]; exact lies_noneTr hA)]
  rw [e]
  refine ⟨⟨_, _, rfl, ?_⟩, Below.refl _ _⟩
  have e2 : flatT (l.take j) = (flatT l).take j := by simp [flatT, List.map_take]
  rw [e2]
  exact hA.take _
theorem run_dropTLr {w : World} {ρ : Operand → Value} {o : Oper} {x y : Operand} {A : Option Addr} {n cap j : Nat} (hx : ρ x = .slice A n cap) (hy : ρ y = .int .i64 (j : Int)) (h1 : j ≤ n) (h2 : n ≤ cap) (h3 : cap ≤ 9223372036854775807) (hA : A = none → n = 0) (ho : o.op = .slice 56 x (some y) none none) :
    (execOp ρ o).run Try.prog w = .ok (.value (.slice (if cap = j then A else A.map (·.add j)) (n - j) (cap - j))) w := by
  simp [execOp, ho, hx, hy, run_dropTr w A n cap j h1 h2 h3 hA]
theorem drop_liesTr {w : World} {A : Option Addr} {n cap j : Nat} {l : List Tr} (hn : l.length = n) (h2 : n ≤ cap) (hA : Lies w A (flatT l)) : Lies w (if cap = j then A else A.map (·.add j)) (flatT (l.drop j)) := by
  have e2 : flatT (l.drop j) = (flatT l).drop j := by simp [flatT, List.map_drop]
  rw [e2]
  exact hA.drop (by rw [flatT_length, hn]; exact h2)
/-- what the open region keeps of three slots -/
def ThreeTr (B j n : Nat) (l : List Tr) (s : Tr) (W : World) (p : Nat) (vs : List Value) (w : World) : Prop := Below B W w ∧ (p = 1 → w.ownsRow B 29 1 (vs.getD 0 undef) (j + 1) (flatT (l.take j ++ [s]))) ∧ (2 ≤ p → w.ownsRow B 29 1 (vs.getD 1 undef) (n + 1) (flatT (l.take j ++ [s] ++ l.drop j))) ∧ (p = 3 → vs.getD 2 undef = vs.getD 1 undef)
end Go.Proofs.Ythcchfhkeghkhaa
