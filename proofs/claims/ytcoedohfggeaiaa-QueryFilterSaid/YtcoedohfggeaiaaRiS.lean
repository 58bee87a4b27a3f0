/-
  Layer 14: appends and slices of entries in statements whose order is open (made by gen14/ris.py out of SoftI). Nothing is assumed.
-/
import Derived.Test.YtcoedohfggeaiaaRiC

namespace Go.Proofs.Ytcoedohfggeaiaa
open Go.RowKit Go.Maps En
set_option maxRecDepth 100000

theorem lies_made (w : World) (g : Nat) (xs : List Value) (cs : Array Value) (t : TypeId) (h : xs = cs.toList) (hg : w.heap.size = g) : Lies (w.alloc (.cells cs t)) (some ⟨g, 0, none⟩) xs := by
  subst h hg; exact Lies.new w cs t
theorem soft_freshE {w : World} {ρ : Operand → Value} {o : Oper} {B : Nat} (hB : B ≤ w.heap.size) (ho : o.op = .buildSlice 22 0 #[]) : softUpon Try.prog w (Fact.fresh B 29) ((execOp ρ o).run Try.prog w) := by
  have hr : (execOp ρ o).run Try.prog w = .ok (.value (.slice (some ⟨w.heap.size, 0, none⟩) 0 0)) (w.alloc (.cells #[] 29)) := by
    simp [execOp, ho, go_sem]
  rw [hr]
  exact ⟨⟨_, rfl, hB, heap_alloc_new w _⟩, (Below.refl _ _).alloc (Nat.le_refl _) _⟩
theorem soft_oneE {w : World} {ρ : Operand → Value} {o : Oper} {y : Operand} {x : Ent} (hy : ρ y = .agg (enA x.e (.slice x.A x.e.sv.length x.cap))) (ho : o.op = .buildSlice 22 1 #[(0, y)]) : softUpon Try.prog w (Fact.lie 1 (flatEn [x])) ((execOp ρ o).run Try.prog w) := by
  unfold enA at hy
  have hr : (execOp ρ o).run Try.prog w = .ok (.value (.slice (some ⟨w.heap.size, 0, none⟩) 1 1)) (w.alloc (.cells (enA x.e (.slice x.A x.e.sv.length x.cap)) 29)) := by
    unfold enA
    simp [execOp, ho, hy, go_sem]
  rw [hr]
  exact ⟨⟨_, _, rfl, lies_made w _ _ _ _ rfl rfl⟩, (Below.refl _ _).alloc (Nat.le_refl _) _⟩
theorem soft_app0E {w : World} {ρ : Operand → Value} {o : Oper} {s x : Operand} {B n cap : Nat} {A : Option Addr} {l : List Ent} (hs : (Fact.fresh B 29).φ (ρ s) w) (hx : ρ x = .slice A n cap) (hA : Lies w A (flatEn l)) (hn : l.length = n) (h300 : n ≤ 1000) (ho : o.op = .call { callee := .builtin .append, args := #[s, x], argTypes := #[22, 22] }) :
    softUpon Try.prog w (Fact.row B 29 13 n (flatEn l)) ((execOp ρ o).run Try.prog w) := by
  obtain ⟨i0, hi, hz0, hz1, hz2⟩ := info_parts infoEn
  exact soft_app0 Try.underlying22 hi hz0 hz1 hz2 rfl (by decide) hs ⟨A, cap, hx, hA⟩ (by rw [flatEn_length, hn]) (flatEn_one l) (by unfold maxLen; omega) (by omega) ho
theorem late_appE {W : World} {a : Act} {o : Oper} {s x : Operand} {B n m : Nat} {l k : List Ent} {K : Act → World → Prop} {Q : Exit → Act → World → Prop} (hs : (Fact.row B 29 13 n (flatEn l)).φ (a.eval s) W) (hx : (Fact.lie m (flatEn k)).φ (a.eval x) W) (hm : k.length = m) (hb : n + m ≤ 1000) (hB : B ≤ W.heap.size) (ho : o.op = .call { callee := .builtin .append, args := #[s, x], argTypes := #[22, 22] })
    (hK : ∀ v w', w'.ownsRow B 29 13 v (n + m) (flatEn (l ++ k)) → (∀ u0, Below B u0 W → Below B u0 w') → K (a.put o.dst v) w') : o.wp Try.prog a W K Q := by
  obtain ⟨i0, hi, hz0, hz1, hz2⟩ := info_parts infoEn
  refine late_app Try.underlying22 hi hz0 hz1 hz2 rfl (by decide) hs hx (by rw [flatEn_length, hm]) (flatEn_one k) (by unfold maxLen; omega) (by omega) hB ho fun v w' h => hK v w' ?_
  rw [flatEn_append]
  exact h
theorem flatEn_take (l : List Ent) (k : Nat) : (flatEn l).take (k * 13) = flatEn (l.take k) := by
  induction l generalizing k with
  | nil => simp [flatEn]
  | cons x l ih =>
    rcases k with _ | k
    · simp [flatEn]
    · have h : flatEn (x :: l) = entCs x ++ flatEn l := rfl
      have h2 : flatEn ((x :: l).take (k + 1)) = entCs x ++ flatEn (l.take k) := rfl
      rw [h, h2, List.take_append, entCs_length, ← ih k, List.take_of_length_le (by rw [entCs_length]; omega)]
      congr 2
      omega
theorem flatEn_drop (l : List Ent) (k : Nat) : (flatEn l).drop (k * 13) = flatEn (l.drop k) := by
  induction l generalizing k with
  | nil => simp [flatEn]
  | cons x l ih =>
    rcases k with _ | k
    · simp [flatEn]
    · have h : flatEn (x :: l) = entCs x ++ flatEn l := rfl
      have h2 : flatEn ((x :: l).drop (k + 1)) = flatEn (l.drop k) := rfl
      rw [h, h2, List.drop_append, entCs_length, ← ih k, List.drop_of_length_le (by rw [entCs_length]; omega), List.nil_append]
      congr 1
      omega
theorem slice_loE (W : World) (ad : Addr) (n cap j : Nat) (h1 : j ≤ n) (h2 : n ≤ cap) (h3 : cap ≤ 9223372036854775807) : (Instr.sliceAt 22 (.slice (some ad) n cap) (some (.int .i64 (j : Int))) none none).run Try.prog W = .ok (.slice (some (if cap = j then ad else ad.add (j * 13))) (n - j) (cap - j)) W := by
  by_cases h : cap = j
  · subst h
    obtain rfl : n = cap := by omega
    go_simp
  · go_simp
theorem slice_hiE (W : World) (ad : Addr) (n cap j : Nat) (h1 : j ≤ n) (h2 : n ≤ cap) (_h3 : cap ≤ 9223372036854775807) : (Instr.sliceAt 22 (.slice (some ad) n cap) none (some (.int .i64 (j : Int))) none).run Try.prog W = .ok (.slice (some ad) j cap) W := by
  have h : ¬ cap < j := by omega
  go_simp
/-- the spans from a place on -/
theorem soft_dropE {w : World} {ρ : Operand → Value} {o : Oper} {x y : Operand} {ad : Addr} {n cap j : Nat} {l : List Ent} (hx : ρ x = .slice (some ad) n cap) (hy : ρ y = .int .i64 (j : Int)) (hn : l.length = n) (h1 : j ≤ n) (h2 : n ≤ cap) (h3 : cap ≤ 9223372036854775807) (hA : Lies w (some ad) (flatEn l)) (ho : o.op = .slice 22 x (some y) none none) :
    softUpon Try.prog w (Fact.lie (n - j) (flatEn (l.drop j))) ((execOp ρ o).run Try.prog w) := by
  have e : (execOp ρ o).run Try.prog w = .ok (.value (.slice (some (if cap = j then ad else ad.add (j * 13))) (n - j) (cap - j))) w := by
    simp [execOp, ho, hx, hy, slice_loE w ad n cap j h1 h2 h3]
  rw [e]
  refine ⟨⟨_, _, rfl, ?_⟩, Below.refl _ _⟩
  rw [← flatEn_drop]
  have := hA.drop (k := j * 13) (cap := cap * 13) (by rw [flatEn_length, hn]; omega)
  by_cases h : cap = j
  · subst h; simpa using this
  · have h5 : cap * 13 ≠ j * 13 := by omega
    simpa [h, h5] using this
/-- the spans up to a place -/
theorem soft_takeE {w : World} {ρ : Operand → Value} {o : Oper} {x y : Operand} {ad : Addr} {n cap j : Nat} (hx : ρ x = .slice (some ad) n cap) (hy : ρ y = .int .i64 (j : Int)) (h1 : j ≤ n) (h2 : n ≤ cap) (h3 : cap ≤ 9223372036854775807) (ho : o.op = .slice 22 x none (some y) none) :
    softUpon Try.prog w (Fact.is (.slice (some ad) j cap)) ((execOp ρ o).run Try.prog w) := soft_slice hx hy (slice_hiE w ad n cap j h1 h2 h3) ho
theorem add_one (W : World) (k : Nat) (h : k < 9223372036854775807) : (binOp .add 3 (.int .i64 (k : Int)) (.int .i64 1)).run Try.prog W = .ok (.int .i64 ((k + 1 : Nat) : Int)) W := by
  have hw : IntKind.i64.wrap ((k : Int) + 1) = (k : Int) + 1 := by simp [IntKind.wrap, IntKind.bits, IntKind.signed]; omega
  go_simp
theorem soft_addOne {w : World} {ρ : Operand → Value} {o : Oper} {x y : Operand} {k : Nat} (hx : ρ x = .int .i64 (k : Int)) (hy : ρ y = .int .i64 1) (h : k < 9223372036854775807) (ho : o.op = .binOp .add 3 x y 3) : softUpon Try.prog w (Fact.is (.int .i64 ((k + 1 : Nat) : Int))) ((execOp ρ o).run Try.prog w) :=
  soft_bin hx hy ho rfl (add_one w k h)
/-- what an open region keeps of two slots, the second one a copy of the first -/
theorem run_dropE (W : World) (A : Option Addr) (n cap j : Nat) (h1 : j ≤ n) (h2 : n ≤ cap) (h3 : cap ≤ 9223372036854775807) (hA : A = none → n = 0) : (Instr.sliceAt 22 (.slice A n cap) (some (.int .i64 (j : Int))) none none).run Try.prog W = .ok (.slice (if cap = j then A else A.map (·.add (j * 13))) (n - j) (cap - j)) W := by
  rcases A with _ | ad
  · have h0 := hA rfl
    obtain rfl : j = 0 := by omega
    subst h0
    by_cases h : cap = 0
    · subst h
      go_simp
    · go_simp
  · have := slice_loE W ad n cap j h1 h2 h3
    rw [this]
    by_cases h : cap = j
    · simp [h]
    · simp [h]
theorem run_takeE (W : World) (A : Option Addr) (n cap j : Nat) (h1 : j ≤ n) (h2 : n ≤ cap) (h3 : cap ≤ 9223372036854775807) (hA : A = none → n = 0) : (Instr.sliceAt 22 (.slice A n cap) none (some (.int .i64 (j : Int))) none).run Try.prog W = .ok (.slice A j cap) W := by
  rcases A with _ | ad
  · have h0 := hA rfl
    obtain rfl : j = 0 := by omega
    subst h0
    go_simp
  · exact slice_hiE W ad n cap j h1 h2 h3
theorem lies_noneE {w : World} {A : Option Addr} {l : List Ent} (h : Lies w A (flatEn l)) : A = none → l.length = 0 := by
  intro e
  rcases h with h | ⟨ad, e2, _⟩
  · have := congrArg List.length h
    rw [flatEn_length] at this
    simp at this
    omega
  · rw [e] at e2; cases e2
theorem soft_takeLE {w : World} {ρ : Operand → Value} {o : Oper} {x y : Operand} {A : Option Addr} {n cap j : Nat} {l : List Ent} (hx : ρ x = .slice A n cap) (hy : ρ y = .int .i64 (j : Int)) (hn : l.length = n) (h1 : j ≤ n) (h2 : n ≤ cap) (h3 : cap ≤ 9223372036854775807) (hA : Lies w A (flatEn l)) (ho : o.op = .slice 22 x none (some y) none) :
    softUpon Try.prog w (Fact.lie j (flatEn (l.take j))) ((execOp ρ o).run Try.prog w) := by
  have e : (execOp ρ o).run Try.prog w = .ok (.value (.slice A j cap)) w := by
    simp [execOp, ho, hx, hy, run_takeE w A n cap j h1 h2 h3 (by rw [← hn]; exact lies_noneE hA)]
  rw [e]
  refine ⟨⟨_, _, rfl, ?_⟩, Below.refl _ _⟩
  rw [← flatEn_take]
  exact hA.take _
theorem run_dropLE {w : World} {ρ : Operand → Value} {o : Oper} {x y : Operand} {A : Option Addr} {n cap j : Nat} (hx : ρ x = .slice A n cap) (hy : ρ y = .int .i64 (j : Int)) (h1 : j ≤ n) (h2 : n ≤ cap) (h3 : cap ≤ 9223372036854775807) (hA : A = none → n = 0) (ho : o.op = .slice 22 x (some y) none none) :
    (execOp ρ o).run Try.prog w = .ok (.value (.slice (if cap = j then A else A.map (·.add (j * 13))) (n - j) (cap - j))) w := by
  simp [execOp, ho, hx, hy, run_dropE w A n cap j h1 h2 h3 hA]
theorem drop_liesE {w : World} {A : Option Addr} {n cap j : Nat} {l : List Ent} (hn : l.length = n) (h2 : n ≤ cap) (hA : Lies w A (flatEn l)) : Lies w (if cap = j then A else A.map (·.add (j * 13))) (flatEn (l.drop j)) := by
  rw [← flatEn_drop]
  have := hA.drop (k := j * 13) (cap := cap * 13) (by rw [flatEn_length, hn]; omega)
  by_cases h : cap = j
  · subst h; simpa using this
  · have h5 : cap * 13 ≠ j * 13 := by omega
    simpa [h, h5] using this
theorem soft_app0LE {w : World} {ρ : Operand → Value} {o : Oper} {s x : Operand} {B n : Nat} {l : List Ent} (hs : (Fact.fresh B 29).φ (ρ s) w) (hx : (Fact.lie n (flatEn l)).φ (ρ x) w) (hn : l.length = n) (h300 : n ≤ 1000) (ho : o.op = .call { callee := .builtin .append, args := #[s, x], argTypes := #[22, 22] }) :
    softUpon Try.prog w (Fact.row B 29 13 n (flatEn l)) ((execOp ρ o).run Try.prog w) := by
  obtain ⟨A, cap, hx, hA⟩ := hx
  exact soft_app0E hs hx hA hn h300 ho
/-- what the open region keeps of three slots -/
def ThreeE (B j k : Nat) (d : List Ent) (x : Ent) (W : World) (p : Nat) (vs : List Value) (w : World) : Prop := Below B W w ∧ (p = 1 → w.ownsRow B 29 13 (vs.getD 0 undef) (j + 1) (flatEn (d.take j ++ [x]))) ∧ (2 ≤ p → w.ownsRow B 29 13 (vs.getD 1 undef) (k + 1) (flatEn (d.take j ++ [x] ++ d.drop j))) ∧ (p = 3 → vs.getD 2 undef = vs.getD 1 undef)
theorem run_idx13 (W : World) (ad : Addr) (n cap k : Nat) (hk : k < n) : (Instr.indexAt 22 (.slice (some ad) n cap) (.int .i64 (k : Int))).run Try.prog W = .ok (.pointer (some (ad.add (k * 13)))) W := by
  go_simp
theorem soft_index13 {w : World} {ρ : Operand → Value} {o : Oper} {x y : Operand} {ad : Addr} {n cap k : Nat} (hx : ρ x = .slice (some ad) n cap) (hy : ρ y = .int .i64 (k : Int)) (hk : k < n) (ho : o.op = .indexAddr 22 x y) : softUpon Try.prog w (Fact.is (.pointer (some (ad.add (k * 13))))) ((execOp ρ o).run Try.prog w) := by
  have e : (execOp ρ o).run Try.prog w = .ok (.value (.pointer (some (ad.add (k * 13))))) w := by
    simp [execOp, ho, hx, hy, run_idx13 w ad n cap k hk]
  rw [e]
  exact ⟨rfl, Below.refl _ _⟩
theorem lss_int (W : World) (a b : Int) (r : Bool) (h : decide (a < b) = r) : (binOp .lss 3 (.int .i64 a) (.int .i64 b)).run Try.prog W = .ok (.bool r) W := by
  subst h; go_simp
theorem gtr_int (W : World) (a b : Int) (r : Bool) (h : decide (b < a) = r) : (binOp .gtr 3 (.int .i64 a) (.int .i64 b)).run Try.prog W = .ok (.bool r) W := by
  subst h; go_simp
theorem sub_one (W : World) (k : Nat) (h : 0 < k) (h2 : k ≤ 1000000) : (binOp .sub 3 (.int .i64 (k : Int)) (.int .i64 1)).run Try.prog W = .ok (.int .i64 ((k - 1 : Nat) : Int)) W := by
  have : ((k - 1 : Nat) : Int) = (k : Int) - 1 := by omega
  rw [this]
  have hw : IntKind.i64.wrap ((k : Int) - 1) = (k : Int) - 1 := by simp [IntKind.wrap, IntKind.bits, IntKind.signed]; omega
  go_simp
end Go.Proofs.Ytcoedohfggeaiaa
