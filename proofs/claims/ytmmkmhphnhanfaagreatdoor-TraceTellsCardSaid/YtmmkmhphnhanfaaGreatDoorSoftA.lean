/-
  Appends in a statement whose order is open: onto an empty slice that was just made (memory is only made), and, late, onto memory of one's own. Nothing is assumed.
-/
import Derived.Test.YtmmkmhphnhanfaaGreatDoorSoftL
import Derived.Test.YtmmkmhphnhanfaaGreatDoorTrS

namespace Go.Proofs.YtmmkmhphnhanfaaGreatDoor
open Go.RowKit
set_option maxRecDepth 100000

theorem row_keep {w w' : World} {B n size : Nat} {v : Value} {e : TypeId} {xs : List Value} (h : w.ownsRow B e size v n xs) (hb : Below w.heap.size w w') : w'.ownsRow B e size v n xs :=
  h.kept (row := none) ⟨hb.os, hb.tape, hb.output, hb.size, fun k hk _ => hb.block k hk⟩ (by cases hv : v.ownBlock <;> simp)
/-- an empty slice that was just made -/
def Fact.fresh (B : Nat) (e : TypeId) : Fact := ⟨fun v w => ∃ g, v = .slice (some ⟨g, 0, none⟩) 0 0 ∧ B ≤ g ∧ w.heap[g]? = some (.cells #[] e (0, 0)), fun _ _ _ ⟨g, e, h1, h⟩ hb => ⟨g, e, h1, (hb.block g (Array.getElem?_eq_some_iff.1 h).1).trans h⟩⟩
/-- memory of one's own that holds just these -/
def Fact.row (B : Nat) (e : TypeId) (size n : Nat) (xs : List Value) : Fact := ⟨fun v w => w.ownsRow B e size v n xs, fun _ _ _ h hb => row_keep h hb⟩
/-- a slice that reads as these -/
def Fact.lie (m : Nat) (xs : List Value) : Fact := ⟨fun v w => ∃ A c, v = .slice A m c ∧ Lies w A xs, fun _ _ _ ⟨A, c, e, h⟩ hb => ⟨A, c, e, h.below hb⟩⟩

theorem app0 {P : Program} (w : World) (B : Nat) (t ty e : TypeId) (i : TypeInfo) (z : Value) (size bytes : Nat) (ht : P.underlying t = some (.slice e)) (hi : P.info? e = some i) (hz : i.zero = some z) (hsize : i.size = size) (hby : i.bytes = bytes) (hzs : z.cells.size = size) (hsz : 0 < size)
    (v : Value) (hv : (Fact.fresh B e).φ v w) (A : Option Addr) (m c : Nat) (news : List Value) (hl : news.length = m * size) (hA : Lies w A news) (h1 : ∀ u ∈ news, u.oneCell' = true) (hb : m ≤ maxLen) (hbb : m * bytes ≤ 140737488355328) :
    ∃ v' w', (Builtin.append_ #[t, t] ty #[v, .slice A m c]).run P w = .ok v' w' ∧ w'.ownsRow B e size v' m news ∧ Below w.heap.size w w' := by
  obtain ⟨g, rfl, hBg, hgh⟩ := hv
  have hgl : g < w.heap.size := (Array.getElem?_eq_some_iff.1 hgh).1
  have hown : w.ownsRow B e size (.slice (some ⟨g, 0, none⟩) 0 0) 0 [] := ⟨by simp, .inr ⟨g, 0, #[], rfl, hBg, hgh, Nat.le_refl _, Nat.zero_le _, by simp, by simp⟩⟩
  obtain ⟨v', w', hr, h2, h3, h4⟩ := app_k (P := P) w B t ty e i z size bytes ht hi hz hsize hby hzs hsz (.slice (some ⟨g, 0, none⟩) 0 0) 0 [] hown A m c news hl hA h1 (by omega) (by simpa using hbb) (by omega)
  refine ⟨v', w', hr, by simpa using h2, h3.os, h3.tape, h3.output, h3.size, fun k hk => ?_⟩
  by_cases hkg : k = g
  · subst hkg
    rcases Nat.eq_zero_or_pos m with hm0 | hm0
    · subst hm0
      have hn : news = [] := List.eq_nil_of_length_eq_zero (by simpa using hl)
      subst hn
      rw [List.append_nil] at h2
      have hrun : (Builtin.append_ #[t, t] ty #[.slice (some ⟨k, 0, none⟩) 0 0, .slice A 0 c]).run P w = .ok (.slice (some ⟨k, 0, none⟩) 0 0) w := by
        rcases A with _ | ad
        · simp [Builtin.append_, run_underlying ht, sizeOf, typeInfo, hi, Builtin.lenOf, Builtin.firstCells, storeCells]
        · simp [Builtin.append_, run_underlying ht, sizeOf, typeInfo, hi, Builtin.lenOf, Builtin.firstCells, loadCells, loadCellsFrom, storeCells]
      rw [hrun] at hr
      injection hr with _ hw
      rw [hw]
    · obtain ⟨ad, rfl, hc⟩ : ∃ ad, A = some ad ∧ ∀ j u, news[j]? = some u → w.cell? (ad.add j) = some u := by
        rcases hA with h | ⟨ad, h, _, hc⟩
        · have := Nat.mul_pos hm0 hsz; rw [h] at hl; simp at hl; omega
        · exact ⟨ad, h, hc⟩
      subst hsize
      subst hby
      have hr2 := run_append_grow (P := P) w t ty e i z ht hi hz ⟨k, 0, none⟩ 0 0 [] (by simp) (by simp) ad m c news hl hc (by omega) (by unfold maxLen at hb; omega) (growslice_fits (by omega) (by simpa using hbb))
      rw [hr] at hr2
      injection hr2 with _ hw
      rw [hw]
      exact heap_alloc_old w.drew _ hk
  · exact h3.block k hk (fun e => hkg (by simpa [Value.ownBlock] using e))
theorem soft_app0 {P : Program} {w : World} {ρ : Operand → Value} {o : Oper} {s x : Operand} {t e : TypeId} {i : TypeInfo} {z : Value} {B size bytes m : Nat} {news : List Value} (ht : P.underlying t = some (.slice e)) (hi : P.info? e = some i) (hz : i.zero = some z) (hsize : i.size = size) (hby : i.bytes = bytes) (hzs : z.cells.size = size) (hsz : 0 < size)
    (hs : (Fact.fresh B e).φ (ρ s) w) (hx : (Fact.lie m news).φ (ρ x) w) (hl : news.length = m * size) (h1 : ∀ u ∈ news, u.oneCell' = true) (hb : m ≤ maxLen) (hbb : m * bytes ≤ 140737488355328) (ho : o.op = .call { callee := .builtin .append, args := #[s, x], argTypes := #[t, t] }) :
    softUpon P w (Fact.row B e size m news) ((execOp ρ o).run P w) := by
  obtain ⟨A, c, ex, hA⟩ := hx
  obtain ⟨v', w', hr, h2, h3⟩ := app0 (P := P) w B t o.type e i z size bytes ht hi hz hsize hby hzs hsz (ρ s) hs A m c news hl hA h1 hb hbb
  have hq : (execOp ρ o).run P w = .ok (.value v') w' := by
    simp only [execOp, ho, resolve, invoke, builtin, Sem.run_bind, Sem.run_pure, Result.andThen_ok, List.map_toArray, List.map_cons, List.map_nil, ex, hr]
  rw [hq]
  exact ⟨h2, h3⟩
/-- a late append -/
theorem late_app {P : Program} {W : World} {a : Act} {o : Oper} {s x : Operand} {t e : TypeId} {i : TypeInfo} {z : Value} {B size bytes n m : Nat} {xs news : List Value} {K : Act → World → Prop} {Q : Exit → Act → World → Prop} (ht : P.underlying t = some (.slice e)) (hi : P.info? e = some i) (hz : i.zero = some z) (hsize : i.size = size) (hby : i.bytes = bytes) (hzs : z.cells.size = size) (hsz : 0 < size)
    (hs : W.ownsRow B e size (a.eval s) n xs) (hx : (Fact.lie m news).φ (a.eval x) W) (hl : news.length = m * size) (h1 : ∀ u ∈ news, u.oneCell' = true) (hb : n + m ≤ maxLen) (hbb : (n + m) * bytes ≤ 140737488355328) (hB : B ≤ W.heap.size) (ho : o.op = .call { callee := .builtin .append, args := #[s, x], argTypes := #[t, t] })
    (hK : ∀ v w', w'.ownsRow B e size v (n + m) (xs ++ news) → (∀ u0, Below B u0 W → Below B u0 w') → K (a.put o.dst v) w') : o.wp P a W K Q := by
  obtain ⟨A, c, ex, hA⟩ := hx
  obtain ⟨v', w', hr, h2, h3, h4⟩ := app_k (P := P) W B t o.type e i z size bytes ht hi hz hsize hby hzs hsz (a.eval s) n xs hs A m c news hl hA h1 hb hbb hB
  unfold Oper.wp
  have hq : (execOp a.eval o).run P W = .ok (.value v') w' := by
    simp only [execOp, ho, resolve, invoke, builtin, Sem.run_bind, Sem.run_pure, Result.andThen_ok, List.map_toArray, List.map_cons, List.map_nil, ex, hr]
  rw [hq]
  exact hK v' w' h2 fun u0 hu => hu.grown h3 hB (fun g hg => (hs.lt g hg).1)
theorem late_assign {P : Program} {W : World} {a : Act} {o : Oper} {x : Operand} {v : Value} {K : Act → World → Prop} {Q : Exit → Act → World → Prop} (ho : o.op = .assign x) (hx : a.eval x = v) (hK : K (a.put o.dst v) W) : o.wp P a W K Q := by
  unfold Oper.wp
  have hq : (execOp a.eval o).run P W = .ok (.value v) W := by simp [execOp, ho, hx]
  rw [hq]
  exact hK
/-! of spans -/
theorem soft_freshS {w : World} {ρ : Operand → Value} {o : Oper} {B : Nat} (hB : B ≤ w.heap.size) (ho : o.op = .buildSlice 22 0 #[]) : softUpon Tryz.prog w (Fact.fresh B 40) ((execOp ρ o).run Tryz.prog w) := by
  have hr : (execOp ρ o).run Tryz.prog w = .ok (.value (.slice (some ⟨w.heap.size, 0, none⟩) 0 0)) (w.alloc (.cells #[] 40)) := by
    simp [execOp, ho, go_sem]
  rw [hr]
  exact ⟨⟨_, rfl, hB, heap_alloc_new w _⟩, (Below.refl _ _).alloc (Nat.le_refl _) _⟩
theorem soft_oneS {w : World} {ρ : Operand → Value} {o : Oper} {y : Operand} {x : Plain.Sp} (hy : ρ y = .agg #[.int .i64 x.t, .int .i64 x.i, .int .i64 x.p, .int .i64 x.s, .int .i64 x.d, .string (str x.sv), .string (str x.nm)]) (ho : o.op = .buildSlice 22 1 #[(0, y)]) : softUpon Tryz.prog w (Fact.lie 1 (flat [x])) ((execOp ρ o).run Tryz.prog w) := by
  have hr : (execOp ρ o).run Tryz.prog w = .ok (.value (.slice (some ⟨w.heap.size, 0, none⟩) 1 1)) (w.alloc (.cells #[.int .i64 x.t, .int .i64 x.i, .int .i64 x.p, .int .i64 x.s, .int .i64 x.d, .string (str x.sv), .string (str x.nm)] 40)) := by
    simp [execOp, ho, hy, go_sem]
  rw [hr]
  exact ⟨⟨_, _, rfl, lies_made w _ _ _ _ rfl rfl⟩, (Below.refl _ _).alloc (Nat.le_refl _) _⟩
theorem soft_app0S {w : World} {ρ : Operand → Value} {o : Oper} {s x : Operand} {B n cap : Nat} {A : Option Addr} {l : List Plain.Sp} (hs : (Fact.fresh B 40).φ (ρ s) w) (hx : ρ x = .slice A n cap) (hA : Lies w A (flat l)) (hn : l.length = n) (h300 : n ≤ 1000) (ho : o.op = .call { callee := .builtin .append, args := #[s, x], argTypes := #[22, 22] }) :
    softUpon Tryz.prog w (Fact.row B 40 7 n (flat l)) ((execOp ρ o).run Tryz.prog w) := by
  obtain ⟨i0, hi, hz0, hz1, hz2⟩ := info_parts infoSp
  exact soft_app0 Tryz.underlying22 hi hz0 hz1 hz2 rfl (by decide) hs ⟨A, cap, hx, hA⟩ (by rw [flat_length, hn]) (flat_one l) (by unfold maxLen; omega) (by omega) ho
theorem late_appS {W : World} {a : Act} {o : Oper} {s x : Operand} {B n m : Nat} {l k : List Plain.Sp} {K : Act → World → Prop} {Q : Exit → Act → World → Prop} (hs : (Fact.row B 40 7 n (flat l)).φ (a.eval s) W) (hx : (Fact.lie m (flat k)).φ (a.eval x) W) (hm : k.length = m) (hb : n + m ≤ 1000) (hB : B ≤ W.heap.size) (ho : o.op = .call { callee := .builtin .append, args := #[s, x], argTypes := #[22, 22] })
    (hK : ∀ v w', w'.ownsRow B 40 7 v (n + m) (flat (l ++ k)) → (∀ u0, Below B u0 W → Below B u0 w') → K (a.put o.dst v) w') : o.wp Tryz.prog a W K Q := by
  obtain ⟨i0, hi, hz0, hz1, hz2⟩ := info_parts infoSp
  refine late_app Tryz.underlying22 hi hz0 hz1 hz2 rfl (by decide) hs hx (by rw [flat_length, hm]) (flat_one k) (by unfold maxLen; omega) (by omega) hB ho fun v w' h => hK v w' ?_
  rw [flat_append]
  exact h
theorem flat_take (l : List Plain.Sp) (k : Nat) : (flat l).take (k * 7) = flat (l.take k) := by
  induction l generalizing k with
  | nil => simp [flat]
  | cons x l ih =>
    rcases k with _ | k
    · simp [flat]
    · have h : flat (x :: l) = spanCells x ++ flat l := rfl
      have h2 : flat ((x :: l).take (k + 1)) = spanCells x ++ flat (l.take k) := rfl
      rw [h, h2, List.take_append, spanCells_length, ← ih k, List.take_of_length_le (by rw [spanCells_length]; omega)]
      congr 2
      omega
theorem flat_drop (l : List Plain.Sp) (k : Nat) : (flat l).drop (k * 7) = flat (l.drop k) := by
  induction l generalizing k with
  | nil => simp [flat]
  | cons x l ih =>
    rcases k with _ | k
    · simp [flat]
    · have h : flat (x :: l) = spanCells x ++ flat l := rfl
      have h2 : flat ((x :: l).drop (k + 1)) = flat (l.drop k) := rfl
      rw [h, h2, List.drop_append, spanCells_length, ← ih k, List.drop_of_length_le (by rw [spanCells_length]; omega), List.nil_append]
      congr 1
      omega
theorem slice_loS (W : World) (ad : Addr) (n cap j : Nat) (h1 : j ≤ n) (h2 : n ≤ cap) (h3 : cap ≤ 9223372036854775807) : (Instr.sliceAt 22 (.slice (some ad) n cap) (some (.int .i64 (j : Int))) none none).run Tryz.prog W = .ok (.slice (some (if cap = j then ad else ad.add (j * 7))) (n - j) (cap - j)) W := by
  by_cases h : cap = j
  · subst h
    obtain rfl : n = cap := by omega
    go_simp
  · go_simp
theorem slice_hiS (W : World) (ad : Addr) (n cap j : Nat) (h1 : j ≤ n) (h2 : n ≤ cap) (_h3 : cap ≤ 9223372036854775807) : (Instr.sliceAt 22 (.slice (some ad) n cap) none (some (.int .i64 (j : Int))) none).run Tryz.prog W = .ok (.slice (some ad) j cap) W := by
  have h : ¬ cap < j := by omega
  go_simp
/-- the spans from a place on -/
theorem soft_dropS {w : World} {ρ : Operand → Value} {o : Oper} {x y : Operand} {ad : Addr} {n cap j : Nat} {l : List Plain.Sp} (hx : ρ x = .slice (some ad) n cap) (hy : ρ y = .int .i64 (j : Int)) (hn : l.length = n) (h1 : j ≤ n) (h2 : n ≤ cap) (h3 : cap ≤ 9223372036854775807) (hA : Lies w (some ad) (flat l)) (ho : o.op = .slice 22 x (some y) none none) :
    softUpon Tryz.prog w (Fact.lie (n - j) (flat (l.drop j))) ((execOp ρ o).run Tryz.prog w) := by
  have e : (execOp ρ o).run Tryz.prog w = .ok (.value (.slice (some (if cap = j then ad else ad.add (j * 7))) (n - j) (cap - j))) w := by
    simp [execOp, ho, hx, hy, slice_loS w ad n cap j h1 h2 h3]
  rw [e]
  refine ⟨⟨_, _, rfl, ?_⟩, Below.refl _ _⟩
  rw [← flat_drop]
  have := hA.drop (k := j * 7) (cap := cap * 7) (by rw [flat_length, hn]; omega)
  by_cases h : cap = j
  · subst h; simpa using this
  · have h7 : cap * 7 ≠ j * 7 := by omega
    simpa [h, h7] using this
/-- the spans up to a place -/
theorem soft_takeS {w : World} {ρ : Operand → Value} {o : Oper} {x y : Operand} {ad : Addr} {n cap j : Nat} (hx : ρ x = .slice (some ad) n cap) (hy : ρ y = .int .i64 (j : Int)) (h1 : j ≤ n) (h2 : n ≤ cap) (h3 : cap ≤ 9223372036854775807) (ho : o.op = .slice 22 x none (some y) none) :
    softUpon Tryz.prog w (Fact.is (.slice (some ad) j cap)) ((execOp ρ o).run Tryz.prog w) := soft_slice hx hy (slice_hiS w ad n cap j h1 h2 h3) ho
theorem add_one (W : World) (k : Nat) (h : k < 9223372036854775807) : (binOp .add 3 (.int .i64 (k : Int)) (.int .i64 1)).run Tryz.prog W = .ok (.int .i64 ((k + 1 : Nat) : Int)) W := by
  have hw : IntKind.i64.wrap ((k : Int) + 1) = (k : Int) + 1 := by simp [IntKind.wrap, IntKind.bits, IntKind.signed]; omega
  go_simp
theorem soft_addOne {w : World} {ρ : Operand → Value} {o : Oper} {x y : Operand} {k : Nat} (hx : ρ x = .int .i64 (k : Int)) (hy : ρ y = .int .i64 1) (h : k < 9223372036854775807) (ho : o.op = .binOp .add 3 x y 3) : softUpon Tryz.prog w (Fact.is (.int .i64 ((k + 1 : Nat) : Int))) ((execOp ρ o).run Tryz.prog w) :=
  soft_bin hx hy ho rfl (add_one w k h)
/-- what an open region keeps of two slots, the second one a copy of the first -/
def Two (B n : Nat) (l : List Plain.Sp) (W : World) (p : Nat) (vs : List Value) (w : World) : Prop := Below B W w ∧ w.ownsRow B 40 7 (vs.getD 0 undef) n (flat l) ∧ (p = 2 → vs.getD 1 undef = vs.getD 0 undef)
end Go.Proofs.YtmmkmhphnhanfaaGreatDoor
