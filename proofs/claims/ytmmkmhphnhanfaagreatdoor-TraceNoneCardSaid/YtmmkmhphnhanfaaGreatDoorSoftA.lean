/-
  Appends in a statement whose order is open: onto an empty slice that was just made (memory is only made), and, late, onto memory of one's own. Nothing is assumed.
-/
import Derived.Test.YtmmkmhphnhanfaaGreatDoorSoftL
import Derived.Test.YtmmkmhphnhanfaaGreatDoorTrS

namespace Go.Proofs.YtmmkmhphnhanfaaGreatDoor
open Go.RowKit
set_option maxRecDepth 100000

theorem row_keep {w w' : World} {B n size : Nat} {v : Value} {e : TypeId} {xs : List Value} (h : w.ownsRow B e size v n xs) (hb : Below w.heap.size w w') : w'.ownsRow B e size v n xs :=
  h.kept (row := none) ⟨hb.os, hb.tape, hb.output, hb.size, fun k hk _ => hb.block k hk⟩ (by cases hv : v.ownBlock <;> simp)
/-- an empty slice that was just made -/
def Fact.fresh (B : Nat) (e : TypeId) : Fact := ⟨fun v w => ∃ g, v = .slice (some ⟨g, 0, none⟩) 0 0 ∧ B ≤ g ∧ w.heap[g]? = some (.cells #[] e (0, 0)), fun _ _ _ ⟨g, e, h1, h⟩ hb => ⟨g, e, h1, (hb.block g (Array.getElem?_eq_some_iff.1 h).1).trans h⟩⟩
/-- memory of one's own that holds just these -/
def Fact.row (B : Nat) (e : TypeId) (size n : Nat) (xs : List Value) : Fact := ⟨fun v w => w.ownsRow B e size v n xs, fun _ _ _ h hb => row_keep h hb⟩
/-- a slice that reads as these -/
def Fact.lie (m : Nat) (xs : List Value) : Fact := ⟨fun v w => ∃ A c, v = .slice A m c ∧ Lies w A xs, fun _ _ _ ⟨A, c, e, h⟩ hb => ⟨A, c, e, h.below hb⟩⟩

theorem app0 {P : Program} (w : World) (B : Nat) (t ty e : TypeId) (i : TypeInfo) (z : Value) (size bytes : Nat) (ht : P.underlying t = some (.slice e)) (hi : P.info? e = some i) (hz : i.zero = some z) (hsize : i.size = size) (hby : i.bytes = bytes) (hzs : z.cells.size = size) (hsz : 0 < size)
    (v : Value) (hv : (Fact.fresh B e).φ v w) (A : Option Addr) (m c : Nat) (news : List Value) (hl : news.length = m * size) (hA : Lies w A news) (h1 : ∀ u ∈ news, u.oneCell' = true) (hb : m ≤ maxLen) (hbb : m * bytes ≤ 140737488355328) :
    ∃ v' w', (Builtin.append_ #[t, t] ty #[v, .slice A m c]).run P w = .ok v' w' ∧ w'.ownsRow B e size v' m news ∧ Below w.heap.size w w' := by
  obtain ⟨g, rfl, hBg, hgh⟩ := hv
  have hgl : g < w.heap.size := (Array.getElem?_eq_some_iff.1 hgh).1
  have hown : w.ownsRow B e size (.slice (some ⟨g, 0, none⟩) 0 0) 0 [] := ⟨by simp, .inr ⟨g, 0, #[], rfl, hBg, hgh, Nat.le_refl _, Nat.zero_le _, by simp, by simp⟩⟩
  obtain ⟨v', w', hr, h2, h3, h4⟩ := app_k (P := P) w B t ty e i z size bytes ht hi hz hsize hby hzs hsz (.slice (some ⟨g, 0, none⟩) 0 0) 0 [] hown A m c news hl hA h1 (by omega) (by simpa using hbb) (by omega)
  refine ⟨v', w', hr, by simpa using h2, h3.os, h3.tape, h3.output, h3.size, fun k hk => ?_⟩
  by_cases hkg : k = g
  · subst hkg
    rcases Nat.eq_zero_or_pos m with hm0 | hm0
    · subst hm0
      have hn : news = [] := List.eq_nil_of_length_eq_zero (by simpa using hl)
      subst hn
      rw [List.append_nil] at h2
      have hrun : (Builtin.append_ #[t, t] ty #[.slice (some ⟨k, 0, none⟩) 0 0, .slice A 0 c]).run P w = .ok (.slice (some ⟨k, 0, none⟩) 0 0) w := by
        rcases A with _ | ad
        · simp [Builtin.append_, run_underlying ht, sizeOf, typeInfo, hi, Builtin.lenOf, Builtin.firstCells, storeCells]
        · simp [Builtin.append_, run_underlying ht, sizeOf, typeInfo, hi, Builtin.lenOf, Builtin.firstCells, loadCells, loadCellsFrom, storeCells]
      rw [hrun] at hr
      injection hr with _ hw
      rw [hw]
    · obtain ⟨ad, rfl, hc⟩ : ∃ ad, A = some ad ∧ ∀ j u, news[j]? = some u → w.cell? (ad.add j) = some u := by
        rcases hA with h | ⟨ad, h, _, hc⟩
        · have := Nat.mul_pos hm0 hsz; rw [h] at hl; simp at hl; omega
        · exact ⟨ad, h, hc⟩
      subst hsize
      subst hby
      have hr2 := run_append_grow (P := P) w t ty e i z ht hi hz ⟨k, 0, none⟩ 0 0 [] (by simp) (by simp) ad m c news hl hc (by omega) (by unfold maxLen at hb; omega) (growslice_fits (by omega) (by simpa using hbb))
      rw [hr] at hr2
      injection hr2 with _ hw
      rw [hw]
      exact heap_alloc_old w.drew _ hk
  · exact h3.block k hk (fun e => hkg (by simpa [Value.ownBlock] using e))
theorem soft_app0 {P : Program} {w : World} {ρ : Operand → Value} {o : Oper} {s x : Operand} {t e : TypeId} {i : TypeInfo} {z : Value} {B size bytes m : Nat} {news : List Value} (ht : P.underlying t = some (.slice e)) (hi : P.info? e = some i) (hz : i.zero = some z) (hsize : i.size = size) (hby : i.bytes = bytes) (hzs : z.cells.size = size) (hsz : 0 < size)
    (hs : (Fact.fresh B e).φ (ρ s) w) (hx : (Fact.lie m news).φ (ρ x) w) (hl : news.length = m * size) (h1 : ∀ u ∈ news, u.oneCell' = true) (hb : m ≤ maxLen) (hbb : m * bytes ≤ 140737488355328) (ho : o.op = .call { callee := .builtin .append, args := #[s, x], argTypes := #[t, t] }) :
    softUpon P w (Fact.row B e size m news) ((execOp ρ o).run P w) := by
  obtain ⟨A, c, ex, hA⟩ := hx
  obtain ⟨v', w', hr, h2, h3⟩ := app0 (P := P) w B t o.type e i z size bytes ht hi hz hsize hby hzs hsz (ρ s) hs A m c news hl hA h1 hb hbb
  have hq : (execOp ρ o).run P w = .ok (.value v') w' := by
    simp only [execOp, ho, resolve, invoke, builtin, Sem.run_bind, Sem.run_pure, Result.andThen_ok, List.map_toArray, List.map_cons, List.map_nil, ex, hr]
  rw [hq]
  exact ⟨h2, h3⟩
/-- a late append -/
theorem late_app {P : Program} {W : World} {a : Act} {o : Oper} {s x : Operand} {t e : TypeId} {i : TypeInfo} {z : Value} {B size bytes n m : Nat} {xs news : List Value} {K : Act → World → Prop} {Q : Exit → Act → World → Prop} (ht : P.underlying t = some (.slice e)) (hi : P.info? e = some i) (hz : i.zero = some z) (hsize : i.size = size) (hby : i.bytes = bytes) (hzs : z.cells.size = size) (hsz : 0 < size)
    (hs : W.ownsRow B e size (a.eval s) n xs) (hx : (Fact.lie m news).φ (a.eval x) W) (hl : news.length = m * size) (h1 : ∀ u ∈ news, u.oneCell' = true) (hb : n + m ≤ maxLen) (hbb : (n + m) * bytes ≤ 140737488355328) (hB : B ≤ W.heap.size) (ho : o.op = .call { callee := .builtin .append, args := #[s, x], argTypes := #[t, t] })
    (hK : ∀ v w', w'.ownsRow B e size v (n + m) (xs ++ news) → (∀ u0, Below B u0 W → Below B u0 w') → K (a.put o.dst v) w') : o.wp P a W K Q := by
  obtain ⟨A, c, ex, hA⟩ := hx
  obtain ⟨v', w', hr, h2, h3, h4⟩ := app_k (P := P) W B t o.type e i z size bytes ht hi hz hsize hby hzs hsz (a.eval s) n xs hs A m c news hl hA h1 hb hbb hB
  unfold Oper.wp
  have hq : (execOp a.eval o).run P W = .ok (.value v') w' := by
    simp only [execOp, ho, resolve, invoke, builtin, Sem.run_bind, Sem.run_pure, Result.andThen_ok, List.map_toArray, List.map_cons, List.map_nil, ex, hr]
  rw [hq]
  exact hK v' w' h2 fun u0 hu => hu.grown h3 hB (fun g hg => (hs.lt g hg).1)
theorem late_assign {P : Program} {W : World} {a : Act} {o : Oper} {x : Operand} {v : Value} {K : Act → World → Prop} {Q : Exit → Act → World → Prop} (ho : o.op = .assign x) (hx : a.eval x = v) (hK : K (a.put o.dst v) W) : o.wp P a W K Q := by
  unfold Oper.wp
  have hq : (execOp a.eval o).run P W = .ok (.value v) W := by simp [execOp, ho, hx]
  rw [hq]
  exact hK
/-! of spans -/
theorem soft_freshS {w : World} {ρ : Operand → Value} {o : Oper} {B : Nat} (hB : B ≤ w.heap.size) (ho : o.op = .buildSlice 22 0 #[]) : softUpon Tryz.prog w (Fact.fresh B 40) ((execOp ρ o).run Tryz.prog w) := by
  have hr : (execOp ρ o).run Tryz.prog w = .ok (.value (.slice (some ⟨w.heap.size, 0, none⟩) 0 0)) (w.alloc (.cells #[] 40)) := by
    simp [execOp, ho, go_sem]
  rw [hr]
  exact ⟨⟨_, rfl, hB, heap_alloc_new w _⟩, (Below.refl _ _).alloc (Nat.le_refl _) _⟩
theorem soft_oneS {w : World} {ρ : Operand → Value} {o : Oper} {y : Operand} {x : Plain.Sp} (hy : ρ y = .agg #[.int .i64 x.t, .int .i64 x.i, .int .i64 x.p, .int .i64 x.s, .int .i64 x.d, .string (str x.sv), .string (str x.nm)]) (ho : o.op = .buildSlice 22 1 #[(0, y)]) : softUpon Tryz.prog w (Fact.lie 1 (flat [x])) ((execOp ρ o).run Tryz.prog w) := by
  have hr : (execOp ρ o).run Tryz.prog w = .ok (.value (.slice (some ⟨w.heap.size, 0, none⟩) 1 1)) (w.alloc (.cells #[.int .i64 x.t, .int .i64 x.i, .int .i64 x.p, .int .i64 x.s, .int .i64 x.d, .string (str x.sv), .string (str x.nm)] 40)) := by
    simp [execOp, ho, hy, go_sem]
  rw [hr]
  exact ⟨⟨_, _, rfl, lies_made w _ _ _ _ rfl rfl⟩, (Below.refl _ _).alloc (Nat.le_refl _) _⟩
theorem soft_app0S {w : World} {ρ : Operand → Value} {o : Oper} {s x : Operand} {B n cap : Nat} {A : Option Addr} {l : List Plain.Sp} (hs : (Fact.fresh B 40).φ (ρ s) w) (hx : ρ x = .slice A n cap) (hA : Lies w A (flat l)) (hn : l.length = n) (h300 : n ≤ 1000) (ho : o.op = .call { callee := .builtin .append, args := #[s, x], argTypes := #[22, 22] }) :
    softUpon Tryz.prog w (Fact.row B 40 7 n (flat l)) ((execOp ρ o).run Tryz.prog w) := by
  obtain ⟨i0, hi, hz0, hz1, hz2⟩ := info_parts infoSp
  exact soft_app0 Tryz.underlying22 hi hz0 hz1 hz2 rfl (by decide) hs ⟨A, cap, hx, hA⟩ (by rw [flat_length, hn]) (flat_one l) (by unfold maxLen; omega) (by omega) ho
theorem late_appS {W : World} {a : Act} {o : Oper} {s x : Operand} {B n m : Nat} {l k : List Plain.Sp} {K : Act → World → Prop} {Q : Exit → Act → World → Prop} (hs : (Fact.row B 40 7 n (flat l)).φ (a.eval s) W) (hx : (Fact.lie m (flat k)).φ (a.eval x) W) (hm : k.length = m) (hb : n + m ≤ 1000) (hB : B ≤ W.heap.size) (ho : o.op = .call { callee := .builtin .append, args := #[s, x], argTypes := #[22, 22] })
    (hK : ∀ v w', w'.ownsRow B 40 7 v (n + m) (flat (l ++ k)) → (∀ u0, Below B u0 W → Below B u0 w') → K (a.put o.dst v) w') : o.wp Tryz.prog a W K Q := by
  obtain ⟨i0, hi, hz0, hz1, hz2⟩ := info_parts infoSp
  refine late_app Tryz.underlying22 hi hz0 hz1 hz2 rfl (by decide) hs hx (by rw [flat_length, hm]) (flat_one k) (by unfold maxLen; omega) (by omega) hB ho fun v w' h => hK v w' ?_
  rw [flat_append]
  exact h
/-- what an open region keeps of two slots, the second one a copy of the first -/
def Two (B n : Nat) (l : List Plain.Sp) (W : World) (p : Nat) (vs : List Value) (w : World) : Prop := Below B W w ∧ w.ownsRow B 40 7 (vs.getD 0 undef) n (flat l) ∧ (p = 2 → vs.getD 1 undef = vs.getD 0 undef)
end Go.Proofs.YtmmkmhphnhanfaaGreatDoor
