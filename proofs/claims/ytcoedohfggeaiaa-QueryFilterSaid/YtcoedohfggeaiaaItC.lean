/-
  Items and numbers in memory, cells of them; '==' of two items; turntableref06.Same and SameIds: what they answer, of any items, and of any numbers; cmp.Compare. Was in Itm, Cmp, Ord, VicB and Sam. Assumed: that these lie in memory.
-/
import Derived.Test.YtcoedohfggeaiaaGen
import Derived.Test.YtcoedohfggeaiaaMathJ
import Derived.BigRegion
import Derived.WalkKit
import Derived.Deep.LoopGhost
import Derived.Laws.BitsLemmas
import Derived.Deep.Slices
import Derived.Deep.Fields
import Derived.BigQuiet

namespace Go.Proofs.Ytcoedohfggeaiaa
open Go.RowKit
set_option maxRecDepth 100000

/-- an item as a value, and as cells -/
abbrev itV (x : Plain.It) : Value := .agg #[.int .i64 x.id, .int .i64 x.cls, .int .i64 x.tick, .int .i64 x.cost, .bool x.pin]
def itCells (x : Plain.It) : List Value := [.int .i64 x.id, .int .i64 x.cls, .int .i64 x.tick, .int .i64 x.cost, .bool x.pin]
theorem itCells_length (x : Plain.It) : (itCells x).length = 5 := rfl
def flatI (xs : List Plain.It) : List Value := xs.flatMap itCells
theorem flatI_length (xs : List Plain.It) : (flatI xs).length = xs.length * 5 := by
  induction xs with
  | nil => rfl
  | cons x xs ih => simp only [flatI, List.flatMap_cons, List.length_append, List.length_cons, itCells_length] at ih ⊢; omega
theorem flatI_append (xs ys : List Plain.It) : flatI (xs ++ ys) = flatI xs ++ flatI ys := by simp [flatI]
theorem flatI_at (xs : List Plain.It) (i j : Nat) (x : Plain.It) (h : xs[i]? = some x) (hj : j < 5) : (flatI xs)[i * 5 + j]? = (itCells x)[j]? := by
  induction xs generalizing i with
  | nil => simp at h
  | cons y ys ih =>
    cases i with
    | zero =>
      simp only [List.getElem?_cons_zero, Option.some.injEq] at h
      subst h
      simp only [flatI, List.flatMap_cons]
      rw [List.getElem?_append_left (by rw [itCells_length]; omega)]
      simp
    | succ i =>
      have := ih i (by simpa using h)
      simp only [flatI, List.flatMap_cons] at this ⊢
      rw [List.getElem?_append_right (by rw [itCells_length]; omega), itCells_length, show (i + 1) * 5 + j - 5 = i * 5 + j by omega]
      exact this
theorem flatI_one (xs : List Plain.It) : ∀ u ∈ flatI xs, u.oneCell' = true := by
  intro u hu
  obtain ⟨x, _, hx⟩ := List.mem_flatMap.1 hu
  simp only [itCells, List.mem_cons, List.not_mem_nil, or_false] at hx
  rcases hx with rfl | rfl | rfl | rfl | rfl <;> rfl

theorem g_val {P : Program} {w : World} {u : Value} {r : Result Next} (h : r = .ok (.value u) w) : gUpon P w (Fact.is u) r := by rw [h]; exact ⟨rfl, Grows.refl _⟩
theorem g_field {w : World} {ρ : Operand → Value} {o : Oper} {x : Operand} {a b : Addr} {t : TypeId} {j : Nat} (hx : ρ x = .pointer (some a)) (ho : o.op = .fieldAddr t x j) (hr : ∀ W, (Instr.fieldAt t (.pointer (some a)) j).run Try.prog W = .ok (.pointer (some b)) W) : gUpon Try.prog w (Fact.is (.pointer (some b))) ((execOp ρ o).run Try.prog w) :=
  g_val (by simp [execOp, ho, hx, hr w])
theorem g_load {P : Program} {w : World} {ρ : Operand → Value} {o : Oper} {x : Operand} {t : TypeId} {a : Addr} {u : Value} (hx : ρ x = .pointer (some a)) (hr : (Instr.loadAt t (.pointer (some a))).run P w = .ok u w) (ho : o.op = .load t x) : gUpon P w (Fact.is u) ((execOp ρ o).run P w) :=
  g_val (by simp [execOp, ho, hx, hr])
theorem g_call2 {P : Program} {w : World} {ρ : Operand → Value} {o : Oper} {x y : Operand} {f : FuncId} {ats : Array TypeId} {vx vy u : Value}
    (hf : ∀ f, ρ (.func f) = .func (.func f) #[] #[]) (hx : ρ x = vx) (hy : ρ y = vy) (hc : Calls P f #[vx, vy] w fun e w' => e = .returned u ∧ w = w') (ho : o.op = .call { callee := .value (.func f), args := #[x, y], argTypes := ats })
    (hfn : (P.funcs[f]?).map (fun fn => (fn.name == "runtime.NumGoroutine", fn.body.isNone)) = some (false, false)) : gUpon P w (Fact.is u) ((execOp ρ o).run P w) := by
  have e : (execOp ρ o).run P w = .ok (.enter f #[vx, vy]) w := by
    simp [execOp, ho, resolve, invoke, hf, hx, hy, Deferred.ofValue, go_sem, enters hfn]
  rw [e]
  exact ⟨rfl, hc.mono fun _ _ ⟨he, hw⟩ => ⟨u, he, rfl, hw ▸ Grows.refl _⟩⟩
theorem infoIt : (Try.prog.info? 24).map (fun i => (i.zero, i.size, i.bytes)) = some (some (.agg #[.int .i64 0, .int .i64 0, .int .i64 0, .int .i64 0, .bool false]), 5, 40) := by kernel_rfl

/-- the k-th item's cells, as the walk spells them -/
theorem at_item {w : World} {A : Option Addr} {l : List Plain.It} (h : Lies w A (flatI l)) (k : Nat) (hk : k < l.length) :
    ∃ ad, A = some ad ∧ ad.block < w.heap.size ∧ ∀ u, Below w.heap.size w u → u.cell? (ad.add (k * 5)) = some (.int .i64 l[k].id) ∧ u.cell? ⟨(ad.add (k * 5)).block, (ad.add (k * 5)).off + 1, none⟩ = some (.int .i64 l[k].cls) ∧ u.cell? ⟨(ad.add (k * 5)).block, (ad.add (k * 5)).off + 2, none⟩ = some (.int .i64 l[k].tick) ∧ u.cell? ⟨(ad.add (k * 5)).block, (ad.add (k * 5)).off + 3, none⟩ = some (.int .i64 l[k].cost) ∧ u.cell? ⟨(ad.add (k * 5)).block, (ad.add (k * 5)).off + 4, none⟩ = some (.bool l[k].pin) := by
  obtain ⟨ad, rfl, hadb, -⟩ := h.at_ (k := k * 5) (by rw [flatI_length]; omega)
  refine ⟨ad, rfl, hadb, ?_⟩
  have hc2 : ∀ j u, (itCells l[k])[j]? = some u → w.cell? ((ad.add (k * 5)).add j) = some u := fun j u hu => by
    have hj : j < 5 := by
      rcases Nat.lt_or_ge j 5 with h | h
      · exact h
      · rw [List.getElem?_eq_none (by rw [itCells_length]; exact h)] at hu; cases hu
    have hf := flatI_at l k j l[k] (List.getElem?_eq_getElem hk) hj
    rw [hu] at hf
    rw [addr_add]
    rcases h with h | ⟨ad', e, _, hc⟩
    · rw [h] at hf; simp at hf
    · injection e with e; subst e; exact hc _ _ hf
  have hpb : (ad.add (k * 5)).block < w.heap.size := by rw [addr_block]; exact hadb
  exact fun u hu => ⟨(hu.cell hpb).trans (hc2 0 _ rfl), (hu.cell (p := ⟨(ad.add (k * 5)).block, (ad.add (k * 5)).off + 1, none⟩) hpb).trans (hc2 1 _ rfl), (hu.cell (p := ⟨(ad.add (k * 5)).block, (ad.add (k * 5)).off + 2, none⟩) hpb).trans (hc2 2 _ rfl), (hu.cell (p := ⟨(ad.add (k * 5)).block, (ad.add (k * 5)).off + 3, none⟩) hpb).trans (hc2 3 _ rfl), (hu.cell (p := ⟨(ad.add (k * 5)).block, (ad.add (k * 5)).off + 4, none⟩) hpb).trans (hc2 4 _ rfl)⟩
theorem lies_new5 (w : World) (cs : Array Value) (t : TypeId) (l : List Value) (h : cs.toList = l) : Lies (w.alloc (.cells cs t)) (some ⟨w.heap.size, 0, none⟩) l := by
  rw [← h]; exact Lies.new w cs t

def nums (ids : List Int) : List Value := ids.map fun i => .int .i64 i
theorem nums_length (ids : List Int) : (nums ids).length = ids.length := by simp [nums]
theorem nums_snoc (ids : List Int) (i : Int) : nums (ids ++ [i]) = nums ids ++ [.int .i64 i] := by simp [nums]
theorem infoL : (Try.prog.info? 2).map (fun i => (i.zero, i.size, i.bytes)) = some (some (.int .i64 0), 1, 8) := by kernel_rfl
/-- a slice of numbers that was handed back -/
def GivesN (w w' : World) (ids : List Int) (v : Value) : Prop := ∃ A cap, v = .slice A ids.length cap ∧ ids.length ≤ cap ∧ cap ≤ maxLen ∧ Lies w' A (nums ids) ∧ Below w.heap.size w w'
theorem GivesN.nil {w w' : World} (h : Below w.heap.size w w') : GivesN w w' [] (.slice none 0 0) := ⟨none, 0, rfl, Nat.le_refl _, Nat.zero_le _, .inl rfl, h⟩
theorem GivesN.own {w w' : World} {l : List Int} {v : Value} {B : Nat} (ho : w'.ownsRow B 2 1 v l.length (nums l)) (h : Below w.heap.size w w') : GivesN w w' l v := by
  rcases ho.2 with ⟨rfl, h0⟩ | ⟨g, cap, cur, rfl, hb, hg, h1, h2, h3⟩
  · have : l = [] := List.eq_nil_of_length_eq_zero h0
    subst this
    exact GivesN.nil h
  · exact ⟨_, cap, rfl, h1, h2, .inr ⟨_, rfl, (ho.lt g rfl).2, ho.cells (g := g) rfl⟩, h⟩

/-- the same, in new memory -/
def GivesF (w w' : World) (ids : List Int) (v : Value) : Prop := ∃ A cap, v = .slice A ids.length cap ∧ ids.length ≤ cap ∧ cap ≤ maxLen ∧ Lies w' A (nums ids) ∧ Below w.heap.size w w' ∧ ∀ ad, A = some ad → w.heap.size ≤ ad.block
theorem GivesF.nil {w w' : World} (h : Below w.heap.size w w') : GivesF w w' [] (.slice none 0 0) := ⟨none, 0, rfl, Nat.le_refl _, Nat.zero_le _, .inl rfl, h, fun _ e => by cases e⟩
theorem GivesF.own {w w' : World} {l : List Int} {v : Value} (ho : w'.ownsRow w.heap.size 2 1 v l.length (nums l)) (h : Below w.heap.size w w') : GivesF w w' l v := by
  rcases ho.2 with ⟨rfl, h0⟩ | ⟨g, cap, cur, rfl, hb, hg, h1, h2, h3⟩
  · have : l = [] := List.eq_nil_of_length_eq_zero h0
    subst this
    exact GivesF.nil h
  · exact ⟨_, cap, rfl, h1, h2, .inr ⟨_, rfl, (ho.lt g rfl).2, ho.cells (g := g) rfl⟩, h, fun ad e => by cases e; exact hb⟩
theorem GivesF.n {w w' : World} {l : List Int} {v : Value} (h : GivesF w w' l v) : GivesN w w' l v := by
  obtain ⟨A, cap, h1, h2, h3, h4, h5, _⟩ := h
  exact ⟨A, cap, h1, h2, h3, h4, h5⟩

/-- '==' of two items -/
theorem eq_it (w : World) (x y : Plain.It) : (binOp .eql 24 (itV x) (itV y)).run Try.prog w = .ok (.bool (decide (x = y))) w := by
  obtain ⟨xi, xc, xt, xs, xp⟩ := x
  obtain ⟨yi, yc, yt, ys, yp⟩ := y
  rw [run_eql_struct]
  have e : decide ((⟨xi, xc, xt, xs, xp⟩ : Plain.It) = ⟨yi, yc, yt, ys, yp⟩) = decide (xi = yi ∧ xc = yc ∧ xt = yt ∧ xs = ys ∧ xp = yp) := by rw [decide_eq_decide]; simp
  rw [e]
  go_simp
  repeat' split
  all_goals simp_all
theorem neq_it (w : World) (x y : Plain.It) : (binOp .neq 24 (itV x) (itV y)).run Try.prog w = .ok (.bool (!decide (x = y))) w := by
  have h := eq_it w x y
  rw [run_eql_struct] at h
  rw [run_neq_struct]
  revert h
  generalize (Op.equalIn 10000 24 (itV x) (itV y)).run Try.prog w = r
  cases r with
  | ok b w' =>
    intro h
    simp only [Result.andThen, Result.ok.injEq, Value.bool.injEq] at h ⊢
    rw [h.1, h.2]
    exact ⟨rfl, rfl⟩
  | _ => intro h; simp [Result.andThen] at h
theorem at_num {w : World} {A : Option Addr} {l : List Int} (h : Lies w A (nums l)) (k : Nat) (hk : k < l.length) :
    ∃ ad, A = some ad ∧ ad.block < w.heap.size ∧ ∀ u, Below w.heap.size w u → u.cell? (ad.add k) = some (.int .i64 l[k]) := by
  obtain ⟨ad, rfl, hadb, hc⟩ := h.at_ (k := k) (by rw [nums_length]; exact hk)
  refine ⟨ad, rfl, hadb, fun u hu => (hu.cell (by rw [addr_block]; exact hadb)).trans ?_⟩
  rw [hc]; simp [nums]

set_option maxHeartbeats 2000000 in
theorem sameIds_any (A B : Option Addr) (n m ca cb : Nat) (a b : List Int) (w : World) (hn : a.length = n) (hm : b.length = m) (hca : n ≤ ca) (hcb : m ≤ cb) (_hma : ca ≤ maxLen) (_hmb : cb ≤ maxLen) (hA : Lies w A (nums a)) (hB : Lies w B (nums b)) :
    Calls Try.prog 15 #[.slice A n ca, .slice B m cb] w fun e w' => e = .returned (.bool (decide (a = b))) ∧ Below w.heap.size w w' := by
  unfold maxLen at _hma _hmb
  by_cases hnm : n = m
  rotate_left
  · have HE := Lib.hid (show decide (a = b) = false by rw [decide_eq_false_iff_not]; intro h; subst h; omega)
    clear hn hm hA hB
    go_enter Try.func15, Try.ntmps15
    go_wp2
    go_ret
    exact ⟨by rw [HE.out]; rfl, Below.refl _ _⟩
  subst hnm
  have HNA := Lib.hid hn
  have HNB := Lib.hid hm
  have HA := Lib.hid hA
  have HB := Lib.hid hB
  clear hn hm hA hB
  go_enter Try.func15, Try.ntmps15
  go_wp2
  go_loopw [5] (fun i wr => ∃ k : Nat, i = .int .i64 k ∧ k ≤ n ∧ a.take k = b.take k ∧ Below w.heap.size w wr) (fun i _ => n - (intOf i).toNat)
  case atStart => exact ⟨0, rfl, Nat.zero_le _, by simp, Below.refl _ _⟩
  case round =>
    obtain ⟨k, rfl, hk, htk, hbr⟩ := hrel
    have HTK := Lib.hid htk
    clear htk
    by_cases hlt : k < n
    · have hka : k < a.length := by rw [HNA.out]; exact hlt
      have hkb : k < b.length := by rw [HNB.out]; exact hlt
      obtain ⟨ad, rfl, hadb, hcl⟩ := at_num HA.out k hka
      obtain ⟨bd, rfl, hbdb, hclb⟩ := at_num HB.out k hkb
      obtain x0 := hcl wr hbr
      obtain y0 := hclb wr hbr
      have HT1 := Lib.hid (show a[k] = b[k] → a.take (k + 1) = b.take (k + 1) by
        intro h; rw [List.take_succ_eq_append_getElem hka, List.take_succ_eq_append_getElem hkb, HTK.out, h])
      have HT2 := Lib.hid (show a[k] ≠ b[k] → a ≠ b by
        intro h h2; subst h2; exact h rfl)
      clear hcl hclb
      generalize a[k] = x at *
      generalize b[k] = y at *
      obtain ⟨D, hD⟩ : ∃ D, decide (x = y) = D := ⟨_, rfl⟩
      have HD := Lib.hid hD
      clear hD
      have HXY := Lib.hid (show D = true → x = y from fun h => by have := HD.out; rw [h] at this; exact of_decide_eq_true this)
      have HXN := Lib.hid (show D = false → x ≠ y from fun h => by have := HD.out; rw [h] at this; exact of_decide_eq_false this)
      clear HD
      rcases D with _ | _
      · have qn : ¬ x = y := HXN.out rfl
        have qb : (x == y) = false := beq_eq_false_iff_ne.2 qn
        have qc : (x != y) = true := by simp [bne, qb]
        have HF := Lib.hid (show decide (a = b) = false by rw [decide_eq_false_iff_not]; exact HT2.out (HXN.out rfl))
        go_wp2
        go_quiet (fail)
        go_wp2
        go_ret
        exact ⟨by rw [HF.out]; rfl, below_many hbr _⟩
      · have HT := Lib.hid (HT1.out (HXY.out rfl))
        obtain rfl : x = y := HXY.out rfl
        go_wp2
        go_quiet (fail)
        go_wp2
        go_roundw
        case rel => exact ⟨k + 1, by go_num, by omega, HT.out, below_many hbr _⟩
        case measure => simp [intOf]; omega
    · obtain rfl : k = n := by omega
      have HF := Lib.hid (show decide (a = b) = true by
        have := HTK.out
        rw [List.take_of_length_le (by rw [HNA.out]; omega), List.take_of_length_le (by rw [HNB.out]; omega)] at this
        simp [this])
      go_wp2
      go_ret
      exact ⟨by rw [HF.out]; rfl, hbr⟩

end Go.Proofs.Ytcoedohfggeaiaa
