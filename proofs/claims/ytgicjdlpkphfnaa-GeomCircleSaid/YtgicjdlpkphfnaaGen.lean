/-
  General steps, over any elements: whole blocks and what is kept of memory, appends to memory of one's own, in order and in open orders; and the rule for open orders once more, with how memory has grown. Nothing is assumed.
-/
import Derived.Test.YtgicjdlpkphfnaaSoftL
import Derived.Sort.Grow

namespace Go.Proofs.Ytgicjdlpkphfnaa
open Go.RowKit Go.Sort
set_option maxRecDepth 100000

/-- whole blocks: the cells of one, none of them frozen -/
def Blk (w : World) (g : Nat) (cs : Array Value) (t : TypeId) : Prop := w.heap[g]? = some (.cells cs t (0, 0))
theorem Blk.lt {w : World} {g : Nat} {cs : Array Value} {t : TypeId} (h : Blk w g cs t) : g < w.heap.size := by
  unfold Blk at h
  rcases Nat.lt_or_ge g w.heap.size with h1 | h1
  · exact h1
  · rw [Array.getElem?_eq_none h1] at h; cases h
theorem Blk.cell {w : World} {g : Nat} {cs : Array Value} {t : TypeId} (h : Blk w g cs t) (i : Nat) : w.cell? ⟨g, i, none⟩ = cs[i]? := by
  unfold Blk at h
  simp [World.cell?, h]
theorem Blk.frozen {w : World} {g : Nat} {cs : Array Value} {t : TypeId} (h : Blk w g cs t) (i : Nat) : w.frozen? ⟨g, i, none⟩ = false := by
  unfold Blk at h
  simp [World.frozen?, h]
theorem Blk.set {w : World} {g : Nat} {cs : Array Value} {t : TypeId} (h : Blk w g cs t) (i : Nat) (v : Value) : Blk (w.setCell ⟨g, i, none⟩ v) g (cs.setIfInBounds i v) t := by
  unfold Blk at h ⊢
  exact heap_setCell_same w g i cs t v h
theorem Blk.new (w : World) (cs : Array Value) (t : TypeId) : Blk (w.alloc (.cells cs t)) w.heap.size cs t := heap_alloc_new w _

/-- all blocks but some are as they were -/
structure Kept (S : List Nat) (w w' : World) : Prop where
  os : w'.os = w.os
  tape : w'.tape = w.tape
  output : w'.output = w.output
  size : w.heap.size ≤ w'.heap.size
  block : ∀ k, k < w.heap.size → k ∉ S → w'.heap[k]? = w.heap[k]?
theorem Kept.refl (S : List Nat) (w : World) : Kept S w w := ⟨rfl, rfl, rfl, Nat.le_refl _, fun _ _ _ => rfl⟩
theorem Kept.trans {S : List Nat} {a b c : World} (h : Kept S a b) (k : Kept S b c) : Kept S a c :=
  ⟨k.os.trans h.os, k.tape.trans h.tape, k.output.trans h.output, Nat.le_trans h.size k.size, fun i hi hn => (k.block i (Nat.lt_of_lt_of_le hi h.size) hn).trans (h.block i hi hn)⟩
theorem Kept.mono {S S' : List Nat} {a b : World} (h : Kept S a b) (hs : ∀ k ∈ S, k ∈ S') : Kept S' a b :=
  ⟨h.os, h.tape, h.output, h.size, fun i hi hn => h.block i hi fun hm => hn (hs i hm)⟩
theorem Kept.of {a b : World} (h : Below a.heap.size a b) (S : List Nat) : Kept S a b := ⟨h.os, h.tape, h.output, h.size, fun i hi _ => h.block i hi⟩
theorem Kept.to {a b : World} (h : Kept [] a b) : Below a.heap.size a b := ⟨h.os, h.tape, h.output, h.size, fun i hi => h.block i hi (by simp)⟩
theorem Kept.setCell {S : List Nat} {a b : World} (h : Kept S a b) {p : Addr} (hp : p.block ∈ S) (v : Value) : Kept S a (b.setCell p v) :=
  h.trans ⟨rfl, rfl, rfl, by simp, fun i _ hn => Below.heap_setCell b p v i fun e => hn (e ▸ hp)⟩
theorem Kept.alloc {S : List Nat} {a b : World} (h : Kept S a b) (o : Obj) : Kept S a (b.alloc o) :=
  h.trans (Kept.of ((Below.refl _ _).alloc (Nat.le_refl _) o) S)
theorem Kept.below {S : List Nat} {a b c : World} (hb : Below a.heap.size a b) (h : Kept S b c) (hS : ∀ k ∈ S, a.heap.size ≤ k) : Below a.heap.size a c :=
  hb.trans ⟨h.os, h.tape, h.output, h.size, fun i hi => h.block i (Nat.lt_of_lt_of_le hi hb.size) fun hm => by have := hS i hm; omega⟩
theorem Kept.blk {S : List Nat} {a b : World} (h : Kept S a b) {g : Nat} {cs : Array Value} {t : TypeId} (hg : Blk a g cs t) (hn : g ∉ S) : Blk b g cs t := (h.block g hg.lt hn).trans hg
/-- what is new may turn -/
theorem Kept.new {S S' : List Nat} {a b c : World} (h : Kept S a b) (k : Kept S' b c) (hS : ∀ i ∈ S', i ∈ S ∨ a.heap.size ≤ i) : Kept S a c :=
  ⟨k.os.trans h.os, k.tape.trans h.tape, k.output.trans h.output, Nat.le_trans h.size k.size, fun i hi hn => (k.block i (Nat.lt_of_lt_of_le hi h.size) (fun hm => by
    rcases hS i hm with h1 | h1
    · exact hn h1
    · omega)).trans (h.block i hi hn)⟩

theorem soft_load {P : Program} {w : World} {ρ : Operand → Value} {o : Oper} {x : Operand} {t : TypeId} {a : Addr} {u : Value} (hx : ρ x = .pointer (some a)) (hr : (Instr.loadAt t (.pointer (some a))).run P w = .ok u w) (ho : o.op = .load t x) : softUpon P w (Fact.is u) ((execOp ρ o).run P w) := by
  have e : (execOp ρ o).run P w = .ok (.value u) w := by
    simp [execOp, ho, hx, hr]
  rw [e]
  exact ⟨rfl, Below.refl _ _⟩

/-- append(v, l...) onto memory of one's own, whatever slice l is, of elements of any size -/
theorem app_k {P : Program} (w : World) (base : Nat) (t ty e : TypeId) (i : TypeInfo) (z : Value) (size bytes : Nat) (ht : P.underlying t = some (.slice e)) (hi : P.info? e = some i) (hz : i.zero = some z) (hsize : i.size = size) (hby : i.bytes = bytes) (hzs : z.cells.size = size) (hsz : 0 < size)
    (v : Value) (n : Nat) (xs : List Value) (hown : w.ownsRow base e size v n xs) (A : Option Addr) (m c : Nat) (news : List Value) (hl : news.length = m * size) (hA : Lies w A news) (h1 : ∀ u ∈ news, u.oneCell' = true)
    (hb : n + m ≤ maxLen) (hbb : (n + m) * bytes ≤ 140737488355328) (hbase : base ≤ w.heap.size) :
    ∃ v' w', (Builtin.append_ #[t, t] ty #[v, .slice A m c]).run P w = .ok v' w' ∧ w'.ownsRow base e size v' (n + m) (xs ++ news) ∧ w.grownBy w' v.ownBlock ∧ (v'.ownBlock = v.ownBlock ∨ v'.ownBlock = some w.heap.size) := by
  rcases A with _ | ad
  · have hn : news = [] := by
      rcases hA with h | ⟨ad, h, _⟩
      · exact h
      · cases h
    subst hn
    obtain rfl : m = 0 := by
      rcases Nat.eq_zero_or_pos m with h | h
      · exact h
      · have := Nat.mul_pos h hsz; simp at hl; omega
    refine ⟨v, w, ?_, by simpa using hown, World.grownBy.refl w _, .inl rfl⟩
    rcases hown.2 with ⟨rfl, rfl⟩ | ⟨g, cap, cur, rfl, _, _, hnc, _⟩
    · simp [Builtin.append_, run_underlying ht, sizeOf, typeInfo, hi, Builtin.lenOf, Builtin.firstCells]
    · simp [Builtin.append_, run_underlying ht, sizeOf, typeInfo, hi, Builtin.lenOf, Builtin.firstCells, hnc, storeCells]
  · have hc : ∀ j u, news[j]? = some u → w.cell? (ad.add j) = some u := by
      rcases hA with h | ⟨ad', h, _, hc⟩
      · subst h; intro j u hu; simp at hu
      · injection h with h; subst h; exact hc
    obtain ⟨v', w', hr, h2, h3, _, h5⟩ := run_append_own_at (P := P) w base t ty e i z size bytes ht hi hz hsize hby hzs hsz v n xs hown ad m c news hl hc h1 hb hbb hbase
    exact ⟨v', w', hr, h2, h3, h5⟩
theorem wpList_appK {P : Program} {w : World} {ops : Array Oper} {rest : List Oper} {o : Oper} {a : Act} {Q : Exit → Act → World → Prop} (hgd : o.guard = none) (s x : Operand) (t : TypeId)
    (ho : o.op = .call { callee := .builtin .append, args := #[s, x], argTypes := #[t, t] })
    (base : Nat) (e : TypeId) (i : TypeInfo) (z : Value) (size bytes : Nat) (ht : P.underlying t = some (.slice e)) (hi : P.info? e = some i) (hz : i.zero = some z) (hsize : i.size = size) (hby : i.bytes = bytes) (hzs : z.cells.size = size) (hsz : 0 < size)
    (v : Value) (n : Nat) (xs : List Value) (hs : a.eval s = v) (hown : w.ownsRow base e size v n xs) (A : Option Addr) (m c : Nat) (news : List Value) (hx : a.eval x = .slice A m c) (hl : news.length = m * size) (hA : Lies w A news) (h1 : ∀ u ∈ news, u.oneCell' = true)
    (hb : n + m ≤ maxLen) (hbb : (n + m) * bytes ≤ 140737488355328) (hbase : base ≤ w.heap.size)
    (h : ∀ v' w', w'.ownsRow base e size v' (n + m) (xs ++ news) → w.grownBy w' v.ownBlock → (v'.ownBlock = v.ownBlock ∨ v'.ownBlock = some w.heap.size) → wpList P ops Q rest (a.put o.dst v') w') : wpList P ops Q (o :: rest) a w := by
  refine wpList_plain hgd fun K hK => ?_
  obtain ⟨v', w', hr, h2, h3, h4⟩ := app_k (P := P) w base t o.type e i z size bytes ht hi hz hsize hby hzs hsz v n xs hown A m c news hl hA h1 hb hbb hbase
  unfold Oper.wp execOp
  simp only [ho, resolve, invoke, builtin, Sem.run_bind, Sem.run_pure, Result.andThen_ok, List.map_toArray, List.map_cons, List.map_nil, hs, hx, hr]
  exact hK _ _ (h v' w' h2 h3 h4)
theorem row_keep {w w' : World} {B n size : Nat} {v : Value} {e : TypeId} {xs : List Value} (h : w.ownsRow B e size v n xs) (hb : Below w.heap.size w w') : w'.ownsRow B e size v n xs :=
  h.kept (row := none) ⟨hb.os, hb.tape, hb.output, hb.size, fun k hk _ => hb.block k hk⟩ (by cases hv : v.ownBlock <;> simp)
/-- an empty slice that was just made -/
def Fact.fresh (B : Nat) (e : TypeId) : Fact := ⟨fun v w => ∃ g, v = .slice (some ⟨g, 0, none⟩) 0 0 ∧ B ≤ g ∧ w.heap[g]? = some (.cells #[] e (0, 0)), fun _ _ _ ⟨g, e, h1, h⟩ hb => ⟨g, e, h1, (hb.block g (Array.getElem?_eq_some_iff.1 h).1).trans h⟩⟩
/-- memory of one's own that holds just these -/
def Fact.row (B : Nat) (e : TypeId) (size n : Nat) (xs : List Value) : Fact := ⟨fun v w => w.ownsRow B e size v n xs, fun _ _ _ h hb => row_keep h hb⟩
/-- a slice that reads as these -/
def Fact.lie (m : Nat) (xs : List Value) : Fact := ⟨fun v w => ∃ A c, v = .slice A m c ∧ Lies w A xs, fun _ _ _ ⟨A, c, e, h⟩ hb => ⟨A, c, e, h.below hb⟩⟩

theorem app0 {P : Program} (w : World) (B : Nat) (t ty e : TypeId) (i : TypeInfo) (z : Value) (size bytes : Nat) (ht : P.underlying t = some (.slice e)) (hi : P.info? e = some i) (hz : i.zero = some z) (hsize : i.size = size) (hby : i.bytes = bytes) (hzs : z.cells.size = size) (hsz : 0 < size)
    (v : Value) (hv : (Fact.fresh B e).φ v w) (A : Option Addr) (m c : Nat) (news : List Value) (hl : news.length = m * size) (hA : Lies w A news) (h1 : ∀ u ∈ news, u.oneCell' = true) (hb : m ≤ maxLen) (hbb : m * bytes ≤ 140737488355328) :
    ∃ v' w', (Builtin.append_ #[t, t] ty #[v, .slice A m c]).run P w = .ok v' w' ∧ w'.ownsRow B e size v' m news ∧ Below w.heap.size w w' := by
  obtain ⟨g, rfl, hBg, hgh⟩ := hv
  have hgl : g < w.heap.size := (Array.getElem?_eq_some_iff.1 hgh).1
  have hown : w.ownsRow B e size (.slice (some ⟨g, 0, none⟩) 0 0) 0 [] := ⟨by simp, .inr ⟨g, 0, #[], rfl, hBg, hgh, Nat.le_refl _, Nat.zero_le _, by simp, by simp⟩⟩
  obtain ⟨v', w', hr, h2, h3, h4⟩ := app_k (P := P) w B t ty e i z size bytes ht hi hz hsize hby hzs hsz (.slice (some ⟨g, 0, none⟩) 0 0) 0 [] hown A m c news hl hA h1 (by omega) (by simpa using hbb) (by omega)
  refine ⟨v', w', hr, by simpa using h2, h3.os, h3.tape, h3.output, h3.size, fun k hk => ?_⟩
  by_cases hkg : k = g
  · subst hkg
    rcases Nat.eq_zero_or_pos m with hm0 | hm0
    · subst hm0
      have hn : news = [] := List.eq_nil_of_length_eq_zero (by simpa using hl)
      subst hn
      rw [List.append_nil] at h2
      have hrun : (Builtin.append_ #[t, t] ty #[.slice (some ⟨k, 0, none⟩) 0 0, .slice A 0 c]).run P w = .ok (.slice (some ⟨k, 0, none⟩) 0 0) w := by
        rcases A with _ | ad
        · simp [Builtin.append_, run_underlying ht, sizeOf, typeInfo, hi, Builtin.lenOf, Builtin.firstCells, storeCells]
        · simp [Builtin.append_, run_underlying ht, sizeOf, typeInfo, hi, Builtin.lenOf, Builtin.firstCells, loadCells, loadCellsFrom, storeCells]
      rw [hrun] at hr
      injection hr with _ hw
      rw [hw]
    · obtain ⟨ad, rfl, hc⟩ : ∃ ad, A = some ad ∧ ∀ j u, news[j]? = some u → w.cell? (ad.add j) = some u := by
        rcases hA with h | ⟨ad, h, _, hc⟩
        · have := Nat.mul_pos hm0 hsz; rw [h] at hl; simp at hl; omega
        · exact ⟨ad, h, hc⟩
      subst hsize
      subst hby
      have hr2 := run_append_grow (P := P) w t ty e i z ht hi hz ⟨k, 0, none⟩ 0 0 [] (by simp) (by simp) ad m c news hl hc (by omega) (by unfold maxLen at hb; omega) (growslice_fits (by omega) (by simpa using hbb))
      rw [hr] at hr2
      injection hr2 with _ hw
      rw [hw]
      exact heap_alloc_old w.drew _ hk
  · exact h3.block k hk (fun e => hkg (by simpa [Value.ownBlock] using e))
theorem soft_app0 {P : Program} {w : World} {ρ : Operand → Value} {o : Oper} {s x : Operand} {t e : TypeId} {i : TypeInfo} {z : Value} {B size bytes m : Nat} {news : List Value} (ht : P.underlying t = some (.slice e)) (hi : P.info? e = some i) (hz : i.zero = some z) (hsize : i.size = size) (hby : i.bytes = bytes) (hzs : z.cells.size = size) (hsz : 0 < size)
    (hs : (Fact.fresh B e).φ (ρ s) w) (hx : (Fact.lie m news).φ (ρ x) w) (hl : news.length = m * size) (h1 : ∀ u ∈ news, u.oneCell' = true) (hb : m ≤ maxLen) (hbb : m * bytes ≤ 140737488355328) (ho : o.op = .call { callee := .builtin .append, args := #[s, x], argTypes := #[t, t] }) :
    softUpon P w (Fact.row B e size m news) ((execOp ρ o).run P w) := by
  obtain ⟨A, c, ex, hA⟩ := hx
  obtain ⟨v', w', hr, h2, h3⟩ := app0 (P := P) w B t o.type e i z size bytes ht hi hz hsize hby hzs hsz (ρ s) hs A m c news hl hA h1 hb hbb
  have hq : (execOp ρ o).run P w = .ok (.value v') w' := by
    simp only [execOp, ho, resolve, invoke, builtin, Sem.run_bind, Sem.run_pure, Result.andThen_ok, List.map_toArray, List.map_cons, List.map_nil, ex, hr]
  rw [hq]
  exact ⟨h2, h3⟩
/-- a late append -/
theorem late_app {P : Program} {W : World} {a : Act} {o : Oper} {s x : Operand} {t e : TypeId} {i : TypeInfo} {z : Value} {B size bytes n m : Nat} {xs news : List Value} {K : Act → World → Prop} {Q : Exit → Act → World → Prop} (ht : P.underlying t = some (.slice e)) (hi : P.info? e = some i) (hz : i.zero = some z) (hsize : i.size = size) (hby : i.bytes = bytes) (hzs : z.cells.size = size) (hsz : 0 < size)
    (hs : W.ownsRow B e size (a.eval s) n xs) (hx : (Fact.lie m news).φ (a.eval x) W) (hl : news.length = m * size) (h1 : ∀ u ∈ news, u.oneCell' = true) (hb : n + m ≤ maxLen) (hbb : (n + m) * bytes ≤ 140737488355328) (hB : B ≤ W.heap.size) (ho : o.op = .call { callee := .builtin .append, args := #[s, x], argTypes := #[t, t] })
    (hK : ∀ v w', w'.ownsRow B e size v (n + m) (xs ++ news) → (∀ u0, Below B u0 W → Below B u0 w') → K (a.put o.dst v) w') : o.wp P a W K Q := by
  obtain ⟨A, c, ex, hA⟩ := hx
  obtain ⟨v', w', hr, h2, h3, h4⟩ := app_k (P := P) W B t o.type e i z size bytes ht hi hz hsize hby hzs hsz (a.eval s) n xs hs A m c news hl hA h1 hb hbb hB
  unfold Oper.wp
  have hq : (execOp a.eval o).run P W = .ok (.value v') w' := by
    simp only [execOp, ho, resolve, invoke, builtin, Sem.run_bind, Sem.run_pure, Result.andThen_ok, List.map_toArray, List.map_cons, List.map_nil, ex, hr]
  rw [hq]
  exact hK v' w' h2 fun u0 hu => hu.grown h3 hB (fun g hg => (hs.lt g hg).1)
theorem late_assign {P : Program} {W : World} {a : Act} {o : Oper} {x : Operand} {v : Value} {K : Act → World → Prop} {Q : Exit → Act → World → Prop} (ho : o.op = .assign x) (hx : a.eval x = v) (hK : K (a.put o.dst v) W) : o.wp P a W K Q := by
  unfold Oper.wp
  have hq : (execOp a.eval o).run P W = .ok (.value v) W := by simp [execOp, ho, hx]
  rw [hq]
  exact hK
theorem soft_field {w : World} {ρ : Operand → Value} {o : Oper} {x : Operand} {a b : Addr} {t : TypeId} {j : Nat} (hx : ρ x = .pointer (some a)) (ho : o.op = .fieldAddr t x j) (hr : ∀ W, (Instr.fieldAt t (.pointer (some a)) j).run Try.prog W = .ok (.pointer (some b)) W) : softUpon Try.prog w (Fact.is (.pointer (some b))) ((execOp ρ o).run Try.prog w) := by
  have e : (execOp ρ o).run Try.prog w = .ok (.value (.pointer (some b))) w := by
    simp [execOp, ho, hx, hr w]
  rw [e]
  exact ⟨rfl, Below.refl _ _⟩


/-! the rule for open orders, with draws counted -/
/-- memory has only grown, and draws too -/
def Grows (w w' : World) : Prop := Below w.heap.size w w' ∧ w.drawn ≤ w'.drawn
theorem Grows.refl (w : World) : Grows w w := ⟨Below.refl _ _, Nat.le_refl _⟩
theorem Grows.trans {a b c : World} (h : Grows a b) (k : Grows b c) : Grows a c := ⟨h.1.trans (k.1.mono h.1.size), Nat.le_trans h.2 k.2⟩
theorem Grows.grown {w w' : World} (h : Grows w w') : ∃ q os, w' = grow (w.drewN q) os := by
  obtain ⟨⟨h1, h2, h3, h4, h5⟩, h6⟩ := h
  refine ⟨w'.drawn - w.drawn, w'.heap.extract w.heap.size w'.heap.size, ?_⟩
  obtain ⟨hp, tp, dr, os, ou⟩ := w
  obtain ⟨hp', tp', dr', os', ou'⟩ := w'
  simp only at *
  subst h1 h2 h3
  simp only [grow, World.drewN, World.mk.injEq, and_true, true_and]
  refine ⟨?_, by omega⟩
  apply Array.ext_getElem?
  intro i
  rw [Array.getElem?_append]
  split
  · exact h5 i ‹_›
  · rw [Array.getElem?_extract]
    split
    · congr 1; omega
    · rw [Array.getElem?_eq_none (by omega)]

/-- what one operation comes to -/
def gUpon (P : Program) (w : World) (F : Fact) : Result Next → Prop
  | .ok (.value u) w' => F.φ u w' ∧ Grows w w'
  | .ok (.enter f args) w' => w' = w ∧ Calls P f args w (fun e w'' => ∃ v, e = .returned v ∧ F.φ v w'' ∧ Grows w w'')
  | _ => False

def GStep (P : Program) (ops : Array Oper) (ds : List (Nat × List Nat)) (Fs : List Fact) (a0 : Act) (W0 : World) (o : Oper) (rd : List Nat) (F : Fact) : Prop :=
  ∀ (ρ : Operand → Value) (w : World), Grows W0 w → (∀ v, ρ (.const v) = v) → (∀ f, ρ (.func f) = .func (.func f) #[] #[]) → Reads ds Fs a0 ρ w rd →
    Under ops ρ o (gUpon P w F ((execOp ρ o).run P w)) (F.φ undef w)
def GSteps (P : Program) (ops : Array Oper) (ds : List (Nat × List Nat)) (Fs : List Fact) (a0 : Act) (W0 : World) : List Oper → List (Nat × List Nat) → List Fact → Prop
  | o :: os, d :: dr, F :: fr => GStep P ops ds Fs a0 W0 o d.2 F ∧ GSteps P ops ds Fs a0 W0 os dr fr
  | _, _, _ => True

theorem GSteps_spec {P : Program} {ops : Array Oper} {ds : List (Nat × List Nat)} {Fs : List Fact} {a0 : Act} {W0 : World} : ∀ {l : List Oper} {dl : List (Nat × List Nat)} {fl : List Fact}, GSteps P ops ds Fs a0 W0 l dl fl → l.length = dl.length → l.length = fl.length →
    ∀ i o d, l[i]? = some o → dl[i]? = some d → GStep P ops ds Fs a0 W0 o d.2 (fl.getD i default)
  | [], _, _, _, _, _, i, o, d, ho, _ => by simp at ho
  | o :: os, d :: dr, F :: fr, h, h1, h2, i, o', d', ho, hd => by
    rcases i with _ | i
    · simp only [List.getElem?_cons_zero, Option.some.injEq] at ho hd
      subst ho hd
      exact h.1
    · simp only [List.getElem?_cons_succ] at ho hd
      have := GSteps_spec h.2 (by simpa using h1) (by simpa using h2) i o' d' ho hd
      simpa using this
  | _ :: _, [], _, _, h1, _, _, _, _, _, _ => by simp at h1
  | _ :: _, _ :: _, [], _, _, h2, _, _, _, _, _ => by simp at h2

section
variable {P : Program} {ops : Array Oper} {ds : List (Nat × List Nat)} {Fs : List Fact} {a0 : Act} {W0 : World} {n : Nat} {Q : Exit → Act → World → Prop}

def GInv (ds : List (Nat × List Nat)) (Fs : List Fact) (a0 : Act) (W0 : World) (n : Nat) (listed : Array Bool) (a : Act) (w : World) : Prop :=
  Grows W0 w ∧ a.defers = a0.defers ∧ a.tmps.size = n ∧
  ∀ t, match seat ds t with
    | some j => listed.getD j false = true → (Fs.getD j default).φ (a.tmps.getD t undef) w
    | none => a.tmps.getD t undef = a0.tmps.getD t undef

theorem GInv.put {listed : Array Bool} {a : Act} {w w' : World} {i t : Nat} {v : Value} (h : GInv ds Fs a0 W0 n listed a w) (ht : t < n) (hi : seat ds t = some i) (hinj : ∀ s, seat ds s = some i → s = t)
    (hb : Grows w w') (hv : (Fs.getD i default).φ v w') : GInv ds Fs a0 W0 n (listed.setIfInBounds i true) (a.put (some t) v) w' := by
  obtain ⟨h1, h2, h3, h4⟩ := h
  refine ⟨h1.trans hb, by simpa [Act.put] using h2, by simpa [Act.put] using h3, fun s => ?_⟩
  have h5 := h4 s
  by_cases hs : s = t
  · subst hs
    simp only [hi]
    intro _
    have : (a.put (some s) v).tmps.getD s undef = v := by
      have hlt : s < a.tmps.size := by omega
      simp [Act.put, Array.getD_eq_getD_getElem?, hlt]
    rw [this]; exact hv
  · have hg : (a.put (some t) v).tmps.getD s undef = a.tmps.getD s undef := by
      simp [Act.put, Array.getD_eq_getD_getElem?, Array.getElem?_setIfInBounds_ne (Ne.symm hs)]
    rw [hg]
    cases hq : seat ds s with
    | none => simp only [hq] at h5 ⊢; exact h5
    | some j =>
      simp only [hq] at h5 ⊢
      intro hl
      have hji : i ≠ j := fun e => hs (hinj s (by rw [hq, e]))
      rw [getD_set_ne false hji] at hl
      exact (Fs.getD j default).keep _ _ _ (h5 hl) hb.1

theorem greads_of {listed : Array Bool} {a : Act} {w : World} (h : GInv ds Fs a0 W0 n listed a w) : ∀ (l : List Nat), (∀ t ∈ l, ∀ j, seat ds t = some j → listed.getD j false = true) → Reads ds Fs a0 a.eval w l
  | [], _ => trivial
  | t :: r, hl => by
    refine ⟨?_, greads_of h r fun s hs => hl s (List.mem_cons_of_mem _ hs)⟩
    have h4 := h.2.2.2 t
    unfold Knows
    cases hq : seat ds t with
    | none => simp only [hq] at h4 ⊢; exact h4
    | some j => simp only [hq] at h4 ⊢; exact h4 (hl t (List.mem_cons_self ..) j hq)

theorem wpAny_g (hok : ∀ i o, ops[i]? = some o → ∃ d, okOp ops ds n i o d = true ∧ GStep P ops ds Fs a0 W0 o d.2 (Fs.getD i default))
    (hinj : ∀ i s t, seat ds s = some i → seat ds t = some i → s = t)
    (hQ : ∀ listed a w, (∀ i, i < ops.size → listed.getD i true = true) → listed.size = ops.size → GInv ds Fs a0 W0 n listed a w → Q .normal a w) :
    ∀ (fuel : Nat) (listed : Array Bool) (a : Act) (w : World), listed.size = ops.size → left ops listed ≤ fuel → GInv ds Fs a0 W0 n listed a w → wpAny P .any ops Q fuel listed a w := by
  have hall : ∀ (listed : Array Bool), listed.size = ops.size → Region.ready .any ops listed = [] → ∀ i, i < ops.size → listed.getD i true = true := by
    intro listed hs hr i
    induction i using Nat.strongRecOn with
    | ind i ih =>
      intro hi
      cases hl : listed.getD i true with
      | true => rfl
      | false =>
        exfalso
        have hm : i ∈ Region.ready .any ops listed := by
          refine mem_ready.2 ⟨hl, ops[i], by simp [hi], fun e he hb => ?_⟩
          obtain ⟨d, hd, _⟩ := hok i ops[i] (by simp [hi])
          simp only [okOp, Bool.and_eq_true] at hd
          have h1 := Array.all_eq_true_iff_forall_mem.1 hd.2 e he
          simp only [hb, Bool.not_true, Bool.false_or, decide_eq_true_eq] at h1
          have h2 := ih e.on h1 (by omega)
          have hlt : e.on < listed.size := by omega
          simpa [Array.getD_eq_getD_getElem?, hlt] using h2
        rw [hr] at hm
        cases hm
  intro fuel
  induction fuel with
  | zero =>
    intro listed a w hs hl hI
    have hr : Region.ready .any ops listed = [] := by
      cases hq : Region.ready .any ops listed with
      | nil => rfl
      | cons i r =>
        exfalso
        have hm : i ∈ Region.ready .any ops listed := by rw [hq]; exact List.mem_cons_self ..
        obtain ⟨h0, o, ho, _⟩ := mem_ready.1 hm
        have hi : i < ops.size := by
          rcases Nat.lt_or_ge i ops.size with h | h
          · exact h
          · rw [Array.getElem?_eq_none h] at ho; cases ho
        have : i ∈ (List.range ops.size).filter fun i => !listed.getD i true := List.mem_filter.2 ⟨List.mem_range.2 hi, by rw [h0]; rfl⟩
        have hz : left ops listed = 0 := by omega
        unfold left at hz
        rw [List.eq_nil_of_length_eq_zero hz] at this
        cases this
    exact ⟨hr, hQ listed a w (hall listed hs hr) hs hI⟩
  | succ fuel ih =>
    intro listed a w hs hl hI
    refine ⟨fun hr => hQ listed a w (hall listed hs hr) hs hI, fun i hi => ?_⟩
    obtain ⟨h0, o, ho, hdeps⟩ := mem_ready.1 hi
    obtain ⟨d, hd, hstep⟩ := hok i o ho
    simp only [okOp, Bool.and_eq_true, beq_iff_eq, decide_eq_true_eq] at hd
    obtain ⟨⟨⟨⟨⟨hdst, hlt⟩, hseat⟩, hlooks⟩, hdep⟩, _⟩ := hd
    have hisz : i < ops.size := by
      rcases Nat.lt_or_ge i ops.size with h | h
      · exact h
      · rw [Array.getElem?_eq_none h] at ho; cases ho
    have hrd : Reads ds Fs a0 a.eval w d.2 := greads_of hI d.2 fun t ht j hj => by
      have h1 := List.all_eq_true.1 hdep t ht
      simp only [hj] at h1
      obtain ⟨q, hq, hb⟩ := Array.any_eq_true.1 h1
      simp only [Bool.and_eq_true, beq_iff_eq] at hb
      rw [← hb.2]
      exact hdeps _ (Array.getElem_mem hq) hb.1
    have hgo := hstep a.eval w hI.1 (fun _ => rfl) (fun _ => rfl) hrd
    have next : ∀ v w', Grows w w' → (Fs.getD i default).φ v w' → wpAny P .any ops Q fuel (listed.setIfInBounds i true) (a.put o.dst v) w' := fun v w' hb hv => by
      refine ih _ _ _ (by simpa using hs) ?_ ?_
      · have := filter_lt (p := fun i => !listed.getD i true) (q := fun j => !(listed.setIfInBounds i true).getD j true) (l := List.range ops.size) (x := i)
          (fun y hy => by
            by_cases hiy : i = y
            · subst hiy; rw [h0]; rfl
            · rw [getD_set_ne true hiy] at hy; exact hy)
          (List.mem_range.2 hisz) (by rw [h0]; rfl) (by
            have : i < listed.size := by omega
            simp [Array.getD_eq_getD_getElem?, this])
        unfold left at hl ⊢
        omega
      · rw [hdst]
        exact hI.put hlt hseat (fun s hs' => hinj i s d.1 hs' hseat) hb hv
    unfold wpOp
    simp only [ho]
    have run : gUpon P w (Fs.getD i default) ((execOp a.eval o).run P w) → o.wp P a w (wpAny P .any ops Q fuel (listed.setIfInBounds i true)) Q := fun h => by
      unfold Oper.wp
      generalize (execOp a.eval o).run P w = r at h
      cases r with
      | ok nx w' =>
        cases nx <;> simp only [gUpon] at h <;> simp only [Oper.upon]
        case value u => exact next u w' h.2 h.1
        case enter f args =>
          obtain ⟨rfl, hc⟩ := h
          exact hc.mono fun e w'' ⟨v, he, hv, hb⟩ => by subst he; exact next v w'' hb hv
      | halt x w' => simp only [gUpon] at h
    unfold Under at hgo
    cases hg : o.guard with
    | none =>
      simp only [hg] at hgo
      have hw : Region.wanted o (yielded ops a.tmps) = true := by simp [Region.wanted, hg]
      simp only [hw, if_true]
      exact .inl (run hgo)
    | some gb =>
      obtain ⟨g, b⟩ := gb
      simp only [hg] at hgo
      obtain ⟨t, ht, hcase⟩ := hgo
      have htn : ∀ c, a.eval (.tmp t) = .bool c → yielded ops a.tmps g = some c := fun c hc => by
        have hc' : a.tmps.getD t undef = .bool c := hc
        rw [Array.getD_eq_getD_getElem?] at hc'
        unfold yielded
        rw [ht]
        simp only [Option.bind_some]
        cases hq : a.tmps[t]? with
        | none => rw [hq] at hc'; simp [undef] at hc'
        | some x => rw [hq] at hc'; simp at hc'; subst hc'; rfl
      rcases hcase with ⟨hc, hy⟩ | ⟨hc, hno⟩ | ⟨hc, hno⟩
      · have hw : Region.wanted o (yielded ops a.tmps) = true := by simp [Region.wanted, hg, htn _ hc]
        simp only [hw, if_true]
        exact .inl (run hy)
      · have hw : Region.wanted o (yielded ops a.tmps) = false := by simp [Region.wanted, hg, htn _ hc]
        simp only [hw]
        exact next undef w (Grows.refl _) hno
      · have hy0 : yielded ops a.tmps g = none := by
          have hc' : a.tmps.getD t undef = undef := hc
          rw [Array.getD_eq_getD_getElem?] at hc'
          unfold yielded
          rw [ht]
          simp only [Option.bind_some]
          cases hq : a.tmps[t]? with
          | none => rfl
          | some x => rw [hq] at hc'; simp at hc'; subst hc'; rfl
        have hw : Region.wanted o (yielded ops a.tmps) = false := by simp [Region.wanted, hg, hy0]
        simp only [hw]
        exact next undef w (Grows.refl _) hno

/-- THE RULE, with how many slots there are. -/
theorem wp_g {id : Nat} {l : List Oper} {w : World} (hm : P.follows .mixedOrders = true) (n : Nat) (ds : List (Nat × List Nat)) (Fs : List Fact)
    (hB : okFrom l.toArray ds n 0 l ds = true) (hn : a0.tmps.size = n) (hlen : l.length = Fs.length)
    (hS : GSteps P l.toArray ds Fs a0 w.drew l ds Fs)
    (hQ : ∀ a w', Grows w.drew w' → a.defers = a0.defers → a.tmps.size = n → (∀ t, Knows ds Fs a0 t (a.tmps.getD t undef) w') → Q .normal a w') :
    (Code.region id l.toArray true).wp P Q a0 w := by
  obtain ⟨hll, hall⟩ := okFrom_spec hB
  have hinj' : ∀ i s t, seat ds s = some i → seat ds t = some i → s = t := fun i s t hs ht => by
    unfold seat at hs ht
    obtain ⟨h1, h2, _⟩ := List.findIdx?_eq_some_iff_getElem.1 hs
    obtain ⟨_, h3, _⟩ := List.findIdx?_eq_some_iff_getElem.1 ht
    simp only [beq_iff_eq] at h2 h3
    rw [← h2, ← h3]
  refine wp_region_any hm (wpAny_g (P := P) (ops := l.toArray) (ds := ds) (Fs := Fs) (a0 := a0) (W0 := w.drew) (n := n) (fun i o ho => ?_) hinj' (fun listed a w' hal hsz hI => ?_) _ _ _ _ (by simp) ?_ ?_)
  · have ho' : l[i]? = some o := by simpa using ho
    obtain ⟨d, hd, hk⟩ := hall i o ho'
    rw [Nat.zero_add] at hk
    exact ⟨d, hk, GSteps_spec hS hll hlen i o d ho' hd⟩
  · refine hQ a w' hI.1 hI.2.1 hI.2.2.1 fun t => ?_
    have h4 := hI.2.2.2 t
    unfold Knows
    cases hq : seat ds t with
    | none => simp only [hq] at h4 ⊢; exact h4
    | some j =>
      simp only [hq] at h4 ⊢
      obtain ⟨hj, _⟩ := List.findIdx?_eq_some_iff_getElem.1 (show ds.findIdx? (fun p => p.1 == t) = some j from hq)
      have hj2 : j < l.toArray.size := by simp; omega
      have h5 := hal j hj2
      have h6 : j < listed.size := by omega
      exact h4 (by simpa [Array.getD_eq_getD_getElem?, h6] using h5)
  · unfold left
    have := List.length_filter_le (fun i => !(Array.replicate l.toArray.size false).getD i true) (List.range l.toArray.size)
    simpa using this
  · refine ⟨Grows.refl _, rfl, hn, fun t => ?_⟩
    cases hq : seat ds t with
    | none => rfl
    | some j =>
      simp only
      intro h
      exfalso
      rw [Array.getD_eq_getD_getElem?, Array.getElem?_replicate] at h
      split at h <;> simp at h

end
end Go.Proofs.Ytgicjdlpkphfnaa
