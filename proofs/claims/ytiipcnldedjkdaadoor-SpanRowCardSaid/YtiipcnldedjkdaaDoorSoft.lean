/-
  A statement whose order the language leaves open, with calls that make memory in it: each operation is shown by itself, from what it reads alone, in whatever world that has only grown; then every order serves. Nothing is assumed.
-/
import Derived.Orders
import Derived.Below
namespace Go.Proofs.YtiipcnldedjkdaaDoor
open Go.RowKit

/-- what is known of a value, kept while memory only grows -/
structure Fact where
  φ : Value → World → Prop
  keep : ∀ v w w', φ v w → Below w.heap.size w w' → φ v w'
def Fact.is (c : Value) : Fact := ⟨fun v _ => v = c, fun _ _ _ h _ => h⟩
instance : Inhabited Fact := ⟨⟨fun _ _ => True, fun _ _ _ _ _ => trivial⟩⟩

/-- what one operation comes to -/
def softUpon (P : Program) (w : World) (F : Fact) : Result Next → Prop
  | .ok (.value u) w' => F.φ u w' ∧ Below w.heap.size w w'
  | .ok (.enter f args) w' => w' = w ∧ Calls P f args w (fun e w'' => ∃ v, e = .returned v ∧ F.φ v w'' ∧ Below w.heap.size w w'')
  | _ => False

/-- which operation writes a slot: 'ds' has, of each operation, the slot that it writes and the slots that it reads -/
def seat (ds : List (Nat × List Nat)) (t : Nat) : Option Nat := ds.findIdx? fun p => p.1 == t
def Knows (ds : List (Nat × List Nat)) (Fs : List Fact) (a0 : Act) (t : Nat) (v : Value) (w : World) : Prop :=
  match seat ds t with
  | some j => (Fs.getD j default).φ v w
  | none => v = a0.tmps.getD t undef
def Reads (ds : List (Nat × List Nat)) (Fs : List Fact) (a0 : Act) (ρ : Operand → Value) (w : World) : List Nat → Prop
  | [] => True
  | t :: r => Knows ds Fs a0 t (ρ (.tmp t)) w ∧ Reads ds Fs a0 ρ w r
/-- under its guard, if it has one -/
def Under (ops : Array Oper) (ρ : Operand → Value) (o : Oper) (yes no : Prop) : Prop :=
  match o.guard with
  | none => yes
  | some (g, b) => ∃ t, (ops[g]?).bind (·.dst) = some t ∧ ((ρ (.tmp t) = .bool b ∧ yes) ∨ (ρ (.tmp t) = .bool (!b) ∧ no))
def Step (P : Program) (ops : Array Oper) (ds : List (Nat × List Nat)) (Fs : List Fact) (a0 : Act) (W0 : World) (o : Oper) (rd : List Nat) (F : Fact) : Prop :=
  ∀ (ρ : Operand → Value) (w : World), Below W0.heap.size W0 w → (∀ v, ρ (.const v) = v) → (∀ f, ρ (.func f) = .func (.func f) #[] #[]) → Reads ds Fs a0 ρ w rd →
    Under ops ρ o (softUpon P w F ((execOp ρ o).run P w)) (F.φ undef w)
def Steps (P : Program) (ops : Array Oper) (ds : List (Nat × List Nat)) (Fs : List Fact) (a0 : Act) (W0 : World) : List Oper → List (Nat × List Nat) → List Fact → Prop
  | o :: os, d :: dr, F :: fr => Step P ops ds Fs a0 W0 o d.2 F ∧ Steps P ops ds Fs a0 W0 os dr fr
  | _, _, _ => True

/-- the closed look at a region: slots, reads, edges -/
def okOp (ops : Array Oper) (ds : List (Nat × List Nat)) (n i : Nat) (o : Oper) (d : Nat × List Nat) : Bool :=
  o.dst == some d.1 && decide (d.1 < n) && seat ds d.1 == some i && (o.looksAt ops).all (fun t => d.2.contains t) &&
  d.2.all (fun t => match seat ds t with | none => true | some j => o.after.any fun e => Region.binds .any e && e.on == j) &&
  o.after.all (fun e => !Region.binds .any e || decide (e.on < i))
def okFrom (ops : Array Oper) (ds : List (Nat × List Nat)) (n : Nat) : Nat → List Oper → List (Nat × List Nat) → Bool
  | i, o :: os, d :: dr => okOp ops ds n i o d && okFrom ops ds n (i + 1) os dr
  | _, [], [] => true
  | _, _, _ => false

theorem okFrom_spec {ops : Array Oper} {ds : List (Nat × List Nat)} {n : Nat} : ∀ {k : Nat} {l : List Oper} {dl : List (Nat × List Nat)}, okFrom ops ds n k l dl = true →
    l.length = dl.length ∧ ∀ i o, l[i]? = some o → ∃ d, dl[i]? = some d ∧ okOp ops ds n (k + i) o d = true
  | _, [], [], _ => ⟨rfl, fun i o h => by simp at h⟩
  | k, o :: os, d :: dr, h => by
    simp only [okFrom, Bool.and_eq_true] at h
    obtain ⟨h1, h2⟩ := okFrom_spec h.2
    refine ⟨by simp [h1], fun i o' ho => ?_⟩
    rcases i with _ | i
    · simp only [List.getElem?_cons_zero, Option.some.injEq] at ho
      subst ho
      exact ⟨d, by simp, h.1⟩
    · simp only [List.getElem?_cons_succ] at ho ⊢
      obtain ⟨d', hd, hk⟩ := h2 i o' ho
      exact ⟨d', hd, by rw [show k + (i + 1) = k + 1 + i by omega]; exact hk⟩
  | _, [], _ :: _, h => by simp [okFrom] at h
  | _, _ :: _, [], h => by simp [okFrom] at h

theorem Steps_spec {P : Program} {ops : Array Oper} {ds : List (Nat × List Nat)} {Fs : List Fact} {a0 : Act} {W0 : World} : ∀ {l : List Oper} {dl : List (Nat × List Nat)} {fl : List Fact}, Steps P ops ds Fs a0 W0 l dl fl → l.length = dl.length → l.length = fl.length →
    ∀ i o d, l[i]? = some o → dl[i]? = some d → Step P ops ds Fs a0 W0 o d.2 (fl.getD i default)
  | [], _, _, _, _, _, i, o, d, ho, _ => by simp at ho
  | o :: os, d :: dr, F :: fr, h, h1, h2, i, o', d', ho, hd => by
    rcases i with _ | i
    · simp only [List.getElem?_cons_zero, Option.some.injEq] at ho hd
      subst ho hd
      exact h.1
    · simp only [List.getElem?_cons_succ] at ho hd
      have := Steps_spec h.2 (by simpa using h1) (by simpa using h2) i o' d' ho hd
      simpa using this
  | _ :: _, [], _, _, h1, _, _, _, _, _, _ => by simp at h1
  | _ :: _, _ :: _, [], _, _, h2, _, _, _, _, _ => by simp at h2

section
variable {P : Program} {ops : Array Oper} {ds : List (Nat × List Nat)} {Fs : List Fact} {a0 : Act} {W0 : World} {n : Nat} {Q : Exit → Act → World → Prop}

def Inv (ds : List (Nat × List Nat)) (Fs : List Fact) (a0 : Act) (W0 : World) (n : Nat) (listed : Array Bool) (a : Act) (w : World) : Prop :=
  Below W0.heap.size W0 w ∧ a.defers = a0.defers ∧ a.tmps.size = n ∧
  ∀ t, match seat ds t with
    | some j => listed.getD j false = true → (Fs.getD j default).φ (a.tmps.getD t undef) w
    | none => a.tmps.getD t undef = a0.tmps.getD t undef

theorem Inv.put {listed : Array Bool} {a : Act} {w w' : World} {i t : Nat} {v : Value} (h : Inv ds Fs a0 W0 n listed a w) (ht : t < n) (hi : seat ds t = some i) (hinj : ∀ s, seat ds s = some i → s = t)
    (hb : Below w.heap.size w w') (hv : (Fs.getD i default).φ v w') : Inv ds Fs a0 W0 n (listed.setIfInBounds i true) (a.put (some t) v) w' := by
  obtain ⟨h1, h2, h3, h4⟩ := h
  refine ⟨h1.trans (hb.mono h1.size), by simpa [Act.put] using h2, by simpa [Act.put] using h3, fun s => ?_⟩
  have h5 := h4 s
  by_cases hs : s = t
  · subst hs
    simp only [hi]
    intro _
    have : (a.put (some s) v).tmps.getD s undef = v := by
      have hlt : s < a.tmps.size := by omega
      simp [Act.put, Array.getD_eq_getD_getElem?, hlt]
    rw [this]; exact hv
  · have hg : (a.put (some t) v).tmps.getD s undef = a.tmps.getD s undef := by
      simp [Act.put, Array.getD_eq_getD_getElem?, Array.getElem?_setIfInBounds_ne (Ne.symm hs)]
    rw [hg]
    cases hq : seat ds s with
    | none => simp only [hq] at h5 ⊢; exact h5
    | some j =>
      simp only [hq] at h5 ⊢
      intro hl
      have hji : i ≠ j := fun e => hs (hinj s (by rw [hq, e]))
      rw [getD_set_ne false hji] at hl
      exact (Fs.getD j default).keep _ _ _ (h5 hl) hb

theorem reads_of {listed : Array Bool} {a : Act} {w : World} (h : Inv ds Fs a0 W0 n listed a w) : ∀ (l : List Nat), (∀ t ∈ l, ∀ j, seat ds t = some j → listed.getD j false = true) → Reads ds Fs a0 a.eval w l
  | [], _ => trivial
  | t :: r, hl => by
    refine ⟨?_, reads_of h r fun s hs => hl s (List.mem_cons_of_mem _ hs)⟩
    have h4 := h.2.2.2 t
    unfold Knows
    cases hq : seat ds t with
    | none => simp only [hq] at h4 ⊢; exact h4
    | some j => simp only [hq] at h4 ⊢; exact h4 (hl t (List.mem_cons_self ..) j hq)

theorem filter_lt {p q : Nat → Bool} : ∀ {l : List Nat} {x : Nat}, (∀ y, q y = true → p y = true) → x ∈ l → p x = true → q x = false → (l.filter q).length < (l.filter p).length
  | y :: l, x, h, hx, hp, hq => by
    have hle : ∀ l : List Nat, (l.filter q).length ≤ (l.filter p).length := fun l => by
      induction l with
      | nil => simp
      | cons z l ih =>
        by_cases hz : q z = true
        · simp [hz, h z hz]; exact ih
        · have hz' : q z = false := by simpa using hz
          by_cases hpz : p z = true
          · simp [hz', hpz]; omega
          · simp [hz', hpz]; exact ih
    rcases List.mem_cons.1 hx with e | hx'
    · subst e
      have := hle l
      simp [hp, hq]; omega
    · have ih := filter_lt (l := l) h hx' hp hq
      by_cases hz : q y = true
      · simp [hz, h y hz]; exact ih
      · have hz' : q y = false := by simpa using hz
        by_cases hpz : p y = true
        · simp [hz', hpz]; omega
        · simp [hz', hpz]; exact ih
  | [], x, _, hx, _, _ => by cases hx

def left (ops : Array Oper) (listed : Array Bool) : Nat := ((List.range ops.size).filter fun i => !listed.getD i true).length

theorem wpAny_soft (hok : ∀ i o, ops[i]? = some o → ∃ d, okOp ops ds n i o d = true ∧ Step P ops ds Fs a0 W0 o d.2 (Fs.getD i default))
    (hinj : ∀ i s t, seat ds s = some i → seat ds t = some i → s = t)
    (hQ : ∀ listed a w, (∀ i, i < ops.size → listed.getD i true = true) → listed.size = ops.size → Inv ds Fs a0 W0 n listed a w → Q .normal a w) :
    ∀ (fuel : Nat) (listed : Array Bool) (a : Act) (w : World), listed.size = ops.size → left ops listed ≤ fuel → Inv ds Fs a0 W0 n listed a w → wpAny P .any ops Q fuel listed a w := by
  have hall : ∀ (listed : Array Bool), listed.size = ops.size → Region.ready .any ops listed = [] → ∀ i, i < ops.size → listed.getD i true = true := by
    intro listed hs hr i
    induction i using Nat.strongRecOn with
    | ind i ih =>
      intro hi
      cases hl : listed.getD i true with
      | true => rfl
      | false =>
        exfalso
        have hm : i ∈ Region.ready .any ops listed := by
          refine mem_ready.2 ⟨hl, ops[i], by simp [hi], fun e he hb => ?_⟩
          obtain ⟨d, hd, _⟩ := hok i ops[i] (by simp [hi])
          simp only [okOp, Bool.and_eq_true] at hd
          have h1 := Array.all_eq_true_iff_forall_mem.1 hd.2 e he
          simp only [hb, Bool.not_true, Bool.false_or, decide_eq_true_eq] at h1
          have h2 := ih e.on h1 (by omega)
          have hlt : e.on < listed.size := by omega
          simpa [Array.getD_eq_getD_getElem?, hlt] using h2
        rw [hr] at hm
        cases hm
  intro fuel
  induction fuel with
  | zero =>
    intro listed a w hs hl hI
    have hr : Region.ready .any ops listed = [] := by
      cases hq : Region.ready .any ops listed with
      | nil => rfl
      | cons i r =>
        exfalso
        have hm : i ∈ Region.ready .any ops listed := by rw [hq]; exact List.mem_cons_self ..
        obtain ⟨h0, o, ho, _⟩ := mem_ready.1 hm
        have hi : i < ops.size := by
          rcases Nat.lt_or_ge i ops.size with h | h
          · exact h
          · rw [Array.getElem?_eq_none h] at ho; cases ho
        have : i ∈ (List.range ops.size).filter fun i => !listed.getD i true := List.mem_filter.2 ⟨List.mem_range.2 hi, by rw [h0]; rfl⟩
        have hz : left ops listed = 0 := by omega
        unfold left at hz
        rw [List.eq_nil_of_length_eq_zero hz] at this
        cases this
    exact ⟨hr, hQ listed a w (hall listed hs hr) hs hI⟩
  | succ fuel ih =>
    intro listed a w hs hl hI
    refine ⟨fun hr => hQ listed a w (hall listed hs hr) hs hI, fun i hi => ?_⟩
    obtain ⟨h0, o, ho, hdeps⟩ := mem_ready.1 hi
    obtain ⟨d, hd, hstep⟩ := hok i o ho
    simp only [okOp, Bool.and_eq_true, beq_iff_eq, decide_eq_true_eq] at hd
    obtain ⟨⟨⟨⟨⟨hdst, hlt⟩, hseat⟩, hlooks⟩, hdep⟩, _⟩ := hd
    have hisz : i < ops.size := by
      rcases Nat.lt_or_ge i ops.size with h | h
      · exact h
      · rw [Array.getElem?_eq_none h] at ho; cases ho
    have hrd : Reads ds Fs a0 a.eval w d.2 := reads_of hI d.2 fun t ht j hj => by
      have h1 := List.all_eq_true.1 hdep t ht
      simp only [hj] at h1
      obtain ⟨q, hq, hb⟩ := Array.any_eq_true.1 h1
      simp only [Bool.and_eq_true, beq_iff_eq] at hb
      rw [← hb.2]
      exact hdeps _ (Array.getElem_mem hq) hb.1
    have hgo := hstep a.eval w hI.1 (fun _ => rfl) (fun _ => rfl) hrd
    have next : ∀ v w', Below w.heap.size w w' → (Fs.getD i default).φ v w' → wpAny P .any ops Q fuel (listed.setIfInBounds i true) (a.put o.dst v) w' := fun v w' hb hv => by
      refine ih _ _ _ (by simpa using hs) ?_ ?_
      · have := filter_lt (p := fun i => !listed.getD i true) (q := fun j => !(listed.setIfInBounds i true).getD j true) (l := List.range ops.size) (x := i)
          (fun y hy => by
            by_cases hiy : i = y
            · subst hiy; rw [h0]; rfl
            · rw [getD_set_ne true hiy] at hy; exact hy)
          (List.mem_range.2 hisz) (by rw [h0]; rfl) (by
            have : i < listed.size := by omega
            simp [Array.getD_eq_getD_getElem?, this])
        unfold left at hl ⊢
        omega
      · rw [hdst]
        exact hI.put hlt hseat (fun s hs' => hinj i s d.1 hs' hseat) hb hv
    unfold wpOp
    simp only [ho]
    have run : softUpon P w (Fs.getD i default) ((execOp a.eval o).run P w) → o.wp P a w (wpAny P .any ops Q fuel (listed.setIfInBounds i true)) Q := fun h => by
      unfold Oper.wp
      generalize (execOp a.eval o).run P w = r at h
      cases r with
      | ok nx w' =>
        cases nx <;> simp only [softUpon] at h <;> simp only [Oper.upon]
        case value u => exact next u w' h.2 h.1
        case enter f args =>
          obtain ⟨rfl, hc⟩ := h
          exact hc.mono fun e w'' ⟨v, he, hv, hb⟩ => by subst he; exact next v w'' hb hv
      | halt x w' => simp only [softUpon] at h
    unfold Under at hgo
    cases hg : o.guard with
    | none =>
      simp only [hg] at hgo
      have hw : Region.wanted o (yielded ops a.tmps) = true := by simp [Region.wanted, hg]
      simp only [hw, if_true]
      exact .inl (run hgo)
    | some gb =>
      obtain ⟨g, b⟩ := gb
      simp only [hg] at hgo
      obtain ⟨t, ht, hcase⟩ := hgo
      have htn : ∀ c, a.eval (.tmp t) = .bool c → yielded ops a.tmps g = some c := fun c hc => by
        have hc' : a.tmps.getD t undef = .bool c := hc
        rw [Array.getD_eq_getD_getElem?] at hc'
        unfold yielded
        rw [ht]
        simp only [Option.bind_some]
        cases hq : a.tmps[t]? with
        | none => rw [hq] at hc'; simp [undef] at hc'
        | some x => rw [hq] at hc'; simp at hc'; subst hc'; rfl
      rcases hcase with ⟨hc, hy⟩ | ⟨hc, hno⟩
      · have hw : Region.wanted o (yielded ops a.tmps) = true := by simp [Region.wanted, hg, htn _ hc]
        simp only [hw, if_true]
        exact .inl (run hy)
      · have hw : Region.wanted o (yielded ops a.tmps) = false := by simp [Region.wanted, hg, htn _ hc]
        simp only [hw]
        exact next undef w (Below.refl _ _) hno

/-- THE RULE, with how many slots there are. -/
theorem wp_softS {id : Nat} {l : List Oper} {w : World} (hm : P.follows .mixedOrders = true) (n : Nat) (ds : List (Nat × List Nat)) (Fs : List Fact)
    (hB : okFrom l.toArray ds n 0 l ds = true) (hn : a0.tmps.size = n) (hlen : l.length = Fs.length)
    (hS : Steps P l.toArray ds Fs a0 w.drew l ds Fs)
    (hQ : ∀ a w', Below w.drew.heap.size w.drew w' → a.defers = a0.defers → a.tmps.size = n → (∀ t, Knows ds Fs a0 t (a.tmps.getD t undef) w') → Q .normal a w') :
    (Code.region id l.toArray true).wp P Q a0 w := by
  obtain ⟨hll, hall⟩ := okFrom_spec hB
  have hinj' : ∀ i s t, seat ds s = some i → seat ds t = some i → s = t := fun i s t hs ht => by
    unfold seat at hs ht
    obtain ⟨h1, h2, _⟩ := List.findIdx?_eq_some_iff_getElem.1 hs
    obtain ⟨_, h3, _⟩ := List.findIdx?_eq_some_iff_getElem.1 ht
    simp only [beq_iff_eq] at h2 h3
    rw [← h2, ← h3]
  refine wp_region_any hm (wpAny_soft (P := P) (ops := l.toArray) (ds := ds) (Fs := Fs) (a0 := a0) (W0 := w.drew) (n := n) (fun i o ho => ?_) hinj' (fun listed a w' hal hsz hI => ?_) _ _ _ _ (by simp) ?_ ?_)
  · have ho' : l[i]? = some o := by simpa using ho
    obtain ⟨d, hd, hk⟩ := hall i o ho'
    rw [Nat.zero_add] at hk
    exact ⟨d, hk, Steps_spec hS hll hlen i o d ho' hd⟩
  · refine hQ a w' hI.1 hI.2.1 hI.2.2.1 fun t => ?_
    have h4 := hI.2.2.2 t
    unfold Knows
    cases hq : seat ds t with
    | none => simp only [hq] at h4 ⊢; exact h4
    | some j =>
      simp only [hq] at h4 ⊢
      obtain ⟨hj, _⟩ := List.findIdx?_eq_some_iff_getElem.1 (show ds.findIdx? (fun p => p.1 == t) = some j from hq)
      have hj2 : j < l.toArray.size := by simp; omega
      have h5 := hal j hj2
      have h6 : j < listed.size := by omega
      exact h4 (by simpa [Array.getD_eq_getD_getElem?, h6] using h5)
  · unfold left
    have := List.length_filter_le (fun i => !(Array.replicate l.toArray.size false).getD i true) (List.range l.toArray.size)
    simpa using this
  · refine ⟨Below.refl _ _, rfl, hn, fun t => ?_⟩
    cases hq : seat ds t with
    | none => rfl
    | some j =>
      simp only
      intro h
      exfalso
      rw [Array.getD_eq_getD_getElem?, Array.getElem?_replicate] at h
      split at h <;> simp at h

/-- THE RULE. -/
theorem wp_soft {id : Nat} {l : List Oper} {w : World} (hm : P.follows .mixedOrders = true) (n : Nat) (ds : List (Nat × List Nat)) (Fs : List Fact)
    (hB : okFrom l.toArray ds n 0 l ds = true) (hn : a0.tmps.size = n) (hlen : l.length = Fs.length)
    (hS : Steps P l.toArray ds Fs a0 w.drew l ds Fs)
    (hQ : ∀ a w', Below w.drew.heap.size w.drew w' → a.defers = a0.defers → (∀ t, Knows ds Fs a0 t (a.tmps.getD t undef) w') → Q .normal a w') :
    (Code.region id l.toArray true).wp P Q a0 w :=
  wp_softS hm n ds Fs hB hn hlen hS fun a w' h1 h2 _ h3 => hQ a w' h1 h2 h3

/-- the frame behind such a region: what was there, with the region's slots put -/
theorem act_puts {a : Act} {w' : World} {n : Nat} (hd : a.defers = a0.defers) (hs : a.tmps.size = n) (hn : a0.tmps.size = n) (hk : ∀ t, Knows ds Fs a0 t (a.tmps.getD t undef) w') :
    a = (ds.map (·.1)).foldl (fun b t => b.put (some t) (a.tmps.getD t undef)) a0 := by
  have key : ∀ (ts : List Nat) (b : Act), b.tmps.size = n → b.defers = a.defers → (∀ t, t < n → t ∉ ts → b.tmps.getD t undef = a.tmps.getD t undef) → ts.foldl (fun b t => b.put (some t) (a.tmps.getD t undef)) b = a := by
    intro ts
    induction ts with
    | nil =>
      intro b hb hbd h
      obtain ⟨bt, bd⟩ := b
      obtain ⟨at_, ad⟩ := a
      simp only at hb hbd hs h
      subst hbd
      have e : bt = at_ := Array.ext (by omega) fun i h1 h2 => by
        have := h i (by omega) (by simp)
        simpa [Array.getD_eq_getD_getElem?, h1, h2] using this
      subst e
      rfl
    | cons t ts ih =>
      intro b hb hbd h
      refine ih _ (by simpa [Act.put] using hb) (by simpa [Act.put] using hbd) fun s hsn hs' => ?_
      by_cases e : s = t
      · subst e
        have hlt : s < b.tmps.size := by omega
        simp [Act.put, Array.getD_eq_getD_getElem?, hlt]
      · have h1 := h s hsn (by simp [e, hs'])
        rw [← h1]
        simp [Act.put, Array.getD_eq_getD_getElem?, Array.getElem?_setIfInBounds_ne (Ne.symm e)]
  refine (key (ds.map (·.1)) a0 hn hd.symm fun t _ ht => ?_).symm
  have h := hk t
  unfold Knows at h
  have hq : seat ds t = none := by
    unfold seat
    rw [List.findIdx?_eq_none_iff]
    intro p hp
    simp only [beq_eq_false_iff_ne]
    intro e
    exact ht (List.mem_map.2 ⟨p, hp, e⟩)
  rw [hq] at h
  exact h.symm
end
end Go.Proofs.YtiipcnldedjkdaaDoor
