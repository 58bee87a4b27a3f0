/-
  A statement whose order the language leaves open, in which something that was there, or that one has made, is written (a store, an append onto memory of one's own): the operations that write ('late') stand in one order among themselves; those that read or make memory ('hard') come ahead of them; those that look at no memory ('free') come whenever they do. Each is shown by itself; then every order serves. Nothing is assumed.
-/
import Derived.Test.YtgicjdlpkphfnaaBase

namespace Go.Proofs.Ytgicjdlpkphfnaa
open Go.RowKit
set_option maxRecDepth 100000

/-- an operation that looks at no memory -/
def Free (P : Program) (ds : List (Nat × List Nat)) (Fs : List Fact) (a0 : Act) (o : Oper) (rd : List Nat) (F : Fact) : Prop :=
  o.guard = none ∧ ∃ c, F = Fact.is c ∧ ∀ (ρ : Operand → Value) (w : World), (∀ v, ρ (.const v) = v) → (∀ f, ρ (.func f) = .func (.func f) #[] #[]) → Reads ds Fs a0 ρ w rd → (execOp ρ o).run P w = .ok (.value c) w
/-- kinds: 0 free, 1 hard, 2 late -/
def LSteps (P : Program) (ops : Array Oper) (ds : List (Nat × List Nat)) (Fs : List Fact) (a0 : Act) (W0 : World) : List Oper → List (Nat × List Nat) → List Fact → List Nat → Prop
  | o :: os, d :: dr, F :: fr, 0 :: kr => Free P ds Fs a0 o d.2 F ∧ LSteps P ops ds Fs a0 W0 os dr fr kr
  | o :: os, d :: dr, F :: fr, 1 :: kr => Step P ops ds Fs a0 W0 o d.2 F ∧ LSteps P ops ds Fs a0 W0 os dr fr kr
  | _ :: os, _ :: dr, _ :: fr, (_ + 2) :: kr => LSteps P ops ds Fs a0 W0 os dr fr kr
  | _, _, _, _ => True
theorem LSteps_spec {P : Program} {ops : Array Oper} {ds : List (Nat × List Nat)} {Fs : List Fact} {a0 : Act} {W0 : World} : ∀ {l : List Oper} {dl : List (Nat × List Nat)} {fl : List Fact} {kl : List Nat}, LSteps P ops ds Fs a0 W0 l dl fl kl → l.length = dl.length → l.length = fl.length → l.length = kl.length →
    ∀ i o d, l[i]? = some o → dl[i]? = some d → (kl.getD i 2 = 0 → Free P ds Fs a0 o d.2 (fl.getD i default)) ∧ (kl.getD i 2 = 1 → Step P ops ds Fs a0 W0 o d.2 (fl.getD i default))
  | [], _, _, _, _, _, _, _, i, o, d, ho, _ => by simp at ho
  | o :: os, d :: dr, F :: fr, k :: kr, h, h1, h2, h3, i, o', d', ho, hd => by
    have ht : LSteps P ops ds Fs a0 W0 os dr fr kr := by
      match k, h with
      | 0, h => exact h.2
      | 1, h => exact h.2
      | _ + 2, h => exact h
    rcases i with _ | i
    · simp only [List.getElem?_cons_zero, Option.some.injEq] at ho hd
      subst ho hd
      match k, h with
      | 0, h => exact ⟨fun _ => h.1, fun h' => by cases h'⟩
      | 1, h => exact ⟨(fun h' => by cases h'), fun _ => h.1⟩
      | k + 2, h => exact ⟨fun h' => by simp at h', fun h' => by simp at h'⟩
    · simp only [List.getElem?_cons_succ] at ho hd
      have := LSteps_spec ht (by simpa using h1) (by simpa using h2) (by simpa using h3) i o' d' ho hd
      simpa using this
  | _ :: _, [], _, _, _, h1, _, _, _, _, _, _, _ => by simp at h1
  | _ :: _, _ :: _, [], _, _, _, h2, _, _, _, _, _, _ => by simp at h2
  | _ :: _, _ :: _, _ :: _, [], _, _, _, h3, _, _, _, _, _ => by simp at h3

/-- the closed look at such a region -/
def hasEdge (ops : Array Oper) (k i : Nat) : Bool := ((ops[k]?).map fun o => o.after.any fun e => Region.binds .any e && e.on == i).getD false
def okL (ops : Array Oper) (ds : List (Nat × List Nat)) (ks late : List Nat) (keep : List Nat) (n : Nat) : Bool :=
  -- edges go back, and from those that are not late to those that are not late
  ((List.range ops.size).all fun i => ((ops[i]?).map fun o => o.after.all fun e => !Region.binds .any e || (decide (e.on < i) && (ks.getD i 2 == 2 || !(ks.getD e.on 2 == 2)))).getD false) &&
  -- what is not late: its slot, its reads
  ((List.range ops.size).all fun i => ks.getD i 2 == 2 || ((ops[i]?).bind fun o => (ds[i]?).map fun d =>
    o.dst == some d.1 && decide (d.1 < n) && seat ds d.1 == some i && (o.looksAt ops).all (fun t => d.2.contains t) &&
    d.2.all (fun t => match seat ds t with | none => late.all (fun j => !((ops[j]?).bind (·.dst) == some t) || hasEdge ops j i) | some j => hasEdge ops i j && !(ks.getD j 2 == 2) && (!(ks.getD i 2 == 0) || ks.getD j 2 == 0))).getD false) &&
  -- what is hard comes ahead of the first late one
  ((List.range ops.size).all fun i => !(ks.getD i 2 == 1) || (List.range ops.size).any fun k => decide (i < k) && (ks.getD k 2 == 1 || late[0]? == some k) && hasEdge ops k i) &&
  -- the late ones stand in a row
  ((List.range late.length).all fun q => ((late[q]?).map fun j => ks.getD j 2 == 2 && decide (j < ops.size) && ((ops[j]?).map fun o => o.guard.isNone && ((o.dst.map fun t => decide (t < n) && seat ds t == none && (List.range late.length).all fun q' => q' == q || !(((late[q']?).bind fun j' => (ops[j']?).bind (·.dst)) == some t)).getD true)).getD false && (q == 0 || hasEdge ops j (late.getD (q - 1) 0))).getD false) &&
  ((List.range ops.size).all fun i => !(ks.getD i 2 == 2) || late.contains i) &&
  -- what is remembered is no free one's
  (keep.all fun t => match seat ds t with | none => true | some j => !(ks.getD j 2 == 0)) && ks.length == ops.size && ds.length == ops.size && decide (0 < late.length) && decide (late.Nodup) && ks.all (fun k => decide (k ≤ 2))
end Go.Proofs.Ytgicjdlpkphfnaa

namespace Go.Proofs.Ytgicjdlpkphfnaa
open Go.RowKit
set_option maxRecDepth 100000

theorem hasEdge_iff {ops : Array Oper} {k i : Nat} (h : hasEdge ops k i = true) : ∃ o, ops[k]? = some o ∧ ∃ e ∈ o.after, Region.binds .any e = true ∧ e.on = i := by
  unfold hasEdge at h
  cases ho : ops[k]? with
  | none => rw [ho] at h; simp at h
  | some o =>
    rw [ho] at h
    simp only [Option.map_some, Option.getD_some] at h
    obtain ⟨q, hq, hb⟩ := Array.any_eq_true.1 h
    simp only [Bool.and_eq_true, beq_iff_eq] at hb
    exact ⟨o, rfl, _, Array.getElem_mem hq, hb.1, hb.2⟩
theorem getD_flip {listed : Array Bool} {i : Nat} (h : i < listed.size) (b c : Bool) : listed.getD i b = listed.getD i c := by simp [Array.getD_eq_getD_getElem?, h]
theorem tmps_put_same {a : Act} {t : Nat} {v : Value} (h : t < a.tmps.size) : (a.put (some t) v).tmps.getD t undef = v := by simp [Act.put, Array.getD_eq_getD_getElem?, h]
theorem tmps_put_ne {a : Act} {t s : Nat} {v : Value} (h : s ≠ t) : (a.put (some t) v).tmps.getD s undef = a.tmps.getD s undef := by simp [Act.put, Array.getD_eq_getD_getElem?, Array.getElem?_setIfInBounds_ne (Ne.symm h)]

section
variable (P : Program) (ops : Array Oper) (ds : List (Nat × List Nat)) (Fs : List Fact) (a0 : Act) (W0 : World) (n : Nat) (ks late keep : List Nat) (Φ : Nat → List Value → World → Prop)
structure InvL (p : Nat) (listed : Array Bool) (a : Act) (w : World) : Prop where
  defers : a.defers = a0.defers
  size : a.tmps.size = n
  phase : ∀ q j, late[q]? = some j → (listed.getD j false = true ↔ q < p)
  top : p ≤ late.length
  closed : ∀ i o, ops[i]? = some o → listed.getD i false = true → ∀ e ∈ o.after, Region.binds .any e = true → listed.getD e.on false = true
  free : ∀ t j, seat ds t = some j → ks.getD j 2 = 0 → listed.getD j false = true → (Fs.getD j default).φ (a.tmps.getD t undef) w
  hard : p = 0 → ∀ t j, seat ds t = some j → ks.getD j 2 = 1 → listed.getD j false = true → (Fs.getD j default).φ (a.tmps.getD t undef) w
  hardAll : p ≠ 0 → ∀ i, i < ops.size → ks.getD i 2 = 1 → listed.getD i false = true
  outer : ∀ t, seat ds t = none → (∀ q j o, late[q]? = some j → ops[j]? = some o → o.dst = some t → p ≤ q) → a.tmps.getD t undef = a0.tmps.getD t undef
  below : p = 0 → Below W0.heap.size W0 w
  later : p ≠ 0 → Φ p (keep.map fun t => a.tmps.getD t undef) w
/-- what is asked of a late operation -/
def Late (Q : Exit → Act → World → Prop) : Prop := ∀ (p j : Nat) (o : Oper), late[p]? = some j → ops[j]? = some o → ∀ (a : Act) (w : World), a.tmps.size = n →
  (p = 0 → Below W0.heap.size W0 w ∧ ∀ t j, seat ds t = some j → ks.getD j 2 = 1 → (Fs.getD j default).φ (a.tmps.getD t undef) w) →
  (p ≠ 0 → Φ p (keep.map fun t => a.tmps.getD t undef) w) →
  (∀ t i, seat ds t = some i → ks.getD i 2 = 0 → hasEdge ops j i = true → (Fs.getD i default).φ (a.tmps.getD t undef) w) →
  (∀ t, seat ds t = none → (∀ q j o, late[q]? = some j → ops[j]? = some o → o.dst = some t → p ≤ q) → a.tmps.getD t undef = a0.tmps.getD t undef) →
  o.wp P a w (fun a' w' => ∃ v, a' = a.put o.dst v ∧ Φ (p + 1) (keep.map fun t => a'.tmps.getD t undef) w') Q
end

section
variable {P : Program} {ops : Array Oper} {ds : List (Nat × List Nat)} {Fs : List Fact} {a0 : Act} {W0 : World} {n : Nat} {ks late keep : List Nat} {Φ : Nat → List Value → World → Prop} {Q : Exit → Act → World → Prop}

set_option maxHeartbeats 2000000 in
theorem wpAny_late (hok : okL ops ds ks late keep n = true)
    (hst : ∀ i o d, ops[i]? = some o → ds[i]? = some d → (ks.getD i 2 = 0 → Free P ds Fs a0 o d.2 (Fs.getD i default)) ∧ (ks.getD i 2 = 1 → Step P ops ds Fs a0 W0 o d.2 (Fs.getD i default)))
    (hinj : ∀ i s t, seat ds s = some i → seat ds t = some i → s = t)
    (hL : Late P ops ds Fs a0 W0 n ks late keep Φ Q)
    (hQ : ∀ a w, InvL ops ds Fs a0 W0 n ks late keep Φ late.length (Array.replicate ops.size true) a w → Q .normal a w) :
    ∀ (fuel p : Nat) (listed : Array Bool) (a : Act) (w : World), listed.size = ops.size → left ops listed ≤ fuel → InvL ops ds Fs a0 W0 n ks late keep Φ p listed a w → wpAny P .any ops Q fuel listed a w := by
  unfold okL at hok
  simp only [Bool.and_eq_true] at hok
  obtain ⟨⟨⟨⟨⟨⟨⟨⟨⟨⟨kE, kR⟩, kH⟩, kL⟩, kA⟩, kK⟩, kS⟩, kD⟩, kP⟩, kN⟩, kT⟩ := hok
  have kE' : ∀ (i : Nat) o, ops[i]? = some o → ∀ e ∈ o.after, Region.binds .any e = true → e.on < i ∧ (ks.getD i 2 ≠ 2 → ks.getD e.on 2 ≠ 2) := by
    intro i o ho e he hb
    have hi : i < ops.size := (Array.getElem?_eq_some_iff.1 ho).1
    have h1 := List.all_eq_true.1 kE i (List.mem_range.2 hi)
    rw [ho] at h1
    simp only [Option.map_some, Option.getD_some] at h1
    have h2 := Array.all_eq_true_iff_forall_mem.1 h1 e he
    simp only [hb, Bool.not_true, Bool.false_or, Bool.and_eq_true, decide_eq_true_eq, Bool.or_eq_true, beq_iff_eq, Bool.not_eq_true', beq_eq_false_iff_ne] at h2
    exact ⟨h2.1, fun h => h2.2.resolve_left h⟩
  have klate : ∀ i : Nat, i < ops.size → ks.getD i 2 = 2 → ∃ q : Nat, late[q]? = some i := by
    intro i hi hk
    have h1 := List.all_eq_true.1 kA i (List.mem_range.2 hi)
    simp only [hk, beq_self_eq_true, Bool.not_true, Bool.false_or] at h1
    obtain ⟨q, hq, e⟩ := List.getElem_of_mem (List.contains_iff_mem.1 h1)
    exact ⟨q, by rw [List.getElem?_eq_getElem hq, e]⟩
  have kl2 : ∀ q j : Nat, late[q]? = some j → ks.getD j 2 = 2 ∧ j < ops.size ∧ (∃ o, ops[j]? = some o ∧ o.guard = none ∧ ∀ t, o.dst = some t → t < n ∧ seat ds t = none ∧ ∀ (q' j' : Nat) o', late[q']? = some j' → ops[j']? = some o' → o'.dst = some t → q' = q) ∧ (q ≠ 0 → hasEdge ops j (late.getD (q - 1) 0) = true) := by
    intro q j hj
    have hq : q < late.length := by
      rcases Nat.lt_or_ge q late.length with h | h
      · exact h
      · rw [List.getElem?_eq_none h] at hj; cases hj
    have h1 := List.all_eq_true.1 kL q (List.mem_range.2 hq)
    rw [hj] at h1
    simp only [Option.map_some, Option.getD_some, Bool.and_eq_true, beq_iff_eq, decide_eq_true_eq, Bool.or_eq_true] at h1
    obtain ⟨⟨⟨h2, h3⟩, h4⟩, h5⟩ := h1
    refine ⟨h2, h3, ?_, fun h => h5.resolve_left h⟩
    cases ho : ops[j]? with
    | none => rw [ho] at h4; simp at h4
    | some o =>
      rw [ho] at h4
      simp only [Option.map_some, Option.getD_some, Bool.and_eq_true] at h4
      refine ⟨o, rfl, by simpa using h4.1, fun t ht => ?_⟩
      have h6 := h4.2
      rw [ht] at h6
      simp only [Option.map_some, Option.getD_some, Bool.and_eq_true, decide_eq_true_eq, beq_iff_eq] at h6
      refine ⟨h6.1.1, h6.1.2, fun q' j' o' hj' ho' ht' => ?_⟩
      have hq' : q' < late.length := by
        rcases Nat.lt_or_ge q' late.length with h | h
        · exact h
        · rw [List.getElem?_eq_none h] at hj'; cases hj'
      have h7 := List.all_eq_true.1 h6.2 q' (List.mem_range.2 hq')
      rw [hj'] at h7
      simp only [Option.bind_some, ho', ht', beq_self_eq_true, Bool.not_true, Bool.or_false, beq_iff_eq] at h7
      exact h7
  have kuniq : ∀ q q' j : Nat, late[q]? = some j → late[q']? = some j → q = q' := by
    intro q q' j h1 h2
    have hnd : late.Nodup := by simpa using kN
    obtain ⟨hq, e1⟩ := List.getElem?_eq_some_iff.1 h1
    obtain ⟨hq', e2⟩ := List.getElem?_eq_some_iff.1 h2
    unfold List.Nodup at hnd
    rw [List.pairwise_iff_getElem] at hnd
    rcases Nat.lt_trichotomy q q' with h | h | h
    · exact absurd (e1.trans e2.symm) (hnd q q' hq hq' h)
    · exact h
    · exact absurd (e2.trans e1.symm) (hnd q' q hq' hq h)
  have hall : ∀ (listed : Array Bool), listed.size = ops.size → Region.ready .any ops listed = [] → ∀ i, i < ops.size → listed.getD i true = true := by
    intro listed hs hr i
    induction i using Nat.strongRecOn with
    | ind i ih =>
      intro hi
      cases hl : listed.getD i true with
      | true => rfl
      | false =>
        exfalso
        have hm : i ∈ Region.ready .any ops listed := by
          refine mem_ready.2 ⟨hl, ops[i], by simp [hi], fun e he hb => ?_⟩
          have h1 := (kE' i ops[i] (by simp [hi]) e he hb).1
          rw [getD_flip (by omega) false true]
          exact ih e.on h1 (by omega)
        rw [hr] at hm
        cases hm
  have fin : ∀ p (listed : Array Bool) a w, listed.size = ops.size → (∀ i, i < ops.size → listed.getD i true = true) → InvL ops ds Fs a0 W0 n ks late keep Φ p listed a w → Q .normal a w := by
    intro p listed a w hs hal hI
    have el : listed = Array.replicate ops.size true := Array.ext (by simp [hs]) fun i h1 h2 => by
      have := hal i (by omega)
      simpa [Array.getD_eq_getD_getElem?, h1] using this
    have hp : p = late.length := by
      rcases Nat.lt_or_ge p late.length with h | h
      · have hj : late[p]? = some late[p] := List.getElem?_eq_getElem h
        have h2 := (kl2 p _ hj).2.1
        have h1 := (hI.phase p _ hj).1 (by rw [getD_flip (by omega) false true]; exact hal _ h2)
        omega
      · have := hI.top; omega
    subst el hp
    exact hQ a w hI
  intro fuel
  induction fuel with
  | zero =>
    intro p listed a w hs hl hI
    have hr : Region.ready .any ops listed = [] := by
      cases hq : Region.ready .any ops listed with
      | nil => rfl
      | cons i r =>
        exfalso
        have hm : i ∈ Region.ready .any ops listed := by rw [hq]; exact List.mem_cons_self ..
        obtain ⟨h0, o, ho, _⟩ := mem_ready.1 hm
        have hi : i < ops.size := (Array.getElem?_eq_some_iff.1 ho).1
        have : i ∈ (List.range ops.size).filter fun i => !listed.getD i true := List.mem_filter.2 ⟨List.mem_range.2 hi, by rw [h0]; rfl⟩
        have hz : left ops listed = 0 := by omega
        unfold left at hz
        rw [List.eq_nil_of_length_eq_zero hz] at this
        cases this
    exact ⟨hr, fin p listed a w hs (hall listed hs hr) hI⟩
  | succ fuel ih =>
    intro p listed a w hs hl hI
    refine ⟨fun hr => fin p listed a w hs (hall listed hs hr) hI, fun i hi => ?_⟩
    obtain ⟨h0, o, ho, hdeps⟩ := mem_ready.1 hi
    have hisz : i < ops.size := (Array.getElem?_eq_some_iff.1 ho).1
    have hil : i < listed.size := by omega
    have h0f : listed.getD i false = false := by rw [getD_flip hil false true]; exact h0
    have hless : left ops (listed.setIfInBounds i true) ≤ fuel := by
      have := filter_lt (p := fun i => !listed.getD i true) (q := fun j => !(listed.setIfInBounds i true).getD j true) (l := List.range ops.size) (x := i)
        (fun y hy => by
          by_cases hiy : i = y
          · subst hiy; rw [h0]; rfl
          · rw [getD_set_ne true hiy] at hy; exact hy)
        (List.mem_range.2 hisz) (by rw [h0]; rfl) (by simp [Array.getD_eq_getD_getElem?, hil])
      unfold left at hl ⊢
      omega
    have hset : ∀ j, (listed.setIfInBounds i true).getD j false = true ↔ (j = i ∨ listed.getD j false = true) := by
      intro j
      by_cases hji : i = j
      · subst hji
        simp [Array.getD_eq_getD_getElem?, hil]
      · rw [getD_set_ne false hji]
        constructor
        · exact .inr
        · rintro (h | h)
          · exact absurd h.symm hji
          · exact h
    have hclosed : ∀ k o', ops[k]? = some o' → (listed.setIfInBounds i true).getD k false = true → ∀ e ∈ o'.after, Region.binds .any e = true → (listed.setIfInBounds i true).getD e.on false = true := by
      intro k o' ho' hk e he hb
      refine (hset _).2 (.inr ?_)
      rcases (hset k).1 hk with rfl | hk
      · rw [ho] at ho'; cases ho'
        exact hdeps e he hb
      · exact hI.closed k o' ho' hk e he hb
    by_cases hk2 : ks.getD i 2 = 2
    · -- a late one
      obtain ⟨q, hq⟩ := klate i hisz hk2
      obtain ⟨_, _, ⟨o', ho', hgd, hdst⟩, hprev⟩ := kl2 q i hq
      rw [ho] at ho'; cases ho'
      have hqp : q = p := by
        have h1 : ¬ q < p := fun h => by rw [(hI.phase q i hq).2 h] at h0f; cases h0f
        rcases Nat.lt_or_ge p q with h | h
        · exfalso
          have h2 := hprev (by omega)
          obtain ⟨o', ho', e, he, hb, hon⟩ := hasEdge_iff h2
          rw [ho] at ho'; cases ho'
          have h3 := hdeps e he hb
          have hq1 : q - 1 < late.length := by
            have : q < late.length := by
              rcases Nat.lt_or_ge q late.length with h | h
              · exact h
              · rw [List.getElem?_eq_none h] at hq; cases hq
            omega
          have hj1 : late[q - 1]? = some (late.getD (q - 1) 0) := by simp [List.getD, List.getElem?_eq_getElem hq1]
          rw [hon] at h3
          have := (hI.phase (q - 1) _ hj1).1 h3
          omega
        · omega
      subst hqp
      have hhard : ∀ k, k < ops.size → ks.getD k 2 = 1 → listed.getD k false = true := by
        by_cases hq0 : q = 0
        · subst hq0
          have key : ∀ m k, ops.size - k ≤ m → k < ops.size → ks.getD k 2 = 1 → listed.getD k false = true := by
            intro m
            induction m with
            | zero => intro k h1 h2; omega
            | succ m ihm =>
              intro k h1 h2 h3
              have h4 := List.all_eq_true.1 kH k (List.mem_range.2 h2)
              simp only [h3, beq_self_eq_true, Bool.not_true, Bool.false_or] at h4
              obtain ⟨k', hk', h5⟩ := List.any_eq_true.1 h4
              simp only [Bool.and_eq_true, decide_eq_true_eq, Bool.or_eq_true, beq_iff_eq] at h5
              obtain ⟨⟨h6, h7⟩, h8⟩ := h5
              obtain ⟨o', ho', e, he, hb, hon⟩ := hasEdge_iff h8
              rw [← hon]
              rcases h7 with h7 | h7
              · exact hI.closed k' o' ho' (ihm k' (by omega) (List.mem_range.1 hk') h7) e he hb
              · rw [hq] at h7
                injection h7 with h7
                subst h7
                rw [ho] at ho'; cases ho'
                exact hdeps e he hb
          exact fun k => key ops.size k (by omega)
        · exact hI.hardAll hq0
      have hgo := hL q i o hq ho a w hI.size (fun h => ⟨hI.below h, fun t j hs' hk' => hI.hard h t j hs' hk' (by
          have hj : j < ops.size := by
            unfold seat at hs'
            obtain ⟨hj, _⟩ := List.findIdx?_eq_some_iff_getElem.1 hs'
            have : ds.length = ops.size := by simpa using kD
            omega
          exact hhard j hj hk')⟩) hI.later (fun t j hs' hk' he' => by
          obtain ⟨o', ho', e, he, hb, hon⟩ := hasEdge_iff he'
          rw [ho] at ho'; cases ho'
          exact hI.free t j hs' hk' (by rw [← hon]; exact hdeps e he hb)) hI.outer
      unfold wpOp
      simp only [ho]
      have hw : Region.wanted o (yielded ops a.tmps) = true := by simp [Region.wanted, hgd]
      simp only [hw, if_true]
      refine .inl (Oper.wp_mono ?_ hgo)
      rintro a' w' ⟨v, rfl, hΦ⟩
      have hnot : ∀ t, seat ds t ≠ none → o.dst ≠ some t := fun t h1 h2 => h1 (hdst t h2).2.1
      have hsame : ∀ t, o.dst ≠ some t → (a.put o.dst v).tmps.getD t undef = a.tmps.getD t undef := by
        intro t h1
        cases hd : o.dst with
        | none => rfl
        | some s => exact tmps_put_ne (fun e => h1 (by rw [hd, e]))
      refine ih (q + 1) _ _ _ (by simpa using hs) hless ⟨?_, ?_, ?_, ?_, hclosed, ?_, (fun h => by omega), ?_, ?_, (fun h => by omega), fun _ => hΦ⟩
      · cases hd : o.dst <;> simpa [Act.put] using hI.defers
      · cases hd : o.dst <;> simpa [Act.put] using hI.size
      · intro q' j' hj'
        rw [hset]
        constructor
        · rintro (h | h)
          · subst h; have := kuniq q' q j' hj' hq; omega
          · have := (hI.phase q' j' hj').1 h; omega
        · intro h
          rcases Nat.lt_or_ge q' q with h1 | h1
          · exact .inr ((hI.phase q' j' hj').2 h1)
          · obtain rfl : q' = q := by omega
            rw [hq] at hj'; cases hj'; exact .inl rfl
      · have : q < late.length := by
          rcases Nat.lt_or_ge q late.length with h | h
          · exact h
          · rw [List.getElem?_eq_none h] at hq; cases hq
        omega
      · intro t j hs' hk' hl'
        rw [hsame t (hnot t (by rw [hs']; simp))]
        rcases (hset j).1 hl' with rfl | h
        · rw [hk2] at hk'; cases hk'
        · have := hI.free t j hs' hk' h
          obtain ⟨d, hd⟩ : ∃ d, ds[j]? = some d := by
            unfold seat at hs'
            obtain ⟨hj, _⟩ := List.findIdx?_eq_some_iff_getElem.1 hs'
            exact ⟨_, List.getElem?_eq_getElem hj⟩
          obtain ⟨oj, hoj⟩ : ∃ oj, ops[j]? = some oj := by
            have hj := (List.getElem?_eq_some_iff.1 hd).1
            have : ds.length = ops.size := by simpa using kD
            exact ⟨ops[j], by simp [show j < ops.size by omega]⟩
          obtain ⟨_, c, hc, _⟩ := (hst j oj d hoj hd).1 hk'
          rw [hc] at this ⊢
          exact this
      · intro _ k hk hk1
        exact (hset k).2 (.inr (hhard k hk hk1))
      · intro t hs' ht
        have h1 : o.dst ≠ some t := fun h => by have := ht q i o hq ho h; omega
        rw [hsame t h1]
        exact hI.outer t hs' fun q' j' o' h2 h3 h4 => by have := ht q' j' o' h2 h3 h4; omega
    · -- one that is not late
      have hR := List.all_eq_true.1 kR i (List.mem_range.2 hisz)
      simp only [Bool.or_eq_true, beq_iff_eq] at hR
      have hR := hR.resolve_left hk2
      rw [ho] at hR
      simp only [Option.bind_some] at hR
      cases hd : ds[i]? with
      | none => rw [hd] at hR; simp at hR
      | some d =>
      rw [hd] at hR
      simp only [Option.map_some, Option.getD_some, Bool.and_eq_true, beq_iff_eq, decide_eq_true_eq] at hR
      obtain ⟨⟨⟨⟨hdst, hlt⟩, hseat⟩, hlooks⟩, hrds⟩ := hR
      have hk01 : ks.getD i 2 = 0 ∨ ks.getD i 2 = 1 := by
        have hsz : i < ks.length := by
          have : ks.length = ops.size := by simpa using kS
          omega
        have h1 : ks.getD i 2 = ks[i] := by simp [List.getD, List.getElem?_eq_getElem hsz]
        have h2 := List.all_eq_true.1 kT ks[i] (List.getElem_mem hsz)
        simp only [decide_eq_true_eq] at h2
        omega
      have hp1 : ks.getD i 2 = 1 → p = 0 := fun h1 => by
        by_cases hp0 : p = 0
        · exact hp0
        · rw [hI.hardAll hp0 i hisz h1] at h0f; cases h0f
      have hrd : Reads ds Fs a0 a.eval w d.2 := by
        have one : ∀ t ∈ d.2, Knows ds Fs a0 t (a.eval (.tmp t)) w := by
          intro t ht
          have h1 := List.all_eq_true.1 hrds t ht
          unfold Knows
          cases hq : seat ds t with
          | none =>
            simp only [hq] at h1 ⊢
            refine hI.outer t hq fun q j oj hj hoj hdj => ?_
            have h2 := List.all_eq_true.1 h1 j (List.mem_of_getElem? hj)
            rw [hoj] at h2
            simp only [Option.bind_some, hdj, beq_self_eq_true, Bool.not_true, Bool.false_or] at h2
            rcases Nat.lt_or_ge q p with h3 | h3
            · exfalso
              obtain ⟨o', ho', e, he, hb, hon⟩ := hasEdge_iff h2
              have := hI.closed j o' ho' ((hI.phase q j hj).2 h3) e he hb
              rw [hon, h0f] at this; cases this
            · exact h3
          | some j =>
            simp only [hq] at h1 ⊢
            simp only [Bool.and_eq_true, Bool.not_eq_true', Bool.or_eq_true, beq_eq_false_iff_ne, beq_iff_eq] at h1
            obtain ⟨⟨h2, h3⟩, h4⟩ := h1
            obtain ⟨o', ho', e, he, hb, hon⟩ := hasEdge_iff h2
            rw [ho] at ho'; cases ho'
            have hl2 : listed.getD j false = true := by rw [← hon]; exact hdeps e he hb
            by_cases hj0 : ks.getD j 2 = 0
            · exact hI.free t j hq hj0 hl2
            · have hi1 : ks.getD i 2 = 1 := by
                rcases hk01 with h | h
                · exact absurd (h4.resolve_left (fun h' => h' h)) hj0
                · exact h
              have hj1 : ks.getD j 2 = 1 := by
                have hjs : j < ks.length := by
                  have h5 : ks.length = ops.size := by simpa using kS
                  have h6 : ds.length = ops.size := by simpa using kD
                  unfold seat at hq
                  obtain ⟨hj, _⟩ := List.findIdx?_eq_some_iff_getElem.1 hq
                  omega
                have e1 : ks.getD j 2 = ks[j] := by simp [List.getD, List.getElem?_eq_getElem hjs]
                have e2 := List.all_eq_true.1 kT ks[j] (List.getElem_mem hjs)
                simp only [decide_eq_true_eq] at e2
                omega
              exact hI.hard (hp1 hi1) t j hq hj1 hl2
        have build : ∀ l : List Nat, (∀ t ∈ l, Knows ds Fs a0 t (a.eval (.tmp t)) w) → Reads ds Fs a0 a.eval w l := by
          intro l
          induction l with
          | nil => intro _; trivial
          | cons t r ihr => intro h; exact ⟨h t (by simp), ihr fun s hs' => h s (by simp [hs'])⟩
        exact build d.2 one
      have next : ∀ v w', (p = 0 → Below w.heap.size w w') → (p ≠ 0 → w' = w ∧ ks.getD i 2 = 0) → (Fs.getD i default).φ v w' → wpAny P .any ops Q fuel (listed.setIfInBounds i true) (a.put o.dst v) w' := by
        intro v w' hb0 hb1 hv
        rw [hdst]
        have kept : ∀ t j, seat ds t = some j → (Fs.getD j default).φ (a.tmps.getD t undef) w → (Fs.getD j default).φ (a.tmps.getD t undef) w' := by
          intro t j _ h
          by_cases hp0 : p = 0
          · exact (Fs.getD j default).keep _ _ _ h (hb0 hp0)
          · rw [(hb1 hp0).1]; exact h
        refine ih p _ _ _ (by simpa using hs) hless ⟨?_, ?_, ?_, hI.top, hclosed, ?_, ?_, ?_, ?_, ?_, ?_⟩
        · simpa [Act.put] using hI.defers
        · simpa [Act.put] using hI.size
        · intro q' j' hj'
          rw [hset, ← hI.phase q' j' hj']
          constructor
          · rintro (h | h)
            · subst h; exact absurd (kl2 q' j' hj').1 hk2
            · exact h
          · exact .inr
        · intro t j hs' hk' hl'
          by_cases ht : t = d.1
          · subst ht
            rw [hseat] at hs'; cases hs'
            rw [tmps_put_same (by rw [hI.size]; exact hlt)]
            exact hv
          · rw [tmps_put_ne ht]
            rcases (hset j).1 hl' with rfl | h
            · exact absurd (hinj j t d.1 hs' hseat) ht
            · exact kept t j hs' (hI.free t j hs' hk' h)
        · intro hp0 t j hs' hk' hl'
          by_cases ht : t = d.1
          · subst ht
            rw [hseat] at hs'; cases hs'
            rw [tmps_put_same (by rw [hI.size]; exact hlt)]
            exact hv
          · rw [tmps_put_ne ht]
            rcases (hset j).1 hl' with rfl | h
            · exact absurd (hinj j t d.1 hs' hseat) ht
            · exact kept t j hs' (hI.hard hp0 t j hs' hk' h)
        · intro hp0 k hk hk1
          exact (hset k).2 (.inr (hI.hardAll hp0 k hk hk1))
        · intro t hs' ht
          have : t ≠ d.1 := fun e => by rw [e, hseat] at hs'; cases hs'
          rw [tmps_put_ne this]
          exact hI.outer t hs' ht
        · intro hp0
          exact (hI.below hp0).trans ((hb0 hp0).mono (hI.below hp0).size)
        · intro hp0
          obtain ⟨rfl, hk0⟩ := hb1 hp0
          have hm : (keep.map fun t => (a.put (some d.1) v).tmps.getD t undef) = keep.map fun t => a.tmps.getD t undef := by
            refine List.map_congr_left fun t ht => tmps_put_ne fun e => ?_
            have := List.all_eq_true.1 kK t ht
            rw [e, hseat] at this
            simp only [hk0] at this
            cases this
          rw [hm]
          exact hI.later hp0
      unfold wpOp
      simp only [ho]
      rcases hk01 with hk0 | hk1
      · obtain ⟨hgd, c, hc, hrun⟩ := (hst i o d ho hd).1 hk0
        have hw : Region.wanted o (yielded ops a.tmps) = true := by simp [Region.wanted, hgd]
        simp only [hw, if_true]
        refine .inl ?_
        unfold Oper.wp
        rw [hrun a.eval w (fun _ => rfl) (fun _ => rfl) hrd]
        simp only [Oper.upon]
        exact next c w (fun _ => Below.refl _ _) (fun _ => ⟨rfl, hk0⟩) (by rw [hc]; rfl)
      · have hp0 := hp1 hk1
        have hgo := (hst i o d ho hd).2 hk1 a.eval w (hI.below hp0) (fun _ => rfl) (fun _ => rfl) hrd
        have nx : ∀ v w', Below w.heap.size w w' → (Fs.getD i default).φ v w' → wpAny P .any ops Q fuel (listed.setIfInBounds i true) (a.put o.dst v) w' := fun v w' hb hv => next v w' (fun _ => hb) (fun h => absurd hp0 h) hv
        have run : softUpon P w (Fs.getD i default) ((execOp a.eval o).run P w) → o.wp P a w (wpAny P .any ops Q fuel (listed.setIfInBounds i true)) Q := fun h => by
          unfold Oper.wp
          generalize (execOp a.eval o).run P w = r at h
          cases r with
          | ok nxt w' =>
            cases nxt <;> simp only [softUpon] at h <;> simp only [Oper.upon]
            case value u => exact nx u w' h.2 h.1
            case enter f args =>
              obtain ⟨rfl, hc⟩ := h
              exact hc.mono fun e w'' ⟨v, he, hv, hb⟩ => by subst he; exact nx v w'' hb hv
          | halt x w' => simp only [softUpon] at h
        unfold Under at hgo
        cases hg : o.guard with
        | none =>
          simp only [hg] at hgo
          have hw : Region.wanted o (yielded ops a.tmps) = true := by simp [Region.wanted, hg]
          simp only [hw, if_true]
          exact .inl (run hgo)
        | some gb =>
          obtain ⟨g, b⟩ := gb
          simp only [hg] at hgo
          obtain ⟨t, ht, hcase⟩ := hgo
          have htn : ∀ c, a.eval (.tmp t) = .bool c → yielded ops a.tmps g = some c := fun c hc => by
            have hc' : a.tmps.getD t undef = .bool c := hc
            rw [Array.getD_eq_getD_getElem?] at hc'
            unfold yielded
            rw [ht]
            simp only [Option.bind_some]
            cases hq : a.tmps[t]? with
            | none => rw [hq] at hc'; simp [undef] at hc'
            | some x => rw [hq] at hc'; simp at hc'; subst hc'; rfl
          rcases hcase with ⟨hc, hy⟩ | ⟨hc, hno⟩ | ⟨hc, hno⟩
          · have hw : Region.wanted o (yielded ops a.tmps) = true := by simp [Region.wanted, hg, htn _ hc]
            simp only [hw, if_true]
            exact .inl (run hy)
          · have hw : Region.wanted o (yielded ops a.tmps) = false := by simp [Region.wanted, hg, htn _ hc]
            simp only [hw]
            exact nx undef w (Below.refl _ _) hno
          · have hy0 : yielded ops a.tmps g = none := by
              have hc' : a.tmps.getD t undef = undef := hc
              rw [Array.getD_eq_getD_getElem?] at hc'
              unfold yielded
              rw [ht]
              simp only [Option.bind_some]
              cases hq : a.tmps[t]? with
              | none => rfl
              | some x => rw [hq] at hc'; simp at hc'; subst hc'; rfl
            have hw : Region.wanted o (yielded ops a.tmps) = false := by simp [Region.wanted, hg, hy0]
            simp only [hw]
            exact nx undef w (Below.refl _ _) hno

/-- a frame whose slots are known but for a list of them -/
theorem act_slots {a : Act} (hd : a.defers = a0.defers) (hs : a.tmps.size = n) (hn : a0.tmps.size = n) (ts : List Nat) (hk : ∀ t, t ∉ ts → a.tmps.getD t undef = a0.tmps.getD t undef) :
    a = ts.foldl (fun b t => b.put (some t) (a.tmps.getD t undef)) a0 := by
  have key : ∀ (ts : List Nat) (b : Act), b.tmps.size = n → b.defers = a.defers → (∀ t, t < n → t ∉ ts → b.tmps.getD t undef = a.tmps.getD t undef) → ts.foldl (fun b t => b.put (some t) (a.tmps.getD t undef)) b = a := by
    intro ts
    induction ts with
    | nil =>
      intro b hb hbd h
      obtain ⟨bt, bd⟩ := b
      obtain ⟨at_, ad⟩ := a
      simp only at hb hbd hs h
      subst hbd
      have e : bt = at_ := Array.ext (by omega) fun i h1 h2 => by
        have := h i (by omega) (by simp)
        simpa [Array.getD_eq_getD_getElem?, h1, h2] using this
      subst e
      rfl
    | cons t ts ih =>
      intro b hb hbd h
      refine ih _ (by simpa [Act.put] using hb) (by simpa [Act.put] using hbd) fun s hsn hs' => ?_
      by_cases e : s = t
      · subst e
        exact tmps_put_same (by omega)
      · rw [tmps_put_ne e]
        exact h s hsn (by simp [e, hs'])
  exact (key ts a0 hn hd.symm fun t _ ht => (hk t ht).symm).symm

/-- THE RULE. 'slots': all that the region writes. -/
theorem wp_late {id : Nat} {l : List Oper} {w : World} (hm : P.follows .mixedOrders = true) (n : Nat) (ds : List (Nat × List Nat)) (Fs : List Fact) (ks late keep slots : List Nat) (Φ : Nat → List Value → World → Prop)
    (hB : okL l.toArray ds ks late keep n = true) (hslots : ((ds.all fun d => slots.contains d.1 || !(decide (d.1 < n))) && (late.all fun j => ((l.toArray[j]?).bind (·.dst)).all fun t => slots.contains t)) = true) (hn : a0.tmps.size = n) (hlen : l.length = Fs.length)
    (hS : LSteps P l.toArray ds Fs a0 w.drew l ds Fs ks)
    (hL : Late P l.toArray ds Fs a0 w.drew n ks late keep Φ Q)
    (hQ : ∀ a w', a = slots.foldl (fun b t => b.put (some t) (a.tmps.getD t undef)) a0 → Φ late.length (keep.map fun t => a.tmps.getD t undef) w' → Q .normal a w') :
    (Code.region id l.toArray true).wp P Q a0 w := by
  have hinj' : ∀ i s t, seat ds s = some i → seat ds t = some i → s = t := fun i s t hs ht => by
    unfold seat at hs ht
    obtain ⟨h1, h2, _⟩ := List.findIdx?_eq_some_iff_getElem.1 hs
    obtain ⟨_, h3, _⟩ := List.findIdx?_eq_some_iff_getElem.1 ht
    simp only [beq_iff_eq] at h2 h3
    rw [← h2, ← h3]
  have hlens : ks.length = l.length ∧ ds.length = l.length ∧ 0 < late.length := by
    have h := hB
    unfold okL at h
    simp only [Bool.and_eq_true, beq_iff_eq, decide_eq_true_eq, List.size_toArray] at h
    exact ⟨h.1.1.1.1.2, h.1.1.1.2, h.1.1.2⟩
  simp only [Bool.and_eq_true] at hslots
  refine wp_region_any hm (wpAny_late (W0 := w.drew) (n := n) (Φ := Φ) hB (fun i o d ho hd => ?_) hinj' hL (fun a w' hI => ?_) _ 0 _ _ _ (by simp) ?_ ?_)
  · exact LSteps_spec hS hlens.2.1.symm hlen hlens.1.symm i o d (by simpa using ho) hd
  · refine hQ a w' (act_slots hI.defers hI.size hn slots fun t ht => ?_) (hI.later (by omega))
    by_cases htn : t < n
    · refine hI.outer t ?_ fun q j o hj ho hd => ?_
      · unfold seat
        rw [List.findIdx?_eq_none_iff]
        intro p hp
        simp only [beq_eq_false_iff_ne]
        intro e
        have := List.all_eq_true.1 hslots.1 p hp
        simp only [Bool.or_eq_true, Bool.not_eq_true', decide_eq_false_iff_not, List.contains_iff_mem] at this
        rcases this with h | h
        · exact ht (e ▸ h)
        · exact h (by omega)
      · exfalso
        have := List.all_eq_true.1 hslots.2 j (List.mem_of_getElem? hj)
        rw [ho] at this
        simp only [Option.bind_some, hd, Option.all_some, List.contains_iff_mem] at this
        exact ht this
    · simp [Array.getD_eq_getD_getElem?, Array.getElem?_eq_none (show a.tmps.size ≤ t by rw [hI.size]; omega), Array.getElem?_eq_none (show a0.tmps.size ≤ t by rw [hn]; omega)]
  · unfold left
    have := List.length_filter_le (fun i => !(Array.replicate l.toArray.size false).getD i true) (List.range l.toArray.size)
    simpa using this
  · have hf : ∀ j, (Array.replicate l.toArray.size false).getD j false = false := by
      intro j
      rw [Array.getD_eq_getD_getElem?, Array.getElem?_replicate]
      split <;> rfl
    refine ⟨rfl, hn, fun q j _ => by rw [hf]; simp, Nat.zero_le _, fun i o _ h => (by rw [hf] at h; cases h), fun t j _ _ h => (by rw [hf] at h; cases h), fun _ t j _ _ h => (by rw [hf] at h; cases h), fun h => absurd rfl h, fun t _ _ => rfl, fun _ => Below.refl _ _, fun h => absurd rfl h⟩
end
end Go.Proofs.Ytgicjdlpkphfnaa
