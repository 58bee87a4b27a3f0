/-
  Plain mathematics of layer 15, with no program in it: which entries fit an Ask, those that are told, what is asked for then; page by page. Nothing is assumed.
-/
import Derived.Test.YtcoedohfggeaiaaMath14

namespace Go.Proofs.Ytcoedohfggeaiaa.Qy
open En
set_option maxRecDepth 100000

/-- an Ask -/
structure A where
  sv : List UInt8
  lo : Int
  hi : Int
  cl : Int
  tk : Int
  id : Int
  lim : Int
deriving DecidableEq
def A.zero : A := ⟨[], 0, 0, 0, 0, 0, 0⟩
/-- behind an entry -/
def A.behind (a : A) (e : E) : A := { a with tk := e.tick, id := e.id }
/-- all but the place, and the Limit -/
def fits0 (e : E) (a : A) : Bool := decide ((a.sv = [] ∨ a.sv ∈ e.sv) ∧ e.lo ≤ a.hi ∧ a.lo ≤ e.hi ∧ (a.cl < 0 ∨ e.cl = a.cl))
def past (e : E) (a : A) : Bool := decide (a.tk < e.tick ∨ e.tick = a.tk ∧ a.id < e.id)
def fits (e : E) (a : A) : Bool := fits0 e a && past e a
def those (l : List E) (a : A) : List E := l.filter (fun e => fits e a)
def told (l : List E) (a : A) : List E := (those l a).take a.lim.toNat
def run (l : List E) (a : A) : List Int := (told l a).map E.id
def more (l : List E) (a : A) : Bool := decide (0 < a.lim ∧ a.lim < (those l a).length)
def next (l : List E) (a : A) : A := if more l a then ((told l a).getLast?.elim a a.behind) else .zero

theorem those_le (l : List E) (a : A) : (those l a).length ≤ l.length := List.length_filter_le ..
theorem told_le (l : List E) (a : A) : (told l a).length ≤ l.length := by
  unfold told; rw [List.length_take]; exact Nat.le_trans (Nat.min_le_right ..) (those_le l a)
theorem run_len (l : List E) (a : A) : (run l a).length = min a.lim.toNat (those l a).length := by
  unfold run told; rw [List.length_map, List.length_take]
theorem run_le (l : List E) (a : A) : (run l a).length ≤ l.length := by
  rw [run_len]; exact Nat.le_trans (Nat.min_le_right ..) (those_le l a)
theorem those_nil (a : A) : those [] a = [] := rfl
theorem those_snoc (l : List E) (e : E) (a : A) : those (l ++ [e]) a = those l a ++ (if fits e a then [e] else []) := by
  unfold those; rw [List.filter_append]; congr 1; by_cases h : fits e a <;> simp [h]
theorem those_take (l : List E) (a : A) (k : Nat) (h : k < l.length) : those (l.take (k + 1)) a = those (l.take k) a ++ (if fits l[k] a then [l[k]] else []) := by
  rw [List.take_succ_eq_append_getElem h, those_snoc]
/-- a row that grows by the next one, until it is full -/
theorem run_take (l : List E) (a : A) (k : Nat) (h : k < l.length) : run (l.take (k + 1)) a = if fits l[k] a = true ∧ ((run (l.take k) a).length : Int) < a.lim then run (l.take k) a ++ [l[k].id] else run (l.take k) a := by
  unfold run told
  rw [those_take l a k h]
  generalize those (l.take k) a = f
  by_cases hf : fits l[k] a = true
  · rw [if_pos hf]
    by_cases hl : f.length < a.lim.toNat
    · rw [if_pos ⟨hf, by rw [List.length_map, List.length_take]; omega⟩, List.take_of_length_le (by simp; omega), List.take_of_length_le (by omega), List.map_append]; rfl
    · rw [if_neg (by rw [List.length_map, List.length_take]; omega), List.take_append_of_le_length (by omega)]
  · rw [if_neg hf, List.append_nil, if_neg (fun h => hf h.1)]
/-- the same, of entries -/
theorem told_take (l : List E) (a : A) (k : Nat) (h : k < l.length) : told (l.take (k + 1)) a = if fits l[k] a = true ∧ ((those (l.take k) a).length : Int) < a.lim then told (l.take k) a ++ [l[k]] else told (l.take k) a := by
  unfold told
  rw [those_take l a k h]
  generalize those (l.take k) a = f
  by_cases hf : fits l[k] a = true
  · rw [if_pos hf]
    by_cases hl : f.length < a.lim.toNat
    · rw [if_pos ⟨hf, by omega⟩, List.take_of_length_le (by simp; omega), List.take_of_length_le (by omega)]
    · rw [if_neg (by omega), List.take_append_of_le_length (by omega)]
  · rw [if_neg hf, List.append_nil, if_neg (fun h => hf h.1)]
theorem many_take (l : List E) (a : A) (k : Nat) (h : k < l.length) : (those (l.take (k + 1)) a).length = (those (l.take k) a).length + if fits l[k] a = true then 1 else 0 := by
  rw [those_take l a k h, List.length_append]; split <;> rfl
/-- the place of the last one that is told -/
def place (l : List E) (a : A) : Int × Int := (told l a).getLast?.elim (a.tk, a.id) (fun e => (e.tick, e.id))
theorem place_take (l : List E) (a : A) (k : Nat) (h : k < l.length) : place (l.take (k + 1)) a = if fits l[k] a = true ∧ ((those (l.take k) a).length : Int) < a.lim then (l[k].tick, l[k].id) else place (l.take k) a := by
  unfold place
  rw [told_take l a k h]
  split
  · simp
  · rfl
theorem next_place (l : List E) (a : A) (h : more l a = true) : next l a = { a with tk := (place l a).1, id := (place l a).2 } := by
  unfold next place
  rw [if_pos h]
  cases (told l a).getLast? <;> rfl
theorem next_zero (l : List E) (a : A) (h : more l a = false) : next l a = .zero := by
  unfold next; rw [if_neg (by rw [h]; simp)]
theorem run_all (l : List E) (a : A) (h : (l.length : Int) ≤ a.lim) : run l a = (those l a).map E.id := by
  unfold run told
  rw [List.take_of_length_le]
  have := those_le l a; omega

theorem those_prefix (l : List E) (a : A) (k : Nat) : those (l.take k) a <+: those l a := (List.take_prefix k l).filter _
theorem told_prefix (l : List E) (a : A) (k : Nat) : told (l.take k) a <+: told l a := by
  obtain ⟨t, ht⟩ := those_prefix l a k
  unfold told
  rw [← ht, List.take_append]
  exact List.prefix_append _ _
theorem run_prefix (l : List E) (a : A) (k : Nat) : run (l.take k) a <+: run l a := (told_prefix l a k).map _
theorem many_le (l : List E) (a : A) (k : Nat) : (those (l.take k) a).length ≤ (those l a).length := (those_prefix l a k).length_le
/-- the one that is told next -/
theorem run_here (l : List E) (a : A) (k : Nat) (h : k < l.length) (hf : fits l[k] a = true) (hl : ((those (l.take k) a).length : Int) < a.lim) : ∃ hr : (run (l.take k) a).length < (run l a).length, (run l a)[(run (l.take k) a).length] = l[k].id := by
  have h1 := run_take l a k h
  have h2 : ((run (l.take k) a).length : Int) < a.lim := by rw [run_len]; omega
  rw [if_pos ⟨hf, h2⟩] at h1
  obtain ⟨t, ht⟩ := run_prefix l a (k + 1)
  rw [h1] at ht
  have h3 := congrArg List.length ht
  simp only [List.length_append, List.length_singleton] at h3
  refine ⟨by omega, ?_⟩
  simp only [← ht]
  rw [List.getElem_append_left (by simp)]
  simp
/-- no more are told -/
theorem run_full (l : List E) (a : A) (k : Nat) (hl : ¬ ((those (l.take k) a).length : Int) < a.lim) : (run (l.take k) a).length = (run l a).length ∧ ¬ ((run (l.take k) a).length : Int) < a.lim := by
  have := many_le l a k
  rw [run_len, run_len]
  omega
theorem past_behind (a : A) (e x : E) : past x (a.behind e) = lt e x := by
  unfold past lt A.behind
  simp only
  congr 1
  exact propext ⟨fun h => h.elim .inl (fun h => .inr ⟨h.1.symm, h.2⟩), fun h => h.elim .inl (fun h => .inr ⟨h.1.symm, h.2⟩)⟩
theorem past_lt {a : A} {e x : E} (h : past e a = true) (k : lt e x = true) : past x a = true := by
  unfold past at *
  rw [lt_iff] at k
  rw [decide_eq_true_eq] at *
  omega
/-- who fits behind one that fits -/
theorem fits_behind {a : A} {e x : E} (h : fits e a = true) : fits x (a.behind e) = (fits x a && lt e x) := by
  unfold fits at *
  rw [past_behind, show fits0 x (a.behind e) = fits0 x a from rfl]
  rw [Bool.and_eq_true] at h
  cases k : lt e x
  · simp
  · rw [past_lt h.2 k]; simp
theorem filter_drop : ∀ {f : List E}, f.Pairwise (fun a b => lt a b = true) → ∀ (k : Nat) (h : k < f.length), f.filter (fun x => lt f[k] x) = f.drop (k + 1)
  | [], _, k, h => by cases h
  | y :: r, hp, 0, _ => by
    rw [List.pairwise_cons] at hp
    simp only [List.getElem_cons_zero, List.drop_succ_cons, List.drop_zero]
    rw [List.filter_cons_of_neg (by simp [lt]), List.filter_eq_self.2 (fun x hx => hp.1 x hx)]
  | y :: r, hp, k + 1, h => by
    rw [List.pairwise_cons] at hp
    have hk : k < r.length := by simpa using h
    simp only [List.getElem_cons_succ, List.drop_succ_cons]
    rw [List.filter_cons_of_neg, filter_drop hp.2 k hk]
    have := hp.1 r[k] (List.getElem_mem hk)
    rw [lt_iff] at this
    simp only [Bool.not_eq_true]
    rw [lt_no]
    omega
/-- those behind the k-th of those that fit -/
theorem those_behind {l : List E} (hs : l.Pairwise (fun a b => lt a b = true)) (a : A) (k : Nat) (h : k < (those l a).length) : those l (a.behind (those l a)[k]) = (those l a).drop (k + 1) := by
  have hm : fits (those l a)[k] a = true := (List.mem_filter.1 (List.getElem_mem h)).2
  have hd := filter_drop (f := those l a) (hs.sublist List.filter_sublist) k h
  rw [← hd]
  clear hd
  generalize (those l a)[k] = e at *
  unfold those
  rw [List.filter_filter]
  congr 1
  funext x
  rw [fits_behind hm, Bool.and_comm]
theorem told_last {l : List E} {a : A} (h : more l a = true) : ∃ (k : Nat) (hk : k < (those l a).length), (k : Int) + 1 = a.lim ∧ next l a = a.behind (those l a)[k] := by
  have h' := h
  unfold more at h'
  rw [decide_eq_true_eq] at h'
  obtain ⟨h1, h2⟩ := h'
  refine ⟨a.lim.toNat - 1, by omega, by omega, ?_⟩
  unfold next
  rw [if_pos h]
  unfold told
  rw [List.getLast?_eq_getElem?, List.length_take, Nat.min_eq_left (by omega), List.getElem?_take_of_lt (by omega), List.getElem?_eq_getElem (by omega)]
  rfl
/-- the next page: what is told of it, and what is behind it -/
theorem next_those {l : List E} (hs : l.Pairwise (fun a b => lt a b = true)) {a : A} (h : more l a = true) : those l (next l a) = (those l a).drop a.lim.toNat ∧ (next l a).lim = a.lim := by
  obtain ⟨k, hk, e, hn⟩ := told_last h
  rw [hn, those_behind hs a k hk]
  refine ⟨?_, rfl⟩
  rw [show a.lim.toNat = k + 1 by omega]
theorem next_run {l : List E} (hs : l.Pairwise (fun a b => lt a b = true)) {a : A} (h : more l a = true) : (those l a).map E.id = run l a ++ (those l (next l a)).map E.id ∧ ((run l a).length : Int) = a.lim := by
  obtain ⟨h1, -⟩ := next_those hs h
  refine ⟨?_, ?_⟩
  · rw [h1]; unfold run told; rw [← List.map_append, List.take_append_drop]
  · unfold more at h
    rw [decide_eq_true_eq] at h
    rw [run_len]; omega
theorem last_run {l : List E} {a : A} (h : more l a = false) (h0 : 0 < a.lim) : (those l a).map E.id = run l a := by
  unfold more at h
  rw [decide_eq_false_iff_not] at h
  unfold run told
  rw [List.take_of_length_le (by omega)]
theorem fits_class {e : E} {a : A} (hc : 0 ≤ a.cl) : fits e a = (fits e { a with cl := -1 } && decide (e.cl = a.cl)) := by
  unfold fits fits0 past
  simp only
  rw [← Bool.decide_and, ← Bool.decide_and, ← Bool.decide_and]
  congr 1
  apply propext
  constructor
  · rintro ⟨⟨h1, h2, h3, h4⟩, h5⟩
    exact ⟨⟨⟨h1, h2, h3, .inl (by omega)⟩, h5⟩, by omega⟩
  · rintro ⟨⟨⟨h1, h2, h3, -⟩, h5⟩, h4⟩
    exact ⟨⟨h1, h2, h3, .inr h4⟩, h5⟩
theorem filter_add (p q s : E → Bool) (h : ∀ x, s x = (p x || q x)) (hn : ∀ x, p x = true → q x = true → False) : ∀ f : List E, (f.filter p).length + (f.filter q).length = (f.filter s).length
  | [] => rfl
  | y :: r => by
    have ih := filter_add p q s h hn r
    have hy := h y
    have hz := hn y
    rw [List.filter_cons, List.filter_cons, List.filter_cons]
    cases hp : p y <;> cases hq : q y <;> rw [hp, hq] at hy <;> rw [hy] <;> simp
    · exact ih
    · omega
    · omega
    · exact (hz hp hq).elim
/-- of each class, together -/
theorem count_classes (f : List E) (g : E → Bool) (n : Nat) : ((List.range n).map fun (c : Nat) => (f.filter (fun e => g e && decide (e.cl = (c : Int)))).length).sum = (f.filter (fun e => g e && decide (0 ≤ e.cl ∧ e.cl < n))).length := by
  induction n with
  | zero =>
    simp only [List.range_zero, List.map_nil, List.sum_nil]
    rw [List.filter_eq_nil_iff.2]; rfl
    intro e _ h
    rw [Bool.and_eq_true, decide_eq_true_eq] at h
    omega
  | succ n ih =>
    rw [List.range_succ, List.map_append, List.sum_append, ih]
    simp only [List.map_cons, List.map_nil, List.sum_cons, List.sum_nil, Nat.add_zero]
    apply filter_add
    · intro x
      rw [show decide (0 ≤ x.cl ∧ x.cl < ((n + 1 : Nat) : Int)) = (decide (0 ≤ x.cl ∧ x.cl < (n : Int)) || decide (x.cl = (n : Int))) by
        rw [← Bool.decide_or]; congr 1; apply propext; omega]
      cases g x <;> simp
    · intro x h1 h2
      rw [Bool.and_eq_true, decide_eq_true_eq] at h1 h2
      omega
/-- a narrower question -/
theorem fits_mono {e : E} {a b : A} (hs : a.sv = [] ∨ a.sv = b.sv) (h1 : a.lo ≤ b.lo) (h2 : b.hi ≤ a.hi) (hc : a.cl < 0 ∨ a.cl = b.cl) (ht : a.tk = b.tk) (hi : a.id = b.id) (h : fits e b = true) : fits e a = true := by
  unfold fits fits0 past at *
  rw [Bool.and_eq_true, decide_eq_true_eq, decide_eq_true_eq] at *
  obtain ⟨⟨k1, k2, k3, k4⟩, k5⟩ := h
  refine ⟨⟨?_, by omega, by omega, by omega⟩, by omega⟩
  rcases hs with hs | hs
  · exact .inl hs
  · rw [hs]; exact k1
end Go.Proofs.Ytcoedohfggeaiaa.Qy
