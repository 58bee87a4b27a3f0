/-
  Plain mathematics of layer 16, with no program in it: spans that are gathered, as traces by their numbers; what one more is answered; what is gathered of many, and what is left where one trace is taken. Nothing is assumed.
-/
import Derived.Test.YthcchfhkeghkhaaMath13

namespace Go.Proofs.Ythcchfhkeghkhaa.Po
open Plain
set_option maxRecDepth 100000

/-! numbers, each once, the least first -/
def insU (x : Int) (l : List Int) : List Int := if x ∈ l then l else l.takeWhile (fun y => decide (y < x)) ++ x :: l.dropWhile (fun y => decide (y < x))
def Up (l : List Int) : Prop := l.Pairwise (fun a b => a < b)
theorem up_uniq : ∀ {a b : List Int}, Up a → Up b → (∀ x, x ∈ a ↔ x ∈ b) → a = b := by
  intro a b ha hb h
  refine List.Perm.eq_of_pairwise (le := fun a b => a ≤ b) (fun x y _ _ h1 h2 => by omega) (ha.imp fun h => by omega) (hb.imp fun h => by omega) ?_
  exact (List.perm_ext_iff_of_nodup (ha.imp fun h => by omega) (hb.imp fun h => by omega)).2 h
theorem insU_mem (x y : Int) (l : List Int) : y ∈ insU x l ↔ y = x ∨ y ∈ l := by
  unfold insU
  split
  · rename_i h
    exact ⟨.inr, fun h2 => h2.elim (fun e => e ▸ h) id⟩
  · rw [List.mem_append, List.mem_cons]
    have e : l.takeWhile (fun y => decide (y < x)) ++ l.dropWhile (fun y => decide (y < x)) = l := List.takeWhile_append_dropWhile
    constructor
    · rintro (h | h | h)
      · exact .inr (by rw [← e]; exact List.mem_append_left _ h)
      · exact .inl h
      · exact .inr (by rw [← e]; exact List.mem_append_right _ h)
    · rintro (h | h)
      · exact .inr (.inl h)
      · rw [← e] at h
        exact (List.mem_append.1 h).elim .inl (fun h => .inr (.inr h))
theorem take_lt (x : Int) : ∀ (l : List Int), ∀ y ∈ l.takeWhile (fun y => decide (y < x)), y < x
  | [], y, h => by cases h
  | a :: r, y, h => by
    rw [List.takeWhile_cons] at h
    split at h
    · rename_i ha
      rcases List.mem_cons.1 h with rfl | h
      · simpa using ha
      · exact take_lt x r y h
    · cases h
theorem drop_ge (x : Int) : ∀ {l : List Int}, Up l → ∀ y ∈ l.dropWhile (fun y => decide (y < x)), x ≤ y
  | [], _, y, h => by cases h
  | a :: r, hu, y, h => by
    rw [List.dropWhile_cons] at h
    have hu' := List.pairwise_cons.1 hu
    split at h
    · exact drop_ge x hu'.2 y h
    · rename_i ha
      have : x ≤ a := by simpa using ha
      rcases List.mem_cons.1 h with rfl | h
      · exact this
      · have := hu'.1 y h; omega
theorem insU_up (x : Int) {l : List Int} (h : Up l) : Up (insU x l) := by
  unfold insU
  split
  · exact h
  · rename_i hx
    unfold Up
    rw [List.pairwise_append, List.pairwise_cons]
    refine ⟨h.sublist (List.takeWhile_sublist _), ⟨fun y hy => ?_, h.sublist (List.dropWhile_sublist _)⟩, fun a ha b hb => ?_⟩
    · have := drop_ge x h y hy
      have hne : y ≠ x := fun e => hx (e ▸ (List.dropWhile_sublist _).subset hy)
      omega
    · have h1 := take_lt x l a ha
      rcases List.mem_cons.1 hb with rfl | hb
      · exact h1
      · have := drop_ge x h b hb; omega
/-- the traces' numbers -/
def ids (G : List Sp) : List Int := G.foldl (fun a s => insU s.t a) []
theorem ids_nil : ids [] = [] := rfl
theorem ids_snoc (G : List Sp) (s : Sp) : ids (G ++ [s]) = insU s.t (ids G) := by unfold ids; rw [List.foldl_append]; rfl
theorem ids_up (G : List Sp) : Up (ids G) := by
  induction G using snoc_ind with
  | h0 => exact List.Pairwise.nil
  | h1 l x ih => rw [ids_snoc]; exact insU_up _ ih
theorem ids_mem (G : List Sp) (i : Int) : i ∈ ids G ↔ ∃ x ∈ G, x.t = i := by
  induction G using snoc_ind with
  | h0 => simp [ids]
  | h1 l x ih =>
    rw [ids_snoc, insU_mem, ih]
    constructor
    · rintro (rfl | ⟨y, hy, e⟩)
      · exact ⟨x, by simp, rfl⟩
      · exact ⟨y, by simp [hy], e⟩
    · rintro ⟨y, hy, e⟩
      rcases List.mem_append.1 hy with hy | hy
      · exact .inr ⟨y, hy, e⟩
      · rw [List.mem_singleton.1 hy] at e; exact .inl e.symm
theorem ids_uniq {G : List Sp} {l : List Int} (h : Up l) (hm : ∀ i, i ∈ l ↔ ∃ x ∈ G, x.t = i) : l = ids G := up_uniq h (ids_up G) fun i => (hm i).trans (ids_mem G i).symm
theorem ids_perm {G H : List Sp} (h : G.Perm H) : ids G = ids H := ids_uniq (ids_up G) fun i => (ids_mem G i).trans ⟨fun ⟨x, hx, e⟩ => ⟨x, h.mem_iff.1 hx, e⟩, fun ⟨x, hx, e⟩ => ⟨x, h.mem_iff.2 hx, e⟩⟩
theorem ids_len (G : List Sp) : (ids G).length ≤ G.length := by
  induction G using snoc_ind with
  | h0 => simp [ids]
  | h1 l x ih =>
    rw [ids_snoc, List.length_append, List.length_singleton]
    unfold insU
    split
    · omega
    · have e : ((ids l).takeWhile (fun y => decide (y < x.t))).length + ((ids l).dropWhile (fun y => decide (y < x.t))).length = (ids l).length := by
        rw [← List.length_append, List.takeWhile_append_dropWhile]
      rw [List.length_append, List.length_cons]; omega
theorem insU_len (x : Int) (l : List Int) : (insU x l).length = if x ∈ l then l.length else l.length + 1 := by
  unfold insU
  split
  · rfl
  · have e : (l.takeWhile (fun y => decide (y < x))).length + (l.dropWhile (fun y => decide (y < x))).length = l.length := by
      rw [← List.length_append, List.takeWhile_append_dropWhile]
    rw [List.length_append, List.length_cons]; omega

/-! of one trace -/
def of (G : List Sp) (i : Int) : List Sp := G.filter (fun x => decide (x.t = i))
theorem of_mem {G : List Sp} {i : Int} {x : Sp} : x ∈ of G i ↔ x ∈ G ∧ x.t = i := by unfold of; rw [List.mem_filter, decide_eq_true_eq]
theorem of_snoc (G : List Sp) (s : Sp) (i : Int) : of (G ++ [s]) i = if s.t = i then of G i ++ [s] else of G i := by
  unfold of
  rw [List.filter_append]
  by_cases h : s.t = i
  · rw [if_pos h, List.filter_cons_of_pos (by simpa using h), List.filter_nil]
  · rw [if_neg h, List.filter_cons_of_neg (by simpa using h), List.filter_nil, List.append_nil]
theorem of_nil {G : List Sp} {i : Int} : of G i = [] ↔ i ∉ ids G := by
  rw [ids_mem]
  unfold of
  rw [List.filter_eq_nil_iff]
  simp only [decide_eq_true_eq]
  exact ⟨fun h ⟨x, hx, e⟩ => h x hx e, fun h x hx e => h ⟨x, hx, e⟩⟩
/-- a trace's spans, in order -/
def part (G : List Sp) (i : Int) : List Sp := srt (of G i)
theorem part_perm (G : List Sp) (i : Int) : (part G i).Perm (of G i) := srt_perm _
theorem part_mem {G : List Sp} {i : Int} {x : Sp} : x ∈ part G i ↔ x ∈ G ∧ x.t = i := (part_perm G i).mem_iff.trans of_mem
theorem part_len (G : List Sp) (i : Int) : (part G i).length = (of G i).length := (part_perm G i).length_eq
theorem part_nil {G : List Sp} {i : Int} : part G i = [] ↔ i ∉ ids G := by
  rw [← of_nil, ← List.length_eq_zero_iff, ← List.length_eq_zero_iff, part_len]
theorem part_other {G : List Sp} {s : Sp} {i : Int} (h : s.t ≠ i) : part (G ++ [s]) i = part G i := by unfold part; rw [of_snoc, if_neg h]

/-! one more -/
/-- what one more is answered: 0, or the error -/
def code (most : Int) (G : List Sp) (s : Sp) : Int :=
  if s.right = false then 1
  else if ∃ x ∈ G, x.t = s.t ∧ x.i = s.i then 4
  else if 64 ≤ (of G s.t).length ∨ (of G s.t = [] ∧ 64 ≤ (ids G).length) then 2
  else if most < (Rc.cost (part (G ++ [s]) s.t) : Int) then 51
  else 0
/-- how what is gathered may be -/
structure Ok (most : Int) (G : List Sp) : Prop where
  right : ∀ x ∈ G, x.right = true
  unlike : G.Pairwise (fun a b => ¬ (a.t = b.t ∧ a.i = b.i))
  few : ∀ i, (of G i).length ≤ 64
  many : (ids G).length ≤ 64
  cost : ∀ i ∈ ids G, (Rc.cost (part G i) : Int) ≤ most
theorem ok_nil (most : Int) : Ok most [] := ⟨fun _ h => (by cases h), List.Pairwise.nil, fun _ => (by simp [of]), (by simp [ids]), fun _ h => (by cases h)⟩
theorem code_zero {most : Int} {G : List Sp} {s : Sp} : code most G s = 0 ↔ s.right = true ∧ (∀ x ∈ G, ¬ (x.t = s.t ∧ x.i = s.i)) ∧ (of G s.t).length < 64 ∧ (of G s.t = [] → (ids G).length < 64) ∧ (Rc.cost (part (G ++ [s]) s.t) : Int) ≤ most := by
  unfold code
  constructor
  · intro h
    split at h
    · omega
    · rename_i h1
      split at h
      · omega
      · rename_i h2
        split at h
        · omega
        · rename_i h3
          split at h
          · omega
          · rename_i h4
            refine ⟨by simpa using h1, fun x hx e => h2 ⟨x, hx, e⟩, by omega, fun e => ?_, by omega⟩
            rcases Nat.lt_or_ge (ids G).length 64 with h5 | h5
            · exact h5
            · exact absurd (.inr ⟨e, h5⟩) h3
  · rintro ⟨h1, h2, h3, h4, h5⟩
    rw [if_neg (by simp [h1]), if_neg (fun ⟨x, hx, e⟩ => h2 x hx e), if_neg (fun h => h.elim (by omega) (fun ⟨e, h⟩ => by have := h4 e; omega)), if_neg (by omega)]
theorem free_of {most : Int} {G : List Sp} (h : Ok most G) {i : Int} (hi : i ∈ ids G) : Free (of G i) := by
  refine ⟨fun e => of_nil.1 e hi, h.few i, fun x hx => h.right x (of_mem.1 hx).1, fun x hx y hy => (of_mem.1 hx).2.trans (of_mem.1 hy).2.symm, ?_⟩
  rw [List.Nodup, List.pairwise_map]
  have hu : (of G i).Pairwise (fun a b => ¬ (a.t = b.t ∧ a.i = b.i)) := h.unlike.sublist List.filter_sublist
  refine hu.imp_of_mem fun {a b} ha hb hn e => hn ⟨(of_mem.1 ha).2.trans (of_mem.1 hb).2.symm, e⟩
theorem part_isT {most : Int} {G : List Sp} (h : Ok most G) {i : Int} (hi : i ∈ ids G) : isT (part G i) = true := (isT_srt _).2 (free_of h hi)
theorem ok_snoc {most : Int} {G : List Sp} {s : Sp} (h : Ok most G) (hc : code most G s = 0) : Ok most (G ++ [s]) := by
  obtain ⟨h1, h2, h3, h4, h5⟩ := code_zero.1 hc
  refine ⟨fun x hx => ?_, ?_, fun i => ?_, ?_, fun i hi => ?_⟩
  · rcases List.mem_append.1 hx with hx | hx
    · exact h.right x hx
    · rw [List.mem_singleton.1 hx]; exact h1
  · rw [List.pairwise_append]
    exact ⟨h.unlike, List.pairwise_singleton .., fun a ha b hb => by rw [List.mem_singleton.1 hb]; exact h2 a ha⟩
  · rw [of_snoc]
    split
    · rename_i e
      subst e
      rw [List.length_append, List.length_singleton]; omega
    · exact h.few i
  · rw [ids_snoc, insU_len]
    split
    · exact h.many
    · rename_i e
      have := h4 (of_nil.2 e); omega
  · by_cases e : s.t = i
    · subst e; exact h5
    · rw [part_other e]
      refine h.cost i ?_
      rw [ids_snoc, insU_mem] at hi
      exact hi.resolve_left (fun h => e h.symm)
/-- one more of a trace, as Sort tells it -/
theorem part_ts {most : Int} {G : List Sp} {s : Sp} (h : Ok most G) (h1 : s.right = true) (h2 : ∀ x ∈ G, ¬ (x.t = s.t ∧ x.i = s.i)) (h3 : (of G s.t).length < 64) : isT (srt (part G s.t ++ [s])) = true ∧ ts (part G s.t ++ [s]) = part (G ++ [s]) s.t ∧ isT (part (G ++ [s]) s.t) = true := by
  have hp : (part G s.t ++ [s]).Perm (of (G ++ [s]) s.t) := by rw [of_snoc, if_pos rfl]; exact (part_perm G s.t).append_right [s]
  have hF : Free (of (G ++ [s]) s.t) := by
    rw [of_snoc, if_pos rfl]
    refine ⟨by simp, by rw [List.length_append, List.length_singleton]; omega, fun x hx => ?_, fun x hx y hy => ?_, ?_⟩
    · rcases List.mem_append.1 hx with hx | hx
      · exact h.right x (of_mem.1 hx).1
      · rw [List.mem_singleton.1 hx]; exact h1
    · have key : ∀ z ∈ of G s.t ++ [s], z.t = s.t := fun z hz => by
        rcases List.mem_append.1 hz with hz | hz
        · exact (of_mem.1 hz).2
        · rw [List.mem_singleton.1 hz]
      rw [key x hx, key y hy]
    · rw [List.Nodup, List.pairwise_map, List.pairwise_append]
      have hu : (of G s.t).Pairwise (fun a b => ¬ (a.t = b.t ∧ a.i = b.i)) := h.unlike.sublist List.filter_sublist
      refine ⟨hu.imp_of_mem fun {a b} ha hb hn e => hn ⟨(of_mem.1 ha).2.trans (of_mem.1 hb).2.symm, e⟩, List.pairwise_singleton .., fun a ha b hb e => ?_⟩
      rw [List.mem_singleton.1 hb] at e
      exact h2 a (of_mem.1 ha).1 ⟨(of_mem.1 ha).2, e⟩
  obtain ⟨e1, e2⟩ := ts_perm hp
  have hT : isT (srt (of (G ++ [s]) s.t)) = true := (isT_srt _).2 hF
  exact ⟨e1.trans hT, by rw [e2, ts_yes hT]; rfl, hT⟩

/-! many -/
/-- what they are answered, one behind the other: 0, or the first error -/
def codes (most : Int) (G : List Sp) : List Sp → Int
  | [] => 0
  | s :: l => if code most G s = 0 then codes most (G ++ [s]) l else code most G s
def put (most : Int) (G l : List Sp) : List Sp := if codes most G l = 0 then G ++ l else G
theorem codes_take {most : Int} {G l : List Sp} : ∀ (k : Nat), k ≤ l.length → codes most G (l.take k) = 0 → codes most G l = codes most (G ++ l.take k) (l.drop k) := by
  induction l generalizing G with
  | nil => intro k _ _; simp [codes]
  | cons s l ih =>
    intro k hk h
    cases k with
    | zero => simp
    | succ k =>
      rw [List.take_succ_cons] at h ⊢
      rw [List.drop_succ_cons]
      have h' : (if code most G s = 0 then codes most (G ++ [s]) (l.take k) else code most G s) = 0 := h
      show (if code most G s = 0 then codes most (G ++ [s]) l else code most G s) = _
      by_cases hc : code most G s = 0
      · rw [if_pos hc] at h' ⊢
        have := ih k (by simpa using hk) h'
        rw [this, List.append_assoc]; rfl
      · rw [if_neg hc] at h'; exact absurd h' hc
theorem codes_step {most : Int} {G l : List Sp} {k : Nat} (hk : k < l.length) (h : codes most G (l.take k) = 0) (hc : code most (G ++ l.take k) l[k] = 0) : codes most G (l.take (k + 1)) = 0 := by
  have hk2 : k ≤ (l.take (k + 1)).length := by rw [List.length_take]; omega
  have e : (l.take (k + 1)).take k = l.take k := by rw [List.take_take, Nat.min_eq_left (by omega)]
  have e2 : (l.take (k + 1)).drop k = [l[k]] := by rw [List.take_succ_eq_append_getElem hk, List.drop_left' (by rw [List.length_take]; omega)]
  have := codes_take (most := most) (G := G) (l := l.take (k + 1)) k hk2 (by rw [e]; exact h)
  rw [this, e, e2]
  show (if code most (G ++ l.take k) l[k] = 0 then (0 : Int) else _) = 0
  rw [if_pos hc]
theorem codes_stop {most : Int} {G l : List Sp} {k : Nat} (hk : k < l.length) (h : codes most G (l.take k) = 0) (hc : code most (G ++ l.take k) l[k] ≠ 0) : codes most G l = code most (G ++ l.take k) l[k] := by
  rw [codes_take k (by omega) h, List.drop_eq_getElem_cons hk]
  show (if code most (G ++ l.take k) l[k] = 0 then _ else code most (G ++ l.take k) l[k]) = _
  rw [if_neg hc]
theorem ok_codes {most : Int} : ∀ {l G : List Sp}, Ok most G → codes most G l = 0 → Ok most (G ++ l) := by
  intro l
  induction l with
  | nil => intro G h _; simpa using h
  | cons s l ih =>
    intro G h hc
    have h' : (if code most G s = 0 then codes most (G ++ [s]) l else code most G s) = 0 := hc
    by_cases e : code most G s = 0
    · rw [if_pos e] at h'
      have := ih (ok_snoc h e) h'
      rwa [List.append_assoc] at this
    · rw [if_neg e] at h'; exact absurd h' e
theorem ok_put {most : Int} {G : List Sp} (h : Ok most G) (l : List Sp) : Ok most (put most G l) := by
  unfold put
  split
  · exact ok_codes h (by assumption)
  · exact h
theorem codes_app {most : Int} : ∀ {a G : List Sp} (b : List Sp), codes most G a = 0 → codes most G (a ++ b) = codes most (G ++ a) b := by
  intro a G b h
  have := codes_take (most := most) (G := G) (l := a ++ b) a.length (by simp) (by rw [List.take_left]; exact h)
  rw [this, List.take_left, List.drop_left]

/-! a trace that is taken -/
def drop (G : List Sp) (i : Int) : List Sp := G.filter (fun x => decide (x.t ≠ i))
theorem drop_mem {G : List Sp} {i : Int} {x : Sp} : x ∈ drop G i ↔ x ∈ G ∧ x.t ≠ i := by unfold drop; rw [List.mem_filter, decide_eq_true_eq]
theorem of_drop (G : List Sp) (i j : Int) : of (drop G i) j = if j = i then [] else of G j := by
  unfold of drop
  rw [List.filter_filter]
  split
  · rename_i e
    rw [List.filter_eq_nil_iff]
    intro x _ h
    rw [Bool.and_eq_true, decide_eq_true_eq, decide_eq_true_eq] at h
    exact h.2 (h.1.trans e)
  · rename_i e
    congr 1
    funext x
    by_cases h : x.t = j
    · simp [h, e]
    · simp [h]
theorem part_drop (G : List Sp) (i j : Int) : part (drop G i) j = if j = i then [] else part G j := by
  unfold part
  rw [of_drop]
  split
  · simp [srt]
  · rfl
theorem ids_drop (G : List Sp) (i : Int) : ids (drop G i) = (ids G).filter (fun j => decide (j ≠ i)) := by
  refine (ids_uniq ((ids_up G).sublist List.filter_sublist) fun j => ?_).symm
  rw [List.mem_filter, ids_mem, decide_eq_true_eq]
  exact ⟨fun ⟨⟨x, hx, e⟩, hne⟩ => ⟨x, drop_mem.2 ⟨hx, by rw [e]; exact hne⟩, e⟩, fun ⟨x, hx, e⟩ => ⟨⟨x, (drop_mem.1 hx).1, e⟩, by rw [← e]; exact (drop_mem.1 hx).2⟩⟩
theorem ok_drop {most : Int} {G : List Sp} (h : Ok most G) (i : Int) : Ok most (drop G i) := by
  refine ⟨fun x hx => h.right x (drop_mem.1 hx).1, h.unlike.sublist List.filter_sublist, fun j => ?_, ?_, fun j hj => ?_⟩
  · rw [of_drop]; split
    · simp
    · exact h.few j
  · rw [ids_drop]; exact Nat.le_trans (List.length_filter_le ..) h.many
  · rw [ids_drop, List.mem_filter, decide_eq_true_eq] at hj
    rw [part_drop, if_neg hj.2]
    exact h.cost j hj.1
theorem drop_none {G : List Sp} {i : Int} (h : i ∉ ids G) : drop G i = G := by
  unfold drop
  rw [List.filter_eq_self]
  intro x hx
  rw [decide_eq_true_eq]
  exact fun e => h ((ids_mem G i).2 ⟨x, hx, e⟩)

/-! all traces, the least number first -/
def rows (G : List Sp) : List (List Sp) := (ids G).map (part G)
theorem rows_len (G : List Sp) : (rows G).length = (ids G).length := List.length_map _
theorem rows_nil : rows [] = [] := rfl
theorem rows_get {G : List Sp} {k : Nat} (h : k < (rows G).length) : (rows G)[k] = part G ((ids G)[k]'(by rwa [rows_len] at h)) := by simp [rows]
/-- the number of a trace: that of its first span -/
def num (l : List Sp) : Int := (l.headD Sp.zero).t
theorem part_num {G : List Sp} {i : Int} (h : i ∈ ids G) : part G i ≠ [] ∧ num (part G i) = i := by
  have h1 : part G i ≠ [] := fun e => part_nil.1 e h
  refine ⟨h1, ?_⟩
  obtain ⟨x, r, hx⟩ := List.exists_cons_of_ne_nil h1
  have hm : x ∈ part G i := by rw [hx]; simp
  rw [hx]
  exact (part_mem.1 hm).2
theorem rows_num {G : List Sp} {k : Nat} (h : k < (rows G).length) : (rows G)[k] ≠ [] ∧ num (rows G)[k] = (ids G)[k]'(by rwa [rows_len] at h) := by
  rw [rows_get h]
  exact part_num (List.getElem_mem _)
theorem rows_nums (G : List Sp) : (rows G).map num = ids G := by
  unfold rows
  rw [List.map_map]
  conv => rhs; rw [← List.map_id (ids G)]
  exact List.map_congr_left fun i hi => (part_num hi).2
theorem rows_row {most : Int} {G : List Sp} (h : Ok most G) {k : Nat} (hk : k < (rows G).length) : (rows G)[k].length ≤ 64 := by rw [rows_get hk, part_len]; exact h.few _
theorem up_inj {l : List Int} (h : Up l) {j k : Nat} (hj : j < l.length) (hk : k < l.length) (e : l[j] = l[k]) : j = k := by
  rcases Nat.lt_trichotomy j k with h1 | h1 | h1
  · have := List.pairwise_iff_getElem.1 h j k hj hk h1; omega
  · exact h1
  · have := List.pairwise_iff_getElem.1 h k j hk hj h1; omega
/-- where a new trace goes -/
theorem rows_new {G : List Sp} {s : Sp} (hn : s.t ∉ ids G) {j : Nat} (hj : j ≤ (ids G).length) (h1 : ∀ (i : Nat) (hi : i < (ids G).length), i < j → (ids G)[i] < s.t) (h2 : ∀ hj' : j < (ids G).length, s.t ≤ (ids G)[j]) : rows (G ++ [s]) = (rows G).take j ++ [[s]] ++ (rows G).drop j := by
  have hu := ids_up G
  have e : ids (G ++ [s]) = (ids G).take j ++ s.t :: (ids G).drop j := by
    refine (ids_uniq ?_ fun i => ?_).symm
    · unfold Up
      rw [List.pairwise_append, List.pairwise_cons]
      refine ⟨hu.sublist (List.take_sublist _ _), ⟨fun y hy => ?_, hu.sublist (List.drop_sublist _ _)⟩, fun a ha b hb => ?_⟩
      · obtain ⟨i, hi, rfl⟩ := List.getElem_of_mem hy
        rw [List.getElem_drop]
        rw [List.length_drop] at hi
        have hjl : j < (ids G).length := by omega
        have h3 := h2 hjl
        have hne : (ids G)[j] ≠ s.t := fun e => hn (e ▸ List.getElem_mem hjl)
        rcases Nat.eq_zero_or_pos i with rfl | h0
        · show s.t < (ids G)[j]; omega
        · have := List.pairwise_iff_getElem.1 hu j (j + i) hjl (by omega) (by omega); omega
      · obtain ⟨i, hi, rfl⟩ := List.getElem_of_mem ha
        rw [List.length_take] at hi
        rw [List.getElem_take]
        have h3 := h1 i (by omega) (by omega)
        rcases List.mem_cons.1 hb with rfl | hb
        · exact h3
        · obtain ⟨i', hi', rfl⟩ := List.getElem_of_mem hb
          rw [List.length_drop] at hi'
          rw [List.getElem_drop]
          exact List.pairwise_iff_getElem.1 hu i (j + i') (by omega) (by omega) (by omega)
    · have em : i ∈ (ids G).take j ++ s.t :: (ids G).drop j ↔ i = s.t ∨ i ∈ ids G := by
        conv => rhs; rw [← List.take_append_drop j (ids G)]
        simp only [List.mem_append, List.mem_cons]
        constructor
        · rintro (h | h | h)
          · exact .inr (.inl h)
          · exact .inl h
          · exact .inr (.inr h)
        · rintro (h | h | h)
          · exact .inr (.inl h)
          · exact .inl h
          · exact .inr (.inr h)
      rw [em, ids_mem]
      constructor
      · rintro (rfl | ⟨x, hx, e⟩)
        · exact ⟨s, by simp, rfl⟩
        · exact ⟨x, by simp [hx], e⟩
      · rintro ⟨x, hx, e⟩
        rcases List.mem_append.1 hx with hx | hx
        · exact .inr ⟨x, hx, e⟩
        · rw [List.mem_singleton.1 hx] at e; exact .inl e.symm
  unfold rows
  rw [e, List.map_append, List.map_cons, List.append_assoc]
  have hp : ∀ i ∈ ids G, part (G ++ [s]) i = part G i := fun i hi => part_other fun e => hn (e ▸ hi)
  have hs : part (G ++ [s]) s.t = [s] := by
    unfold part
    rw [of_snoc, if_pos rfl, of_nil.2 hn]
    simp [srt]
  rw [hs, List.map_congr_left (fun i hi => hp i (List.mem_of_mem_take hi)), List.map_congr_left (fun i hi => hp i (List.mem_of_mem_drop hi)), List.map_take, List.map_drop]
  rfl
/-- one more of a trace that is there -/
theorem rows_old {G : List Sp} {s : Sp} {k : Nat} (hk : k < (ids G).length) (h : (ids G)[k] = s.t) : rows (G ++ [s]) = (rows G).set k (part (G ++ [s]) s.t) := by
  have hu := ids_up G
  have e : ids (G ++ [s]) = ids G := by
    rw [ids_snoc]
    unfold insU
    rw [if_pos (h ▸ List.getElem_mem hk)]
  refine List.ext_getElem (by rw [List.length_set, rows_len, rows_len, e]) fun i h1 h2 => ?_
  have hi : i < (ids G).length := by rw [rows_len, e] at h1; exact h1
  rw [rows_get h1, List.getElem_set]
  have e2 : (ids (G ++ [s]))[i]'(by rw [e]; exact hi) = (ids G)[i] := by simp only [e]
  rw [e2]
  split
  · rename_i hki
    subst hki
    rw [h]
  · rename_i hki
    rw [rows_get (by rw [rows_len]; exact hi)]
    exact part_other fun he => hki (up_inj hu hk hi (h.trans he))
/-- one that is taken -/
theorem rows_drop {G : List Sp} {i : Int} {k : Nat} (hk : k < (ids G).length) (h : (ids G)[k] = i) : rows (drop G i) = (rows G).take k ++ (rows G).drop (k + 1) := by
  have hu := ids_up G
  have e : ids (drop G i) = (ids G).take k ++ (ids G).drop (k + 1) := by
    rw [ids_drop]
    conv => lhs; rw [← List.take_append_drop k (ids G), List.filter_append, List.drop_eq_getElem_cons hk]
    rw [List.filter_cons_of_neg (by simp [h])]
    congr 1
    · rw [List.filter_eq_self]
      intro j hj
      obtain ⟨a, ha, rfl⟩ := List.getElem_of_mem hj
      rw [List.length_take] at ha
      rw [List.getElem_take, decide_eq_true_eq]
      have := List.pairwise_iff_getElem.1 hu a k (by omega) hk (by omega); omega
    · rw [List.filter_eq_self]
      intro j hj
      obtain ⟨a, ha, rfl⟩ := List.getElem_of_mem hj
      rw [List.length_drop] at ha
      rw [List.getElem_drop, decide_eq_true_eq]
      have := List.pairwise_iff_getElem.1 hu k (k + 1 + a) hk (by omega) (by omega); omega
  have hni : ∀ j ∈ ids (drop G i), j ≠ i := fun j hj => by
    rw [ids_drop, List.mem_filter, decide_eq_true_eq] at hj; exact hj.2
  unfold rows
  rw [List.map_congr_left (g := part G) (fun j hj => by rw [part_drop, if_neg (hni j hj)]), e, List.map_append, List.map_take, List.map_drop]
/-- a trace's spans, told as they are in order -/
theorem part_eq {G d : List Sp} {i : Int} (h : isT d = true) (hp : d.Perm (of G i)) : part G i = d := by
  obtain ⟨hF, hs⟩ := (isT_iff d).1 h
  exact (uniq hp (hs.imp fun h => lt_le _ _ h) (free_perm hp hF)).symm
theorem code_there {most : Int} {G : List Sp} {s : Sp} (h1 : s.right = true) (h2 : ∃ x ∈ G, x.t = s.t ∧ x.i = s.i) : code most G s = 4 := by
  unfold code; rw [if_neg (by simp [h1]), if_pos h2]
theorem code_wrong {most : Int} {G : List Sp} {s : Sp} (h1 : s.right = false) : code most G s = 1 := by
  unfold code; rw [if_pos h1]
theorem code_big {most : Int} {G : List Sp} {s : Sp} (h1 : s.right = true) (h2 : ∀ x ∈ G, ¬ (x.t = s.t ∧ x.i = s.i)) (h3 : (of G s.t).length < 64) (h4 : of G s.t = [] → (ids G).length < 64) (h5 : most < (Rc.cost (part (G ++ [s]) s.t) : Int)) : code most G s = 51 := by
  unfold code
  rw [if_neg (by simp [h1]), if_neg (fun ⟨x, hx, e⟩ => h2 x hx e), if_neg (fun h => h.elim (by omega) (fun ⟨e, h⟩ => by have := h4 e; omega)), if_pos h5]
theorem code_many {most : Int} {G : List Sp} {s : Sp} (h1 : s.right = true) (h2 : ∀ x ∈ G, ¬ (x.t = s.t ∧ x.i = s.i)) (h3 : 64 ≤ (of G s.t).length ∨ (of G s.t = [] ∧ 64 ≤ (ids G).length)) : code most G s = 2 := by
  unfold code
  rw [if_neg (by simp [h1]), if_neg (fun ⟨x, hx, e⟩ => h2 x hx e), if_pos h3]

/-! what was taken, gathered again -/
theorem mem_back {G : List Sp} {i : Int} {x : Sp} : x ∈ drop G i ++ part G i ↔ x ∈ G := by
  rw [List.mem_append, drop_mem, part_mem]
  by_cases h : x.t = i <;> simp [h]
theorem ids_back (G : List Sp) (i : Int) : ids (drop G i ++ part G i) = ids G :=
  (ids_uniq (ids_up _) fun j => (ids_mem _ j).trans ⟨fun ⟨x, hx, e⟩ => ⟨x, mem_back.1 hx, e⟩, fun ⟨x, hx, e⟩ => ⟨x, mem_back.2 hx, e⟩⟩)
theorem of_app (a b : List Sp) (i : Int) : of (a ++ b) i = of a i ++ of b i := List.filter_append ..
theorem of_same {l : List Sp} {i : Int} (h : ∀ x ∈ l, x.t = i) : of l i = l := by
  unfold of
  rw [List.filter_eq_self]
  intro x hx
  rw [decide_eq_true_eq]; exact h x hx
theorem part_back {most : Int} {G : List Sp} (h : Ok most G) {i : Int} (hi : i ∈ ids G) : part (drop G i ++ part G i) i = part G i := by
  refine part_eq (part_isT h hi) ?_
  rw [of_app, of_drop, if_pos rfl, List.nil_append, of_same fun x hx => (part_mem.1 hx).2]
theorem ids_take_lt {most : Int} {G : List Sp} (h : Ok most G) {i : Int} (hi : i ∈ ids G) : (ids (drop G i)).length < 64 := by
  rw [ids_drop]
  have h1 := h.many
  have h2 : ((ids G).filter (fun j => decide (j ≠ i))).length < (ids G).length := by
    rcases Nat.lt_or_ge ((ids G).filter (fun j => decide (j ≠ i))).length (ids G).length with h | h
    · exact h
    · have e := List.filter_eq_self.1 (List.filter_sublist.eq_of_length_le h) i hi
      simp at e
  omega
theorem codes_back {most : Int} {G : List Sp} (h : Ok most G) (hm : ∀ l, (Rc.cost l : Int) ≤ most) {i : Int} (hi : i ∈ ids G) : codes most (drop G i) (part G i) = 0 := by
  have hT := (isT_iff _).1 (part_isT h hi)
  have key : ∀ k, k ≤ (part G i).length → codes most (drop G i) ((part G i).take k) = 0 := by
    intro k
    induction k with
    | zero => intro _; simp [codes]
    | succ k ih =>
      intro hk
      refine codes_step (by omega) (ih (by omega)) ?_
      have hx := List.getElem_mem (l := part G i) (n := k) (by omega)
      obtain ⟨hx1, hx2⟩ := part_mem.1 hx
      have ht : ∀ y ∈ (part G i).take k, y.t = i := fun y hy => (part_mem.1 (List.mem_of_mem_take hy)).2
      have ho : of (drop G i ++ (part G i).take k) i = (part G i).take k := by
        rw [of_app, of_drop, if_pos rfl, List.nil_append, of_same ht]
      refine code_zero.2 ⟨h.right _ hx1, fun y hy => ?_, ?_, fun e => ?_, hm _⟩
      · rw [hx2]
        rcases List.mem_append.1 hy with hy | hy
        · exact fun e => (drop_mem.1 hy).2 e.1
        · rintro ⟨-, e⟩
          obtain ⟨j, hj, rfl⟩ := List.getElem_of_mem hy
          rw [List.length_take] at hj
          rw [List.getElem_take] at e
          have hn := hT.1.2.2.2.2
          have hpw := List.pairwise_iff_getElem.1 hn j k (by rw [List.length_map]; omega) (by rw [List.length_map]; omega) (by omega)
          rw [List.getElem_map, List.getElem_map] at hpw
          exact hpw e
      · rw [hx2, ho, List.length_take]
        have := hT.1.2.1
        omega
      · rw [hx2, ho] at e
        have hk0 : k = 0 := by
          have := congrArg List.length e
          rw [List.length_take, List.length_nil] at this; omega
        subst hk0
        rw [List.take_zero, List.append_nil]
        exact ids_take_lt h hi
  have := key _ (Nat.le_refl _)
  rwa [List.take_length] at this
theorem codes_there {most : Int} {G : List Sp} (h : Ok most G) {i : Int} (hi : i ∈ ids G) : codes most G (part G i) = 4 := by
  obtain ⟨h1, -⟩ := part_num hi
  obtain ⟨x, r, hx⟩ := List.exists_cons_of_ne_nil h1
  have hm : x ∈ G := (part_mem.1 (by rw [hx]; simp : x ∈ part G i)).1
  have e : code most G x = 4 := code_there (h.right x hm) ⟨x, hm, rfl, rfl⟩
  rw [hx]
  show (if code most G x = 0 then codes most (G ++ [x]) r else code most G x) = 4
  rw [e]; rfl
end Go.Proofs.Ythcchfhkeghkhaa.Po
