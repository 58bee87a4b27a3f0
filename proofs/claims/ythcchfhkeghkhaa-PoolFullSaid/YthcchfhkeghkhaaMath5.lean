/-
  Plain mathematics of layer 5, with no program in it: a trace's spans, in any order and in theirs, what they are sorted to, what a trace is in short, its bytes, the spans of any bytes, and that these fit each other. Nothing is assumed.
-/
import Derived.Test.YthcchfhkeghkhaaMath

namespace Go.Proofs.Ythcchfhkeghkhaa.Plain

/-- which is ahead -/
def lt (a b : Sp) : Bool := if a.s = b.s then decide (a.i < b.i) else decide (a.s < b.s)
def le (a b : Sp) : Bool := !lt b a
theorem lt_iff (a b : Sp) : lt a b = true ↔ (a.s < b.s ∨ a.s = b.s ∧ a.i < b.i) := by
  unfold lt; split <;> simp <;> omega
theorem le_iff (a b : Sp) : le a b = true ↔ (a.s < b.s ∨ a.s = b.s ∧ a.i ≤ b.i) := by
  unfold le; rw [Bool.not_eq_true', Bool.eq_false_iff, ne_eq, lt_iff]; omega
theorem le_trans (a b c : Sp) (h1 : le a b = true) (h2 : le b c = true) : le a c = true := by rw [le_iff] at *; omega
theorem le_total (a b : Sp) : (le a b || le b a) = true := by rw [Bool.or_eq_true, le_iff, le_iff]; omega
theorem lt_le (a b : Sp) (h : lt a b = true) : le a b = true := by rw [lt_iff] at h; rw [le_iff]; omega
theorem le_lt (a b : Sp) (h : le a b = true) (hi : a.i ≠ b.i) : lt a b = true := by rw [le_iff] at h; rw [lt_iff]; omega

/-- a trace's spans, in any order -/
def Free (l : List Sp) : Prop := l ≠ [] ∧ l.length ≤ 64 ∧ (∀ x ∈ l, x.right = true) ∧ (∀ x ∈ l, ∀ y ∈ l, x.t = y.t) ∧ (l.map Sp.i).Nodup
/-- a trace's spans -/
def IsT (l : List Sp) : Prop := Free l ∧ l.Pairwise (fun a b => lt a b = true)
instance (l : List Sp) : Decidable (Free l) := by unfold Free; infer_instance
instance (l : List Sp) : Decidable (IsT l) := by unfold IsT; infer_instance
def isT (l : List Sp) : Bool := decide (IsT l)
theorem isT_iff (l : List Sp) : isT l = true ↔ IsT l := by simp [isT]

theorem free_perm {l m : List Sp} (h : l.Perm m) (hl : Free l) : Free m := by
  obtain ⟨h1, h2, h3, h4, h5⟩ := hl
  refine ⟨?_, by rw [← h.length_eq]; exact h2, fun x hx => h3 x (h.mem_iff.2 hx), fun x hx y hy => h4 x (h.mem_iff.2 hx) y (h.mem_iff.2 hy), (h.map Sp.i).nodup_iff.1 h5⟩
  intro e; subst e; exact h1 h.eq_nil
def srt (l : List Sp) : List Sp := l.mergeSort le
theorem srt_perm (l : List Sp) : (srt l).Perm l := List.mergeSort_perm l le
theorem srt_sorted (l : List Sp) : (srt l).Pairwise (fun a b => le a b = true) := List.pairwise_mergeSort le_trans le_total l
theorem isT_sorted (d : List Sp) (hs : d.Pairwise (fun a b => le a b = true)) : isT d = true ↔ Free d := by
  rw [isT_iff]
  refine ⟨fun h => h.1, fun h => ⟨h, ?_⟩⟩
  have hn := h.2.2.2.2
  rw [List.Nodup, List.pairwise_map] at hn
  exact (hs.and hn).imp fun h => le_lt _ _ h.1 h.2
theorem isT_srt (l : List Sp) : isT (srt l) = true ↔ Free l :=
  (isT_sorted _ (srt_sorted l)).trans ⟨free_perm (srt_perm l), free_perm (srt_perm l).symm⟩
theorem id_inj {l : List Sp} (h : (l.map Sp.i).Nodup) {x y : Sp} (hx : x ∈ l) (hy : y ∈ l) (e : x.i = y.i) : x = y := by
  induction l with
  | nil => cases hx
  | cons a l ih =>
    rw [List.map_cons, List.nodup_cons] at h
    rcases List.mem_cons.1 hx with h1 | h1 <;> rcases List.mem_cons.1 hy with h2 | h2
    · rw [h1, h2]
    · exact absurd (List.mem_map.2 ⟨y, h2, by rw [← e, h1]⟩) h.1
    · exact absurd (List.mem_map.2 ⟨x, h1, by rw [e, h2]⟩) h.1
    · exact ih h.2 h1 h2
theorem uniq {d l : List Sp} (hp : d.Perm l) (hs : d.Pairwise (fun a b => le a b = true)) (hF : Free l) : d = srt l := by
  refine List.Perm.eq_of_pairwise (le := fun a b => le a b = true) ?_ hs (srt_sorted l) (hp.trans (srt_perm l).symm)
  intro a b ha hb h1 h2
  rw [le_iff] at h1 h2
  exact id_inj hF.2.2.2.2 (hp.mem_iff.1 ha) ((srt_perm l).mem_iff.1 hb) (by omega)
/-- what Sort tells: of whatever comes of any sorting -/
def ts (l : List Sp) : List Sp := if isT (srt l) then srt l else []
theorem ts_of {d l : List Sp} (hp : d.Perm l) (hs : d.Pairwise (fun a b => le a b = true)) : isT d = isT (srt l) ∧ (isT d = true → d = ts l) := by
  have h1 : isT d = isT (srt l) := by
    rw [Bool.eq_iff_iff, isT_srt, isT_sorted d hs]
    exact ⟨free_perm hp, free_perm hp.symm⟩
  refine ⟨h1, fun h => ?_⟩
  have h2 : isT (srt l) = true := h1 ▸ h
  unfold ts
  rw [if_pos h2]
  exact uniq hp hs ((isT_srt l).1 h2)
theorem ts_no {l : List Sp} (h : isT (srt l) = false) : ts l = [] := by unfold ts; rw [if_neg (by simp [h])]
theorem ts_yes {l : List Sp} (h : isT (srt l) = true) : ts l = srt l := by unfold ts; rw [if_pos h]
theorem ts_isT {l : List Sp} (h : isT (srt l) = true) : isT (ts l) = true := by rw [ts_yes h]; exact h
theorem ts_len (l : List Sp) : (ts l).length ≤ 64 := by
  by_cases h : isT (srt l) = true
  · rw [ts_yes h]; exact ((isT_iff _).1 h).1.2.1
  · rw [ts_no (by simpa using h)]; simp
theorem ts_perm {l m : List Sp} (h : l.Perm m) : isT (srt l) = isT (srt m) ∧ ts l = ts m := by
  have h1 : isT (srt l) = isT (srt m) := by
    rw [Bool.eq_iff_iff, isT_srt, isT_srt]; exact ⟨free_perm h, free_perm h.symm⟩
  refine ⟨h1, ?_⟩
  by_cases h2 : isT (srt l) = true
  · rw [ts_yes h2, ts_yes (h1 ▸ h2)]
    exact uniq ((srt_perm l).trans h) (srt_sorted l) ((isT_srt m).1 (h1 ▸ h2))
  · have h3 : isT (srt l) = false := by simpa using h2
    rw [ts_no h3, ts_no (h1 ▸ h3)]
theorem isT_nil : isT [] = false := by decide
theorem isT_long {l : List Sp} (h : 64 < l.length) : isT l = false := by
  rw [Bool.eq_false_iff]; intro h1; have := ((isT_iff l).1 h1).1.2.1; omega
theorem isT_empty {l : List Sp} (h : l.length = 0) : isT l = false := by rw [List.eq_nil_of_length_eq_zero h]; exact isT_nil

/-- put into a sorted list ahead of the first that is not ahead of it -/
def ins (x : Sp) (l : List Sp) : List Sp := l.takeWhile (lt · x) ++ x :: l.dropWhile (lt · x)
theorem ins_perm (x : Sp) (l : List Sp) : (ins x l).Perm (l ++ [x]) := by
  unfold ins
  refine List.perm_middle.trans ?_
  rw [List.takeWhile_append_dropWhile]
  exact (List.perm_append_singleton x l).symm
theorem takeWhile_all (p : Sp → Bool) (l : List Sp) : ∀ y ∈ l.takeWhile p, p y = true := by
  induction l with
  | nil => simp
  | cons a l ih =>
    intro y hy
    rw [List.takeWhile_cons] at hy
    split at hy
    · rcases List.mem_cons.1 hy with rfl | hy
      · assumption
      · exact ih y hy
    · cases hy
theorem dropWhile_le (x : Sp) (l : List Sp) (hs : l.Pairwise (fun a b => le a b = true)) : ∀ y ∈ l.dropWhile (lt · x), le x y = true := by
  induction l with
  | nil => simp
  | cons a l ih =>
    rw [List.pairwise_cons] at hs
    intro y hy
    rw [List.dropWhile_cons] at hy
    split at hy
    · exact ih hs.2 y hy
    · rename_i h
      have hxa : le x a = true := by unfold le; simpa using h
      rcases List.mem_cons.1 hy with rfl | hy
      · exact hxa
      · exact le_trans _ _ _ hxa (hs.1 y hy)
theorem ins_sorted (x : Sp) (l : List Sp) (hs : l.Pairwise (fun a b => le a b = true)) : (ins x l).Pairwise (fun a b => le a b = true) := by
  unfold ins
  rw [List.pairwise_append]
  have hd := dropWhile_le x l hs
  have ht := takeWhile_all (lt · x) l
  refine ⟨hs.sublist (List.takeWhile_sublist _), ?_, ?_⟩
  · rw [List.pairwise_cons]
    exact ⟨hd, hs.sublist (List.dropWhile_sublist _)⟩
  · intro a ha b hb
    have h1 := lt_le _ _ (ht a ha)
    rcases List.mem_cons.1 hb with rfl | hb
    · exact h1
    · exact le_trans _ _ _ h1 (hd b hb)

/-- what a trace is, in short -/
structure Br where
  id : Int
  lo : Int
  hi : Int
  many : Nat
  sv : List (List UInt8)
deriving DecidableEq
def Br.zero : Br := ⟨0, 0, 0, 0, []⟩
def top (l : List Sp) : Int := l.foldl (fun a x => max a (x.s + x.d)) 0
/-- the services, each where it comes first -/
def seen (l : List Sp) : List (List UInt8) := l.foldl (fun acc x => if x.sv ∈ acc then acc else acc ++ [x.sv]) []
def svs (l : List Sp) : List (List UInt8) := (seen l).mergeSort fun x y => decide (x ≤ y)
def brief (l : List Sp) : Br := if isT l then ⟨(l.headD Sp.zero).t, (l.headD Sp.zero).s, top l, l.length, svs l⟩ else Br.zero

theorem top_snoc (l : List Sp) (x : Sp) : top (l ++ [x]) = max (top l) (x.s + x.d) := by simp [top]
theorem seen_snoc (l : List Sp) (x : Sp) : seen (l ++ [x]) = if x.sv ∈ seen l then seen l else seen l ++ [x.sv] := by unfold seen; rw [List.foldl_append]; rfl
theorem snoc_ind {P : List Sp → Prop} (h0 : P []) (h1 : ∀ l x, P l → P (l ++ [x])) (l : List Sp) : P l := by
  have : ∀ n (l : List Sp), l.length = n → P l := by
    intro n
    induction n with
    | zero => intro l hl; rw [List.eq_nil_of_length_eq_zero hl]; exact h0
    | succ n ih =>
      intro l hl
      have hne : l ≠ [] := by intro e; subst e; simp at hl
      rw [← List.dropLast_concat_getLast hne]
      exact h1 _ _ (ih _ (by rw [List.length_dropLast]; omega))
  exact this _ l rfl
theorem seen_mem (l : List Sp) (s : List UInt8) : s ∈ seen l ↔ ∃ x ∈ l, x.sv = s := by
  induction l using snoc_ind with
  | h0 => simp [seen]
  | h1 l x ih =>
    rw [seen_snoc]
    split
    · rename_i h
      rw [ih]
      constructor
      · rintro ⟨y, hy, e⟩; exact ⟨y, by simp [hy], e⟩
      · rintro ⟨y, hy, e⟩
        rcases List.mem_append.1 hy with hy | hy
        · exact ⟨y, hy, e⟩
        · rw [List.mem_singleton.1 hy] at e; rw [← e]; exact ih.1 (e ▸ h) |> fun ⟨z, hz, ez⟩ => ⟨z, hz, ez.trans e.symm⟩
    · rw [List.mem_append, ih, List.mem_singleton]
      constructor
      · rintro (⟨y, hy, e⟩ | rfl)
        · exact ⟨y, by simp [hy], e⟩
        · exact ⟨x, by simp, rfl⟩
      · rintro ⟨y, hy, e⟩
        rcases List.mem_append.1 hy with hy | hy
        · exact .inl ⟨y, hy, e⟩
        · rw [List.mem_singleton.1 hy] at e; exact .inr e.symm
theorem seen_nodup (l : List Sp) : (seen l).Nodup := by
  induction l using snoc_ind with
  | h0 => simp [seen]
  | h1 l x ih =>
    rw [seen_snoc]
    split
    · exact ih
    · rename_i h
      rw [List.nodup_append]
      exact ⟨ih, by simp, fun a ha b hb e => h (by rw [List.mem_singleton.1 hb] at e; rwa [e] at ha)⟩
theorem seen_len (l : List Sp) : (seen l).length ≤ l.length := by
  induction l using snoc_ind with
  | h0 => simp [seen]
  | h1 l x ih =>
    rw [seen_snoc]
    split <;> simp <;> omega
theorem seen_sub (l : List Sp) : (seen l).Sublist (l.map Sp.sv) := by
  induction l using snoc_ind with
  | h0 => simp [seen]
  | h1 l x ih =>
    rw [seen_snoc, List.map_append]
    split
    · exact ih.trans (List.sublist_append_left _ _)
    · exact ih.append (List.Sublist.refl _)

/-! texts in order -/
def up (l : List (List UInt8)) : Prop := l.Pairwise (fun a b => a < b)
theorem up_le {l : List (List UInt8)} (h : up l) : l.Pairwise (fun a b => a ≤ b) := h.imp fun h => List.le_of_lt h
theorem up_nodup {l : List (List UInt8)} (h : up l) : l.Nodup := h.imp fun h e => by subst e; exact List.lt_irrefl _ h
theorem up_eq {a b : List (List UInt8)} (ha : up a) (hb : up b) (h : ∀ s, s ∈ a ↔ s ∈ b) : a = b :=
  List.Perm.eq_of_pairwise (le := fun a b => a ≤ b) (fun _ _ _ _ h1 h2 => List.le_antisymm h1 h2) (up_le ha) (up_le hb) ((List.perm_ext_iff_of_nodup (up_nodup ha) (up_nodup hb)).2 h)
theorem svs_mem (l : List Sp) (s : List UInt8) : s ∈ svs l ↔ ∃ x ∈ l, x.sv = s := by
  unfold svs
  rw [(List.mergeSort_perm _ _).mem_iff, seen_mem]
theorem svs_len (l : List Sp) : (svs l).length ≤ l.length := by
  unfold svs
  rw [List.length_mergeSort]
  exact seen_len l
theorem svs_up (l : List Sp) : up (svs l) := by
  have h1 : (svs l).Pairwise (fun a b => decide (a ≤ b) = true) := List.pairwise_mergeSort (fun a b c h1 h2 => by simp only [decide_eq_true_eq] at *; exact List.le_trans h1 h2) (fun a b => by rw [Bool.or_eq_true, decide_eq_true_eq, decide_eq_true_eq]; exact List.le_total a b) _
  have h2 : (svs l).Nodup := (List.mergeSort_perm _ _).nodup_iff.2 (seen_nodup l)
  exact (h1.and h2).imp fun {a b} h => by
    have h3 : a ≤ b := by simpa using h.1
    rcases Decidable.em (a < b) with h4 | h4
    · exact h4
    · exact absurd (List.le_antisymm h3 (List.not_lt.1 h4)) h.2
/-- texts in order, and one more -/
def wth (l : List (List UInt8)) (s : List UInt8) : List (List UInt8) :=
  if (l.dropWhile (fun x => decide (x < s))).head? = some s then l else l.takeWhile (fun x => decide (x < s)) ++ s :: l.dropWhile (fun x => decide (x < s))
theorem tw_lt (s : List UInt8) (l : List (List UInt8)) : ∀ y ∈ l.takeWhile (fun x => decide (x < s)), y < s := by
  induction l with
  | nil => simp
  | cons a l ih =>
    intro y hy
    rw [List.takeWhile_cons] at hy
    split at hy
    · rename_i h
      rcases List.mem_cons.1 hy with rfl | hy
      · simpa using h
      · exact ih y hy
    · cases hy
theorem dw_gt (s : List UInt8) (l : List (List UInt8)) (hs : up l) (hh : (l.dropWhile (fun x => decide (x < s))).head? ≠ some s) : ∀ y ∈ l.dropWhile (fun x => decide (x < s)), s < y := by
  induction l with
  | nil => simp
  | cons a l ih =>
    unfold up at hs
    rw [List.pairwise_cons] at hs
    rw [List.dropWhile_cons] at hh ⊢
    split at hh
    · rename_i h
      rw [if_pos h]
      exact ih hs.2 hh
    · rename_i h
      rw [if_neg h]
      have h1 : ¬ a < s := by simpa using h
      have h2 : s < a := by
        rcases Decidable.em (s < a) with h3 | h3
        · exact h3
        · exact absurd (by rw [List.head?_cons, List.le_antisymm (List.not_lt.1 h3) (List.not_lt.1 h1)]) hh
      intro y hy
      rcases List.mem_cons.1 hy with rfl | hy
      · exact h2
      · exact List.lt_trans h2 (hs.1 y hy)
theorem wth_up (l : List (List UInt8)) (s : List UInt8) (hs : up l) : up (wth l s) := by
  unfold wth
  split
  · exact hs
  · rename_i h
    have h1 := dw_gt s l hs h
    have h2 := tw_lt s l
    unfold up at hs ⊢
    rw [List.pairwise_append]
    refine ⟨hs.sublist (List.takeWhile_sublist _), ?_, ?_⟩
    · rw [List.pairwise_cons]; exact ⟨h1, hs.sublist (List.dropWhile_sublist _)⟩
    · intro a ha b hb
      rcases List.mem_cons.1 hb with rfl | hb
      · exact h2 a ha
      · exact List.lt_trans (h2 a ha) (h1 b hb)
theorem wth_mem (l : List (List UInt8)) (s y : List UInt8) : y ∈ wth l s ↔ y ∈ l ∨ y = s := by
  unfold wth
  split
  · rename_i h
    constructor
    · exact .inl
    · rintro (h1 | rfl)
      · exact h1
      · exact (List.dropWhile_sublist _).subset (List.mem_of_mem_head? h)
  · have : ∀ z, z ∈ l ↔ z ∈ l.takeWhile (fun x => decide (x < s)) ∨ z ∈ l.dropWhile (fun x => decide (x < s)) := fun z => by
      rw [← List.mem_append, List.takeWhile_append_dropWhile]
    rw [List.mem_append, List.mem_cons, this y]
    constructor
    · rintro (h | h | h)
      · exact .inl (.inl h)
      · exact .inr h
      · exact .inl (.inr h)
    · rintro ((h | h) | h)
      · exact .inl h
      · exact .inr (.inr h)
      · exact .inr (.inl h)
theorem svs_snoc (l : List Sp) (x : Sp) : wth (svs l) x.sv = svs (l ++ [x]) := by
  refine up_eq (wth_up _ _ (svs_up l)) (svs_up _) fun s => ?_
  rw [wth_mem, svs_mem, svs_mem]
  constructor
  · rintro (⟨y, hy, e⟩ | rfl)
    · exact ⟨y, by simp [hy], e⟩
    · exact ⟨x, by simp, rfl⟩
  · rintro ⟨y, hy, e⟩
    rcases List.mem_append.1 hy with hy | hy
    · exact .inl ⟨y, hy, e⟩
    · rw [List.mem_singleton.1 hy] at e; exact .inr e.symm

theorem top_nonneg (l : List Sp) : 0 ≤ top l := by
  induction l using snoc_ind with
  | h0 => simp [top]
  | h1 l x ih => rw [top_snoc]; omega
theorem top_ge (l : List Sp) : ∀ x ∈ l, x.s + x.d ≤ top l := by
  induction l using snoc_ind with
  | h0 => simp
  | h1 l x ih =>
    intro y hy
    rw [top_snoc]
    rcases List.mem_append.1 hy with hy | hy
    · have := ih y hy; omega
    · rw [List.mem_singleton.1 hy]; omega
theorem top_mem (l : List Sp) (hl : l ≠ []) (h0 : ∀ x ∈ l, 0 ≤ x.s + x.d) : ∃ x ∈ l, x.s + x.d = top l := by
  have : top l = 0 ∨ ∃ x ∈ l, x.s + x.d = top l := by
    induction l using snoc_ind with
    | h0 => exact .inl rfl
    | h1 l x ih =>
      rw [top_snoc]
      rcases Int.le_total (x.s + x.d) (top l) with h | h
      · rw [Int.max_eq_left h]
        by_cases hl2 : l = []
        · subst hl2; exact .inl rfl
        rcases ih hl2 (fun y hy => h0 y (by simp [hy])) with h1 | ⟨y, hy, e⟩
        · exact .inl h1
        · exact .inr ⟨y, by simp [hy], e⟩
      · rw [Int.max_eq_right h]; exact .inr ⟨x, by simp, rfl⟩
  rcases this with h | h
  · obtain ⟨x, r, rfl⟩ := List.exists_cons_of_ne_nil hl
    have h1 := top_ge (x :: r) x (by simp)
    have h2 := h0 x (by simp)
    exact ⟨x, by simp, by omega⟩
  · exact h
theorem top_le {l : List Sp} {m : Int} (h0 : 0 ≤ m) (h : ∀ x ∈ l, x.s + x.d ≤ m) : top l ≤ m := by
  induction l using snoc_ind with
  | h0 => exact h0
  | h1 l x ih =>
    rw [top_snoc]
    have := ih (fun y hy => h y (by simp [hy]))
    have := h x (by simp)
    omega
theorem head_le {l : List Sp} (h : IsT l) : ∀ x ∈ l, (l.headD Sp.zero).s ≤ x.s := by
  obtain ⟨y, r, rfl⟩ := List.exists_cons_of_ne_nil h.1.1
  have h1 := h.2
  rw [List.pairwise_cons] at h1
  intro x hx
  show y.s ≤ x.s
  rcases List.mem_cons.1 hx with rfl | hx
  · exact Int.le_refl _
  · have := h1.1 x hx; rw [lt_iff] at this; omega
theorem head_mem {l : List Sp} (h : l ≠ []) : l.headD Sp.zero ∈ l := by
  obtain ⟨y, r, rfl⟩ := List.exists_cons_of_ne_nil h; simp
theorem brief_yes {l : List Sp} (h : isT l = true) : brief l = ⟨(l.headD Sp.zero).t, (l.headD Sp.zero).s, top l, l.length, svs l⟩ := by unfold brief; rw [if_pos h]
theorem brief_no {l : List Sp} (h : isT l = false) : brief l = Br.zero := by unfold brief; rw [if_neg (by simp [h])]

/-! bytes -/
def tput (l : List Sp) : List UInt8 := if isT l then put l.length ++ wire l else []
/-- of the spans that were read: the trace's -/
def tfin (r : List Sp × Nat × Nat) : List Sp × Nat := if r.2.2 ≠ 0 then ([], r.2.2) else if isT r.1 then (r.1, 0) else ([], 12)
def tget (b : List UInt8) : List Sp × Nat :=
  if (get b).2.2 ≠ 0 then ([], (get b).2.2) else if (get b).1 < 1 ∨ 64 < (get b).1 then ([], 12) else tfin (rds b (get b).1 (get b).2.1 [])

theorem tput_yes {l : List Sp} (h : isT l = true) : tput l = put l.length ++ wire l := by unfold tput; rw [if_pos h]
theorem tput_no {l : List Sp} (h : isT l = false) : tput l = [] := by unfold tput; rw [if_neg (by simp [h])]
theorem isT_len {l : List Sp} (h : isT l = true) : 1 ≤ l.length ∧ l.length ≤ 64 := by
  have h1 := ((isT_iff l).1 h).1
  refine ⟨?_, h1.2.1⟩
  rcases l with _ | ⟨x, r⟩
  · exact absurd rfl h1.1
  · simp
theorem isT_right {l : List Sp} (h : isT l = true) : ∀ x ∈ l, x.right = true := ((isT_iff l).1 h).1.2.2.1
theorem tput_one {l : List Sp} (h : isT l = true) : tput l = UInt8.ofNat l.length :: wire l := by
  rw [tput_yes h, put_small _ (by have := (isT_len h).2; omega)]; rfl
theorem tput_len (l : List Sp) : (tput l).length ≤ 6500 := by
  by_cases h : isT l = true
  · rw [tput_one h, List.length_cons]; have := wire_len l; have := (isT_len h).2; omega
  · rw [tput_no (by simpa using h)]; simp
theorem tput_pos (l : List Sp) : 0 < (tput l).length ↔ isT l = true := by
  by_cases h : isT l = true
  · simp only [h, iff_true]; rw [tput_one h]; simp
  · rw [tput_no (by simpa using h)]; simp [h]
theorem tget_tput {l : List Sp} (h : isT l = true) : tget (tput l) = (l, 0) := by
  have hl := isT_len h
  unfold tget
  rw [tput_one h, get_one _ (by omega)]
  simp only [ne_eq, not_true, if_false]
  rw [if_neg (by omega), rds_wire _ l 1 [] (by simp) (isT_right h) rfl]
  unfold tfin
  simp [h]
theorem tfin_none (r : List Sp × Nat × Nat) (h : (tfin r).2 ≠ 0) : (tfin r).1 = [] := by
  unfold tfin at h ⊢
  split at h
  · rename_i h1; rw [if_pos h1]
  · rename_i h1
    rw [if_neg h1]
    split at h
    · exact absurd rfl h
    · rename_i h2; rw [if_neg h2]
theorem tget_none (b : List UInt8) (h : (tget b).2 ≠ 0) : (tget b).1 = [] := by
  unfold tget at h ⊢
  split at h
  · rename_i h1; rw [if_pos h1]
  · rename_i h1
    rw [if_neg h1]
    split at h
    · rename_i h2; rw [if_pos h2]
    · rename_i h2; rw [if_neg h2]; exact tfin_none _ h
theorem tget_back {b : List UInt8} {l : List Sp} (h : tget b = (l, 0)) : isT l = true ∧ tput l = b := by
  unfold tget at h
  split at h
  · rename_i h1; simp only [Prod.mk.injEq] at h; exact absurd h.2 h1
  rename_i h1
  split at h
  · simp at h
  rename_i h2
  rcases hg : get b with ⟨k, j, c⟩
  rw [hg] at h h1 h2
  simp only [ne_eq, Decidable.not_not] at h h1 h2
  subst h1
  obtain ⟨b1, b2, b3, b4⟩ := get_back _ _ _ hg
  rcases hr : rds b k j [] with ⟨m, p, c⟩
  rw [hr] at h
  unfold tfin at h
  split at h
  · rename_i h3; simp only [Prod.mk.injEq] at h; exact absurd h.2 h3
  rename_i h3
  split at h
  rotate_left
  · simp at h
  rename_i h4
  simp only [ne_eq, Decidable.not_not, Prod.mk.injEq, and_true] at h h3 h4
  subst h3 h
  obtain ⟨m', e1, e2, e3, e4⟩ := rds_back b k j [] m p b3 hr
  rw [List.nil_append] at e1
  subst e1
  refine ⟨h4, ?_⟩
  rw [tput_yes h4, e2, ← e4, put_nat k (by omega) (by omega)]
  rw [show (k : Int).toNat = k by omega, ← b4, List.take_append_drop]
theorem get_nil : get [] = (0, 0, 11) := rfl
theorem rds_cut (x : List UInt8) (m : List Sp) : ∀ a acc j, a ≤ x.length → (∀ s ∈ m, s.right = true) → j < (wire m).length → x.drop a = (wire m).take j → (rds x m.length a acc).2.2 = 11 := by
  induction m with
  | nil => intro a acc j _ _ hj; simp [wire] at hj
  | cons s m ih =>
    intro a acc j ha hr hj h
    rw [wire_cons] at h hj
    rw [List.length_cons]
    unfold rds
    rcases Nat.lt_or_ge j s.bytes.length with hlt | hge
    · rw [List.take_append_of_le_length (by omega)] at h
      rw [h, s.get_cut j (hr s (by simp)) hlt]
      simp
    · rw [List.take_append, List.take_of_length_le hge] at h
      have hc := s.get_bytes ((wire m).take (j - s.bytes.length)) (hr s (by simp))
      rw [h, hc]
      simp only [ne_eq, not_true, if_false]
      have hl : (x.drop a).length = s.bytes.length + ((wire m).take (j - s.bytes.length)).length := by rw [h, List.length_append]
      rw [List.length_drop] at hl
      rw [List.length_append] at hj
      exact ih _ _ (j - s.bytes.length) (by omega) (fun y hy => hr y (by simp [hy])) (by omega) (by rw [← List.drop_drop, h, List.drop_left])
theorem rds_more (x : List UInt8) (m : List Sp) (c : UInt8) : ∀ a acc, a ≤ x.length → (∀ s ∈ m, s.right = true) → x.drop a = wire m ++ [c] → (rds x m.length a acc).2.2 = 12 := by
  induction m with
  | nil =>
    intro a acc ha _ h
    have h1 : (x.drop a).length = 1 := by rw [h]; rfl
    rw [List.length_drop] at h1
    rw [List.length_nil]
    unfold rds
    rw [if_pos (by omega)]
  | cons s m ih =>
    intro a acc ha hr h
    rw [wire_cons, List.append_assoc] at h
    have hc := s.get_bytes (wire m ++ [c]) (hr s (by simp))
    have hl : (x.drop a).length = s.bytes.length + (wire m ++ [c]).length := by rw [h, List.length_append]
    rw [List.length_drop] at hl
    rw [List.length_cons]
    unfold rds
    rw [h, hc]
    simp only [ne_eq, not_true, if_false]
    exact ih _ _ (by omega) (fun y hy => hr y (by simp [hy])) (by rw [← List.drop_drop, h, List.drop_left])
theorem tget_cut {l : List Sp} (h : isT l = true) (j : Nat) (hj : j < (tput l).length) : (tget ((tput l).take j)).2 = 11 := by
  have hl := isT_len h
  rw [tput_one h] at hj ⊢
  rcases j with _ | j
  · rfl
  rw [List.length_cons] at hj
  rw [List.take_succ_cons]
  unfold tget
  rw [get_one _ (by omega)]
  simp only [ne_eq, not_true, if_false]
  rw [if_neg (by omega)]
  have h1 := rds_cut (UInt8.ofNat l.length :: (wire l).take j) l 1 [] j (by simp) (isT_right h) (by omega) rfl
  unfold tfin
  rw [if_pos (by rw [h1]; decide)]
  exact h1
theorem tget_more {l : List Sp} (h : isT l = true) (c : UInt8) : (tget (tput l ++ [c])).2 = 12 := by
  have hl := isT_len h
  rw [tput_one h, List.cons_append]
  unfold tget
  rw [get_one _ (by omega)]
  simp only [ne_eq, not_true, if_false]
  rw [if_neg (by omega)]
  have h1 := rds_more (UInt8.ofNat l.length :: (wire l ++ [c])) l c 1 [] (by simp) (isT_right h) rfl
  unfold tfin
  rw [if_pos (by rw [h1]; decide)]
  exact h1
theorem tget_code (b : List UInt8) : (tget b).2 = 0 ∨ (tget b).2 = 11 ∨ (tget b).2 = 12 := by
  unfold tget
  have h1 := code_cases b
  split
  · exact h1
  · split
    · exact .inr (.inr rfl)
    · unfold tfin
      split
      · exact rds_code _ _ _ _
      · split
        · exact .inl rfl
        · exact .inr (.inr rfl)
end Go.Proofs.Ythcchfhkeghkhaa.Plain
