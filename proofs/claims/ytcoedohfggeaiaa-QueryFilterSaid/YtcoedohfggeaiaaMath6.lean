/-
  Plain mathematics of layer 6, with no program in it: merging and sorting that keep alike ones in their order, the library's way of doing so, items, which are to go, and what the laws say of that. Nothing is assumed.
-/
import Derived.Sort.Statements
import Derived.Sort.Defs

namespace Go.Proofs.Ytcoedohfggeaiaa.Plain
open Go.Sort

section
variable {α : Type} (lt : α → α → Bool)

/-- two rows merged: of two alike ones the first row's is ahead -/
def mrg : List α → List α → List α
  | [], B => B
  | a :: A, [] => a :: A
  | a :: A, b :: B => if lt b a then b :: mrg (a :: A) B else a :: mrg A (b :: B)
termination_by A B => A.length + B.length

/-- sorted, alike ones in their order -/
def srt (l : List α) : List α := l.foldl (fun s x => mrg lt s [x]) []
/-- in order -/
def Srt (l : List α) : Prop := l.Pairwise (fun a b => lt b a = false)

variable {lt}
theorem mrg_nil_left (B : List α) : mrg lt [] B = B := by rw [mrg]
theorem mrg_nil (A : List α) : mrg lt A [] = A := by cases A <;> rw [mrg]
theorem mrg_yes {a b : α} {A B : List α} (h : lt b a = true) : mrg lt (a :: A) (b :: B) = b :: mrg lt (a :: A) B := by rw [mrg, if_pos h]
theorem mrg_no {a b : α} {A B : List α} (h : lt b a = false) : mrg lt (a :: A) (b :: B) = a :: mrg lt A (b :: B) := by rw [mrg, if_neg (by simp [h])]

theorem mrg_split : ∀ (A1 B1 A2 B2 : List α), (∀ b ∈ B1, ∀ a ∈ A2, lt b a = true) → (∀ a ∈ A1, ∀ b ∈ B2, lt b a = false) → mrg lt (A1 ++ A2) (B1 ++ B2) = mrg lt A1 B1 ++ mrg lt A2 B2
  | [], [], A2, B2, _, _ => by simp [mrg_nil_left]
  | [], b :: B1, A2, B2, h1, h2 => by
    have ih := mrg_split [] B1 A2 B2 (fun x hx => h1 x (List.mem_cons_of_mem _ hx)) h2
    rw [mrg_nil_left, List.nil_append] at *
    rcases A2 with _ | ⟨a, A2⟩
    · simp [mrg_nil_left]
    · rw [List.cons_append, mrg_yes (h1 b (List.mem_cons_self ..) a (List.mem_cons_self ..)), ih, List.cons_append]
  | a :: A1, [], A2, B2, h1, h2 => by
    have ih := mrg_split A1 [] A2 B2 h1 (fun x hx => h2 x (List.mem_cons_of_mem _ hx))
    rw [mrg_nil, List.nil_append] at *
    rcases B2 with _ | ⟨b, B2⟩
    · simp [mrg_nil]
    · rw [List.cons_append, mrg_no (h2 a (List.mem_cons_self ..) b (List.mem_cons_self ..)), ih, List.cons_append]
  | a :: A1, b :: B1, A2, B2, h1, h2 => by
    simp only [List.cons_append]
    cases h : lt b a with
    | true =>
      have ih := mrg_split (a :: A1) B1 A2 B2 (fun x hx => h1 x (List.mem_cons_of_mem _ hx)) h2
      rw [mrg_yes h, mrg_yes h, List.cons_append, ← ih, List.cons_append]
    | false =>
      have ih := mrg_split A1 (b :: B1) A2 B2 h1 (fun x hx => h2 x (List.mem_cons_of_mem _ hx))
      rw [mrg_no h, mrg_no h, List.cons_append, ← ih, List.cons_append]
termination_by A1 B1 => A1.length + B1.length

theorem mrg_assoc (hO : SWO lt) : ∀ (A B C : List α), mrg lt (mrg lt A B) C = mrg lt A (mrg lt B C)
  | [], B, C => by rw [mrg_nil_left, mrg_nil_left]
  | a :: A, [], C => by rw [mrg_nil, mrg_nil_left]
  | a :: A, b :: B, [] => by rw [mrg_nil, mrg_nil]
  | a :: A, b :: B, c :: C => by
    cases hba : lt b a with
    | true =>
      cases hcb : lt c b with
      | true =>
        have hca := hO.trans _ _ _ hcb hba
        have ih := mrg_assoc hO (a :: A) (b :: B) C
        rw [mrg_yes hba] at ih
        rw [mrg_yes hba, mrg_yes hcb, mrg_yes hcb, mrg_yes hca, ih]
      | false =>
        have ih := mrg_assoc hO (a :: A) B (c :: C)
        rw [mrg_yes hba, mrg_no hcb, mrg_no hcb, mrg_yes hba, ih]
    | false =>
      cases hca : lt c a with
      | true =>
        have hcb : lt c b = true := by
          cases h : lt c b with
          | true => rfl
          | false => have := hO.ntrans _ _ _ h hba; rw [this] at hca; cases hca
        have ih := mrg_assoc hO (a :: A) (b :: B) C
        rw [mrg_no hba] at ih
        rw [mrg_no hba, mrg_yes hca, mrg_yes hcb, mrg_yes hca, ih]
      | false =>
        have ih := mrg_assoc hO A (b :: B) (c :: C)
        rw [mrg_no hba, mrg_no hca, ih]
        cases hcb : lt c b with
        | true => rw [mrg_yes hcb, mrg_no hca]
        | false => rw [mrg_no hcb, mrg_no hba]
termination_by A B C => A.length + B.length + C.length

theorem srt_nil : srt lt ([] : List α) = [] := rfl
theorem srt_snoc (l : List α) (x : α) : srt lt (l ++ [x]) = mrg lt (srt lt l) [x] := by simp [srt]
theorem srt_one (x : α) : srt lt [x] = [x] := by simp [srt, mrg_nil_left]

theorem snocInd {p : List α → Prop} (h0 : p []) (hs : ∀ l x, p l → p (l ++ [x])) : ∀ l, p l := by
  intro l
  have : ∀ n (l : List α), l.length = n → p l := by
    intro n
    induction n with
    | zero => intro l h; rw [List.eq_nil_of_length_eq_zero h]; exact h0
    | succ n ih =>
      intro l h
      have hne : l ≠ [] := by intro e; rw [e] at h; cases h
      rw [← List.dropLast_concat_getLast hne]
      exact hs _ _ (ih _ (by simp [h]))
  exact this _ l rfl

theorem srt_append (hO : SWO lt) (x y : List α) : srt lt (x ++ y) = mrg lt (srt lt x) (srt lt y) := by
  induction y using snocInd with
  | h0 => rw [List.append_nil, srt_nil, mrg_nil]
  | hs y b ih => rw [← List.append_assoc, srt_snoc, srt_snoc, ih, mrg_assoc hO]

theorem ins_eq {C1 C2 : List α} {x : α} (h1 : ∀ c ∈ C1, lt x c = false) (h2 : ∀ c ∈ C2, lt x c = true) : mrg lt (C1 ++ C2) [x] = C1 ++ x :: C2 := by
  have e1 := mrg_split (lt := lt) C1 [] C2 [x] (by simp) (by simpa using h1)
  have e2 := mrg_split (lt := lt) [] [x] C2 [] (by simpa using h2) (by simp)
  simp only [List.nil_append, mrg_nil, mrg_nil_left, List.append_nil] at e1 e2
  rw [e1, e2]
  rfl
theorem ins_front {B1 B2 : List α} {x : α} (h1 : ∀ b ∈ B1, lt b x = true) (h2 : ∀ b ∈ B2, lt b x = false) : mrg lt [x] (B1 ++ B2) = B1 ++ x :: B2 := by
  have e1 := mrg_split (lt := lt) [] B1 [x] B2 (by simpa using h1) (by simp)
  have e2 := mrg_split (lt := lt) [x] [] [] B2 (by simp) (by simpa using h2)
  simp only [List.nil_append, mrg_nil, mrg_nil_left, List.append_nil] at e1 e2
  rw [e1, e2]
  rfl

theorem ins_split (hO : SWO lt) (x : α) : ∀ (C : List α), Srt lt C → ∃ C1 C2, C = C1 ++ C2 ∧ (∀ c ∈ C1, lt x c = false) ∧ (∀ c ∈ C2, lt x c = true)
  | [], _ => ⟨[], [], rfl, by simp, by simp⟩
  | c :: C, h => by
    obtain ⟨h1, h2⟩ := List.pairwise_cons.1 h
    cases hx : lt x c with
    | true =>
      refine ⟨[], c :: C, rfl, by simp, fun d hd => ?_⟩
      rcases List.mem_cons.1 hd with rfl | hd
      · exact hx
      · cases hxd : lt x d with
        | true => rfl
        | false => have := hO.ntrans _ _ _ hxd (h1 d hd); rw [this] at hx; cases hx
    | false =>
      obtain ⟨C1, C2, rfl, g1, g2⟩ := ins_split hO x C h2
      refine ⟨c :: C1, C2, rfl, fun d hd => ?_, g2⟩
      rcases List.mem_cons.1 hd with rfl | hd
      · exact hx
      · exact g1 d hd

theorem mrg_perm : ∀ (A B : List α), (mrg lt A B).Perm (A ++ B)
  | [], B => by rw [mrg_nil_left]; exact .refl _
  | a :: A, [] => by rw [mrg_nil, List.append_nil]
  | a :: A, b :: B => by
    cases h : lt b a with
    | true => rw [mrg_yes h]; exact ((mrg_perm (a :: A) B).cons b).trans (List.perm_middle (l₁ := a :: A)).symm
    | false => rw [mrg_no h]; exact (mrg_perm A (b :: B)).cons a
termination_by A B => A.length + B.length
theorem srt_perm (l : List α) : (srt lt l).Perm l := by
  induction l using snocInd with
  | h0 => exact .refl _
  | hs l x ih => rw [srt_snoc]; exact (mrg_perm _ _).trans (ih.append_right _)
theorem srt_length (l : List α) : (srt lt l).length = l.length := (srt_perm l).length_eq

theorem srt_sorted (hO : SWO lt) (l : List α) : Srt lt (srt lt l) := by
  induction l using snocInd with
  | h0 => exact List.Pairwise.nil
  | hs l x ih =>
    rw [srt_snoc]
    obtain ⟨C1, C2, e, h1, h2⟩ := ins_split hO x _ ih
    rw [e] at ih ⊢
    rw [ins_eq h1 h2]
    unfold Srt at ih ⊢
    rw [List.pairwise_append] at ih ⊢
    obtain ⟨g1, g2, g3⟩ := ih
    refine ⟨g1, List.pairwise_cons.2 ⟨fun d hd => ?_, g2⟩, fun c hc d hd => ?_⟩
    · cases hdx : lt d x with
      | false => rfl
      | true => have := hO.trans _ _ _ (h2 d hd) hdx; rw [hO.irrefl] at this; cases this
    · rcases List.mem_cons.1 hd with rfl | hd
      · exact h1 c hc
      · exact g3 c hc d hd

theorem srt_filter (hO : SWO lt) (p : α → Bool) (l : List α) : (srt lt l).filter p = srt lt (l.filter p) := by
  induction l using snocInd with
  | h0 => rfl
  | hs l x ih =>
    rw [srt_snoc, List.filter_append]
    obtain ⟨C1, C2, e, h1, h2⟩ := ins_split hO x _ (srt_sorted hO l)
    rw [e] at ih ⊢
    rw [ins_eq h1 h2, List.filter_append, List.filter_cons, List.filter_cons, List.filter_nil]
    rw [List.filter_append] at ih
    cases hp : p x with
    | false => rw [if_neg (by simp), if_neg (by simp), List.append_nil]; exact ih
    | true =>
      rw [if_pos rfl, if_pos rfl, srt_snoc, ← ih, ins_eq]
      · intro c hc; exact h1 c (List.mem_filter.1 hc).1
      · intro c hc; exact h2 c (List.mem_filter.1 hc).1

/-! runs -/
/-- each so many of them sorted -/
def runs (lt : α → α → Bool) (s : Nat) (L : List α) : List α :=
  if _h : s = 0 ∨ L.length ≤ s then srt lt L else srt lt (L.take s) ++ runs lt s (L.drop s)
termination_by L.length
decreasing_by simp only [List.length_drop]; omega
theorem runs_few {s : Nat} {L : List α} (h : L.length ≤ s) : runs lt s L = srt lt L := by rw [runs, dif_pos (Or.inr h)]
theorem runs_cut {s : Nat} {L : List α} (h0 : 0 < s) (_h : s ≤ L.length) : runs lt s L = srt lt (L.take s) ++ runs lt s (L.drop s) := by
  rcases Nat.lt_or_ge s L.length with h1 | h1
  · rw [runs, dif_neg (by omega)]
  · have e : L.take s = L := List.take_of_length_le h1
    have e2 : L.drop s = [] := List.drop_eq_nil_of_le h1
    rw [e, e2, runs_few h1, runs_few (by simp), srt_nil, List.append_nil]
theorem runs_length (s : Nat) (L : List α) : (runs lt s L).length = L.length := by
  have : ∀ n (L : List α), L.length ≤ n → (runs lt s L).length = L.length := by
    intro n
    induction n with
    | zero => intro L _; rw [runs_few (by omega), srt_length]
    | succ n ih =>
      intro L _
      by_cases h0 : s = 0 ∨ L.length ≤ s
      · rw [runs, dif_pos h0, srt_length]
      · rw [runs, dif_neg h0, List.length_append, srt_length, ih _ (by simp only [List.length_drop]; omega), List.length_take, List.length_drop]; omega
  exact this _ L (Nat.le_refl _)
theorem runs_two {s : Nat} {L : List α} (h0 : 0 < s) (h : s + s ≤ L.length) : runs lt s L = srt lt (L.take s) ++ (srt lt ((L.drop s).take s) ++ runs lt s (L.drop (s + s))) := by
  rw [runs_cut h0 (by omega), runs_cut (L := L.drop s) h0 (by simp; omega), List.drop_drop]
theorem runs_more (hO : SWO lt) {s : Nat} {L : List α} (h0 : 0 < s) (h : s + s ≤ L.length) : runs lt (s + s) L = mrg lt (srt lt (L.take s)) (srt lt ((L.drop s).take s)) ++ runs lt (s + s) (L.drop (s + s)) := by
  rw [runs_cut (by omega) h, ← srt_append hO]
  congr 2
  rw [List.take_add]
theorem runs_end (hO : SWO lt) {s : Nat} {L : List α} (h0 : 0 < s) (h1 : s < L.length) (h2 : L.length < s + s) : runs lt s L = srt lt (L.take s) ++ srt lt (L.drop s) ∧ runs lt (s + s) L = mrg lt (srt lt (L.take s)) (srt lt (L.drop s)) := by
  constructor
  · rw [runs_cut h0 (by omega), runs_few (L := L.drop s) (by simp; omega)]
  · rw [runs_few (by omega), ← srt_append hO, List.take_append_drop]
end

/-! rows as arrays -/
section
variable {α : Type} [Inhabited α]
theorem at_list {d : Array α} {P R : List α} {x : α} (h : d.toList = P ++ x :: R) : d[P.length]! = x := by
  have hl : d.size = P.length + (R.length + 1) := by rw [← Array.length_toList, h]; simp
  rw [getElem!_pos d P.length (by omega), ← Array.getElem_toList]
  simp [h]
theorem swp_list {d : Array α} {P Q R : List α} {x y : α} (h : d.toList = P ++ x :: (Q ++ y :: R)) : (swp d P.length (P.length + 1 + Q.length)).toList = P ++ y :: (Q ++ x :: R) := by
  have h1 := at_list h
  have h2 : d[P.length + 1 + Q.length]! = y := by
    have := at_list (d := d) (P := P ++ x :: Q) (R := R) (x := y) (by rw [h]; simp)
    rw [← this]; congr 1; simp; omega
  unfold swp
  rw [h1, h2, Array.toList_setIfInBounds, Array.toList_setIfInBounds, h]
  rw [List.set_append_right _ _ (Nat.le_refl _), Nat.sub_self, List.set_cons_zero, List.set_append_right _ _ (by omega)]
  rw [show P.length + 1 + Q.length - P.length = Q.length + 1 by omega, List.set_cons_succ, List.set_append_right _ _ (Nat.le_refl _), Nat.sub_self, List.set_cons_zero]
theorem swp_list' {d : Array α} {P Q R : List α} {x y : α} (h : d.toList = P ++ x :: (Q ++ y :: R)) : (swp d (P.length + 1 + Q.length) P.length).toList = P ++ y :: (Q ++ x :: R) := by
  rw [← swp_list h]
  unfold swp
  rw [Array.setIfInBounds_comm _ _ (by omega)]

variable {lt : α → α → Bool}
theorem insInner_list (hO : SWO lt) (pre : List α) (x : α) (C : List α) : ∀ (d : Array α) (Q : List α), d.toList = pre ++ (C ++ x :: Q) → Srt lt C → (insInner lt pre.length (pre.length + C.length) d).toList = pre ++ (mrg lt C [x] ++ Q) := by
  induction C using snocInd with
  | h0 =>
    intro d Q h _
    rw [mrg_nil_left]
    simp only [List.length_nil, Nat.add_zero]
    have e : insInner lt pre.length pre.length d = d := by
      cases hp : pre.length with
      | zero => rfl
      | succ n => rw [insInner, if_neg (by simp)]
    rw [e, h]; rfl
  | hs C c ih =>
    intro d Q h hS
    have hC : Srt lt C := (List.pairwise_append.1 hS).1
    have hc : ∀ a ∈ C, lt c a = false := fun a ha => (List.pairwise_append.1 hS).2.2 a ha c (by simp)
    have e0 : pre.length + (C ++ [c]).length = (pre.length + C.length) + 1 := by simp; omega
    have hx : d[pre.length + C.length + 1]! = x := by
      have := at_list (d := d) (P := pre ++ (C ++ [c])) (R := Q) (x := x) (by rw [h]; simp)
      rw [← this]; congr 1; simp; omega
    have hcc : d[pre.length + C.length]! = c := by
      have := at_list (d := d) (P := pre ++ C) (R := x :: Q) (x := c) (by rw [h]; simp)
      rw [← this]; congr 1; simp
    rw [e0, insInner, hx, hcc]
    cases hl : lt x c with
    | true =>
      rw [if_pos (by simp; omega)]
      have hsw := swp_list' (d := d) (P := pre ++ C) (Q := []) (R := Q) (x := c) (y := x) (by rw [h]; simp)
      simp only [List.length_append, List.length_nil, Nat.add_zero, List.nil_append] at hsw
      have := ih _ (c :: Q) (by rw [hsw]; simp) hC
      rw [this]
      have e := mrg_split (lt := lt) C [x] [c] [] (by simpa using hl) (by simp)
      simp only [List.append_nil, mrg_nil] at e
      rw [e]; simp
    | false =>
      rw [if_neg (by simp)]
      have e := ins_eq (lt := lt) (C1 := C ++ [c]) (C2 := []) (x := x) (fun a ha => by
        rcases List.mem_append.1 ha with ha | ha
        · exact hO.ntrans _ _ _ hl (hc a ha)
        · simp at ha; rw [ha]; exact hl) (by simp)
      rw [List.append_nil] at e
      rw [e, h]; simp
theorem insOuter_list (hO : SWO lt) (pre X post : List α) : ∀ (m t : Nat) (d : Array α), X.length - t ≤ m → d.toList = pre ++ (srt lt (X.take t) ++ (X.drop t ++ post)) → (insOuter lt pre.length (pre.length + X.length) (pre.length + t) d).toList = pre ++ (srt lt X ++ post) := by
  intro m
  induction m with
  | zero =>
    intro t d ht h
    rw [insOuter, if_neg (by omega), h, List.take_of_length_le (by omega), List.drop_eq_nil_of_le (by omega), List.nil_append]
  | succ m ih =>
    intro t d ht h
    by_cases hlt : t < X.length
    · rw [insOuter, if_pos (by omega)]
      have hd : X.drop t = X[t] :: X.drop (t + 1) := by rw [List.drop_eq_getElem_cons hlt]
      have hin := insInner_list hO pre X[t] (srt lt (X.take t)) d (X.drop (t + 1) ++ post) (by rw [h, hd]; rfl) (srt_sorted hO _)
      rw [srt_length, List.length_take, Nat.min_eq_left (by omega)] at hin
      rw [Nat.add_assoc]
      refine ih (t + 1) _ (by omega) ?_
      rw [hin, List.take_succ_eq_append_getElem hlt, srt_snoc]
    · rw [insOuter, if_neg (by omega), h, List.take_of_length_le (by omega), List.drop_eq_nil_of_le (by omega), List.nil_append]
theorem insertionSort_list (hO : SWO lt) (pre X post : List α) (d : Array α) (h : d.toList = pre ++ (X ++ post)) : (insertionSort lt d pre.length (pre.length + X.length)).toList = pre ++ (srt lt X ++ post) := by
  unfold insertionSort
  refine insOuter_list hO pre X post _ 1 d (Nat.le_refl _) ?_
  rw [h]
  rcases X with _ | ⟨x, X⟩
  · rfl
  · rw [List.take_succ_cons, List.take_zero, srt_one]; rfl

theorem swap_step {dk : Array α} {pre X Y mid post : List α} {i n p q : Nat} (h : dk.toList = pre ++ (Y.take i ++ (X.drop i ++ (mid ++ (X.take i ++ (Y.drop i ++ post)))))) (hX : X.length = n) (hY : Y.length = n) (hi : i < n) (hp : pre.length + i = p) (hq : pre.length + n + mid.length + i = q) :
    (swp dk p q).toList = pre ++ (Y.take (i + 1) ++ (X.drop (i + 1) ++ (mid ++ (X.take (i + 1) ++ (Y.drop (i + 1) ++ post))))) := by
  have hx : i < X.length := by omega
  have hy : i < Y.length := by omega
  rw [List.drop_eq_getElem_cons hx, List.drop_eq_getElem_cons hy] at h
  have := swp_list (d := dk) (P := pre ++ Y.take i) (Q := X.drop (i + 1) ++ (mid ++ X.take i)) (R := Y.drop (i + 1) ++ post) (x := X[i]) (y := Y[i]) (by rw [h]; simp only [List.append_assoc, List.cons_append])
  have e1 : (pre ++ Y.take i).length = p := by simp; omega
  have e2 : p + 1 + (X.drop (i + 1) ++ (mid ++ X.take i)).length = q := by simp; omega
  rw [e1, e2] at this
  rw [this, List.take_succ_eq_append_getElem hx, List.take_succ_eq_append_getElem hy]
  simp only [List.append_assoc, List.cons_append, List.nil_append]

/-! merging in place -/
theorem seg_get {d : Array α} {P B Q : List α} (h : d.toList = P ++ (B ++ Q)) (t : Nat) (ht : t < B.length) : d[P.length + t]! = B[t] := by
  have := at_list (d := d) (P := P ++ B.take t) (R := B.drop (t + 1) ++ Q) (x := B[t]) (by rw [h, List.append_assoc, ← List.cons_append, ← List.drop_eq_getElem_cons ht, ← List.append_assoc (B.take t), List.take_append_drop])
  rw [← this]; congr 1; simp; omega
theorem seg_sorted {d : Array α} {P B Q : List α} (h : d.toList = P ++ (B ++ Q)) (hS : Srt lt B) : SortedIn lt P.length (P.length + B.length) d := by
  intro i j hi hij hj
  have h1 := seg_get h (i - P.length) (by omega)
  have h2 := seg_get h (j - P.length) (by omega)
  rw [show P.length + (i - P.length) = i by omega] at h1
  rw [show P.length + (j - P.length) = j by omega] at h2
  rw [h1, h2]
  exact List.pairwise_iff_getElem.1 hS _ _ _ _ (by omega)
omit [Inhabited α] in
theorem mem_take_at {B : List α} {n : Nat} {b : α} (h : b ∈ B.take n) : ∃ t, ∃ (h2 : t < B.length), t < n ∧ B[t] = b := by
  obtain ⟨t, ht, e⟩ := List.getElem_of_mem h
  simp at ht
  exact ⟨t, by omega, by omega, by rw [← e]; simp⟩
omit [Inhabited α] in
theorem mem_drop_at {B : List α} {n : Nat} {b : α} (h : b ∈ B.drop n) : ∃ t, ∃ (h2 : t < B.length), n ≤ t ∧ B[t] = b := by
  obtain ⟨t, ht, e⟩ := List.getElem_of_mem h
  simp at ht
  exact ⟨n + t, by omega, by omega, by rw [← e]; simp⟩

theorem sym_one {d : Array α} {pre B post : List α} {x : α} {i m b : Nat} (h : d.toList = pre ++ ([x] ++ (B ++ post))) (hm : pre.length + 1 = m) (hb : m + B.length = b) (h1 : m ≤ i) (_h2 : i ≤ b) (g1 : ∀ c, m ≤ c → c < i → lt d[c]! x = true) (g2 : ∀ c, i ≤ c → c < b → lt d[c]! x = false) :
    mrg lt [x] B = B.take (i - m) ++ x :: B.drop (i - m) := by
  have hg : ∀ t (ht : t < B.length), d[m + t]! = B[t] := fun t ht => by
    have := seg_get (d := d) (P := pre ++ [x]) (B := B) (Q := post) (by rw [h]; simp) t ht
    rw [← this]; congr 1; simp; omega
  conv => lhs; rw [← List.take_append_drop (i - m) B]
  refine ins_front (fun y hy => ?_) (fun y hy => ?_)
  · obtain ⟨t, ht, h3, rfl⟩ := mem_take_at hy
    rw [← hg t ht]; exact g1 _ (by omega) (by omega)
  · obtain ⟨t, ht, h3, rfl⟩ := mem_drop_at hy
    rw [← hg t ht]; exact g2 _ (by omega) (by omega)
theorem sym_last {d : Array α} {pre A post : List α} {y : α} {i a m : Nat} (h : d.toList = pre ++ (A ++ ([y] ++ post))) (ha : pre.length = a) (hm : a + A.length = m) (h1 : a ≤ i) (_h2 : i ≤ m) (g1 : ∀ c, a ≤ c → c < i → lt y d[c]! = false) (g2 : ∀ c, i ≤ c → c < m → lt y d[c]! = true) :
    mrg lt A [y] = A.take (i - a) ++ y :: A.drop (i - a) := by
  have hg : ∀ t (ht : t < A.length), d[a + t]! = A[t] := fun t ht => by
    have := seg_get (d := d) h t ht
    rw [ha] at this; exact this
  conv => lhs; rw [← List.take_append_drop (i - a) A]
  refine ins_eq (fun x hx => ?_) (fun x hx => ?_)
  · obtain ⟨t, ht, h3, rfl⟩ := mem_take_at hx
    rw [← hg t ht]; exact g1 _ (by omega) (by omega)
  · obtain ⟨t, ht, h3, rfl⟩ := mem_drop_at hx
    rw [← hg t ht]; exact g2 _ (by omega) (by omega)
theorem move_right {dk : Array α} {pre B post : List α} {x : α} {t p : Nat} (h : dk.toList = pre ++ (B.take t ++ (x :: (B.drop t ++ post)))) (ht : t < B.length) (hp : pre.length + t = p) :
    (swp dk p (p + 1)).toList = pre ++ (B.take (t + 1) ++ (x :: (B.drop (t + 1) ++ post))) := by
  rw [List.drop_eq_getElem_cons ht] at h
  have := swp_list (d := dk) (P := pre ++ B.take t) (Q := []) (R := B.drop (t + 1) ++ post) (x := x) (y := B[t]) (by rw [h]; simp only [List.append_assoc, List.cons_append, List.nil_append])
  have e1 : (pre ++ B.take t).length = p := by simp; omega
  rw [e1] at this
  simp only [List.length_nil, Nat.add_zero, List.nil_append] at this
  rw [this, List.take_succ_eq_append_getElem ht]
  simp only [List.append_assoc, List.cons_append, List.nil_append]
theorem move_left {dk : Array α} {pre A post : List α} {y : α} {t p : Nat} (h : dk.toList = pre ++ (A.take (t + 1) ++ (y :: (A.drop (t + 1) ++ post)))) (ht : t < A.length) (hp : pre.length + t = p) :
    (swp dk (p + 1) p).toList = pre ++ (A.take t ++ (y :: (A.drop t ++ post))) := by
  rw [List.take_succ_eq_append_getElem ht] at h
  have := swp_list' (d := dk) (P := pre ++ A.take t) (Q := []) (R := A.drop (t + 1) ++ post) (x := A[t]) (y := y) (by rw [h]; simp only [List.append_assoc, List.cons_append, List.nil_append])
  have e1 : (pre ++ A.take t).length = p := by simp; omega
  rw [e1] at this
  simp only [List.length_nil, Nat.add_zero, List.nil_append] at this
  rw [this, List.drop_eq_getElem_cons ht]
  simp only [List.append_assoc, List.cons_append]
theorem sym_split (hO : SWO lt) {d : Array α} {pre A B post : List α} {a m b s e : Nat} (hd : d.toList = pre ++ (A ++ (B ++ post))) (ha : pre.length = a) (hA : a + A.length = m) (hB : m + B.length = b) (SA : Srt lt A) (SB : Srt lt B)
    (hs1 : a ≤ s) (hs2 : s ≤ m) (he1 : m ≤ e) (he2 : e ≤ b) (h1 : s < m → m < e → lt d[e - 1]! d[s]! = true) (h2 : a < s → e < b → lt d[e]! d[s - 1]! = false) :
    mrg lt A B = mrg lt (A.take (s - a)) (B.take (e - m)) ++ mrg lt (A.drop (s - a)) (B.drop (e - m)) := by
  have sa := seg_sorted (lt := lt) hd SA
  have hd2 : d.toList = (pre ++ A) ++ (B ++ post) := by rw [hd]; simp
  have sb := seg_sorted (lt := lt) hd2 SB
  rw [ha, hA] at sa
  rw [List.length_append, ha, hA, hB] at sb
  have ga : ∀ t (ht : t < A.length), d[a + t]! = A[t] := fun t ht => by have := seg_get hd t ht; rw [ha] at this; exact this
  have gb : ∀ t (ht : t < B.length), d[m + t]! = B[t] := fun t ht => by have := seg_get hd2 t ht; rw [List.length_append, ha, hA] at this; exact this
  have sa' : ∀ i j, a ≤ i → i ≤ j → j < m → lt d[j]! d[i]! = false := fun i j hi hij hj => by
    rcases Nat.lt_or_ge i j with h | h
    · exact sa i j hi h hj
    · rw [show i = j by omega]; exact hO.irrefl _
  have sb' : ∀ i j, m ≤ i → i ≤ j → j < b → lt d[j]! d[i]! = false := fun i j hi hij hj => by
    rcases Nat.lt_or_ge i j with h | h
    · exact sb i j hi h hj
    · rw [show i = j by omega]; exact hO.irrefl _
  have nf : ∀ x y z : α, lt x z = true → lt x y = false → lt y z = true := fun x y z hxz hxy => by
    cases h : lt y z with
    | true => rfl
    | false => rw [hO.ntrans _ _ _ hxy h] at hxz; cases hxz
  conv => lhs; rw [← List.take_append_drop (s - a) A, ← List.take_append_drop (e - m) B]
  refine mrg_split _ _ _ _ (fun y hy x hx => ?_) (fun x hx y hy => ?_)
  · obtain ⟨t, ht, h3, rfl⟩ := mem_take_at hy
    obtain ⟨t', ht', h3', rfl⟩ := mem_drop_at hx
    rw [← gb t ht, ← ga t' ht']
    have e1 := h1 (by omega) (by omega)
    have e2 := nf _ _ _ e1 (sb' (m + t) (e - 1) (by omega) (by omega) (by omega))
    cases h : lt d[m + t]! d[a + t']! with
    | true => rfl
    | false => rw [hO.ntrans _ _ _ h (sa' s (a + t') (by omega) (by omega) (by omega))] at e2; cases e2
  · obtain ⟨t, ht, h3, rfl⟩ := mem_take_at hx
    obtain ⟨t', ht', h3', rfl⟩ := mem_drop_at hy
    rw [← ga t ht, ← gb t' ht']
    have e1 := h2 (by omega) (by omega)
    exact hO.ntrans _ _ _ (sb' e (m + t') (by omega) (by omega) (by omega)) (hO.ntrans _ _ _ e1 (sa' (a + t) (s - 1) (by omega) (by omega) (by omega)))
omit [Inhabited α] in
theorem srt_take {A : List α} (h : Srt lt A) (n : Nat) : Srt lt (A.take n) := List.Pairwise.sublist (List.take_sublist _ _) h
omit [Inhabited α] in
theorem srt_drop {A : List α} (h : Srt lt A) (n : Nat) : Srt lt (A.drop n) := List.Pairwise.sublist (List.drop_sublist _ _) h
end
end Go.Proofs.Ytcoedohfggeaiaa.Plain
