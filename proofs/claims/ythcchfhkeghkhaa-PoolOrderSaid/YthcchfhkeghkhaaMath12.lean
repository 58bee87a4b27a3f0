/-
  Plain mathematics of layer 12, with no program in it: frames, the frame that bytes begin with, all frames of bytes, and that these fit each other. Nothing is assumed.
-/
import Derived.Test.YthcchfhkeghkhaaMath

namespace Go.Proofs.Ythcchfhkeghkhaa.Fra

/-- may a body have so many bytes? -/
def fits (n : Int) : Bool := decide (1 ≤ n ∧ n ≤ 3600)
theorem fits_iff (n : Int) : fits n = true ↔ 1 ≤ n ∧ n ≤ 3600 := by simp [fits]
def size (n : Int) : Nat := if 1 ≤ n ∧ n ≤ 3600 then Plain.size n + n.toNat else 0
def put (b : List UInt8) : List UInt8 := if 1 ≤ b.length ∧ b.length ≤ 3600 then Plain.put b.length ++ b else []
theorem size_small (n : Int) : size n ≤ 3607 := by
  unfold size
  have := Plain.size_le n
  split <;> omega
theorem put_length (b : List UInt8) : (put b).length = size b.length := by
  unfold put size
  by_cases h : 1 ≤ b.length ∧ b.length ≤ 3600
  · rw [if_pos h, if_pos (by omega), List.length_append, Plain.put_length]; simp
  · rw [if_neg h, if_neg (by omega)]; rfl
/-- how many bytes a body's number takes -/
theorem head_is (n : Nat) (h : n ≤ 3600) : Plain.size n = if n < 128 then 1 else 2 := by
  unfold Plain.size
  rw [if_pos (by omega)]
  simp only [Int.toNat_natCast]
  unfold Plain.sz
  repeat' split
  all_goals omega

/-- the frame that bytes begin with: how long its number is, and its body; 0: there is none -/
def first (b : List UInt8) : Nat × Nat :=
  if (Plain.get b).2.2 = 0 ∧ 1 ≤ (Plain.get b).1 ∧ (Plain.get b).1 ≤ 3600 ∧ (Plain.get b).2.1 + (Plain.get b).1 ≤ b.length then ((Plain.get b).2.1, (Plain.get b).1) else (0, 0)

theorem first_none (b : List UInt8) (h : ¬ ((Plain.get b).2.2 = 0 ∧ 1 ≤ (Plain.get b).1 ∧ (Plain.get b).1 ≤ 3600 ∧ (Plain.get b).2.1 + (Plain.get b).1 ≤ b.length)) : first b = (0, 0) := by
  unfold first; rw [if_neg h]
theorem put_is (n : Nat) (h : n ≤ 3600) : Plain.put n = Plain.enc (Plain.sz n) n := by
  unfold Plain.put
  rw [if_pos (by omega)]
  rfl
theorem size_is (n : Nat) (h : n ≤ 3600) : Plain.size n = Plain.sz n := by
  unfold Plain.size
  rw [if_pos (by omega)]
  rfl
/-- what is the first frame has its number's bytes, and its body behind them -/
theorem first_back (b : List UInt8) (h : (first b).2 ≠ 0) : 1 ≤ (first b).2 ∧ (first b).2 ≤ 3600 ∧ (first b).1 = Plain.size (first b).2 ∧ (first b).1 + (first b).2 ≤ b.length ∧ b.take (first b).1 = Plain.put (first b).2 := by
  unfold first at h ⊢
  by_cases hc : (Plain.get b).2.2 = 0 ∧ 1 ≤ (Plain.get b).1 ∧ (Plain.get b).1 ≤ 3600 ∧ (Plain.get b).2.1 + (Plain.get b).1 ≤ b.length
  · rw [if_pos hc] at h ⊢
    obtain ⟨h1, h2, h3, h4⟩ := hc
    obtain ⟨h5, h6, h7, h8⟩ := Plain.get_back b (Plain.get b).1 (Plain.get b).2.1 (by rw [← h1])
    refine ⟨h2, h3, ?_, h4, ?_⟩
    · simp only
      rw [size_is _ h3]; exact h6
    · simp only
      rw [put_is _ h3]; exact h8
  · rw [if_neg hc] at h; exact absurd rfl h
theorem first_put (n : Nat) (h1 : 1 ≤ n) (h2 : n ≤ 3600) (r : List UInt8) (hr : n ≤ r.length) : first (Plain.put n ++ r) = (Plain.size n, n) := by
  have hg := Plain.get_put n (by omega) r
  unfold first
  rw [put_is n h2, hg]
  simp only
  rw [if_pos ⟨trivial, h1, h2, by rw [List.length_append, Plain.enc_length]; omega⟩, size_is n h2]
/-- of more bytes, or of fewer, if the frame is whole, the first frame is the same -/
theorem first_like (b c : List UInt8) (h : (first b).2 ≠ 0) (hc : c.take ((first b).1 + (first b).2) = b.take ((first b).1 + (first b).2)) : first c = first b := by
  obtain ⟨h1, h2, h3, h4, h5⟩ := first_back b h
  generalize hf : first b = f at *
  obtain ⟨k, n⟩ := f
  simp only at *
  have hlc : k + n ≤ c.length := by
    have := congrArg List.length hc
    rw [List.length_take, List.length_take] at this
    omega
  have hck : c.take k = Plain.put n := by
    have := congrArg (List.take k) hc
    rw [List.take_take, List.take_take, Nat.min_eq_left (by omega)] at this
    rw [this, h5]
  rw [← List.take_append_drop k c, hck, first_put n h1 h2 _ (by rw [List.length_drop]; omega), h3]

/-- a part: where its frame begins, and its body -/
structure P where
  p : Nat
  b : List UInt8
deriving DecidableEq
instance : Inhabited P := ⟨⟨0, []⟩⟩
def P.sz (x : P) : Nat := size x.b.length
/-- how long all are -/
def tot : List P → Nat
  | [] => 0
  | x :: r => x.sz + tot r
theorem tot_append (l m : List P) : tot (l ++ m) = tot l + tot m := by
  induction l with
  | nil => simp [tot]
  | cons x l ih => simp [tot, ih, Nat.add_assoc]
theorem tot_snoc (l : List P) (x : P) : tot (l ++ [x]) = tot l + x.sz := by rw [tot_append]; simp [tot]
/-- the part of the frame that stands at p -/
def nxt (b : List UInt8) (p : Nat) : P := ⟨p, ((b.drop p).drop (first (b.drop p)).1).take (first (b.drop p)).2⟩
theorem nxt_len (b : List UInt8) (p : Nat) (h : (first (b.drop p)).2 ≠ 0) : (nxt b p).b.length = (first (b.drop p)).2 := by
  have := first_back _ h
  simp only [nxt, List.length_take, List.length_drop] at this ⊢
  omega
theorem nxt_sz (b : List UInt8) (p : Nat) (h : (first (b.drop p)).2 ≠ 0) : (nxt b p).sz = (first (b.drop p)).1 + (first (b.drop p)).2 := by
  have h1 := first_back _ h
  unfold P.sz size
  rw [nxt_len b p h, if_pos (by omega)]
  omega
/-- these are the first frames of b -/
inductive Pre (b : List UInt8) : List P → Prop
  | nil : Pre b []
  | snoc {l : List P} : Pre b l → (first (b.drop (tot l))).2 ≠ 0 → Pre b (l ++ [nxt b (tot l)])

theorem Pre.len {b : List UInt8} {l : List P} (h : Pre b l) : 2 * l.length ≤ tot l ∧ tot l ≤ b.length := by
  induction h with
  | nil => simp [tot]
  | @snoc l hl hf ih =>
    have h1 := first_back _ hf
    rw [tot_snoc, nxt_sz b _ hf, List.length_append]
    rw [List.length_drop] at h1
    have h2 := head_is _ h1.2.1
    simp
    split at h2 <;> omega
theorem Pre.bodies {b : List UInt8} {l : List P} (h : Pre b l) : ∀ x ∈ l, 1 ≤ x.b.length ∧ x.b.length ≤ 3600 ∧ x.p + x.sz ≤ b.length := by
  induction h with
  | nil => simp
  | @snoc l hl hf ih =>
    intro x hx
    rcases List.mem_append.1 hx with hx | hx
    · exact ih x hx
    · simp only [List.mem_singleton] at hx
      subst hx
      have h1 := first_back _ hf
      rw [nxt_len b _ hf, nxt_sz b _ hf]
      rw [List.length_drop] at h1
      refine ⟨h1.1, h1.2.1, ?_⟩
      show tot l + _ ≤ _
      have := hl.len
      omega
/-- all frames -/
def go (b : List UInt8) : Nat → List P → List P
  | 0, l => l
  | f + 1, l => if (first (b.drop (tot l))).2 = 0 then l else go b f (l ++ [nxt b (tot l)])
def all (b : List UInt8) : List P := go b b.length []
theorem go_stop (b : List UInt8) (f : Nat) (l : List P) (h : (first (b.drop (tot l))).2 = 0) : go b f l = l := by
  cases f with
  | zero => rfl
  | succ f => simp [go, h]
theorem Pre.go {b : List UInt8} {l : List P} (h : Pre b l) : ∀ f, l.length ≤ f → Fra.go b f [] = Fra.go b (f - l.length) l := by
  induction h with
  | nil => intro f _; simp
  | @snoc l hl hf ih =>
    intro f hle
    rw [List.length_append, List.length_singleton] at hle ⊢
    rw [ih f (by omega)]
    obtain ⟨g, hg⟩ : ∃ g, f - l.length = g + 1 := ⟨f - l.length - 1, by omega⟩
    rw [hg, Fra.go, if_neg hf]
    congr 1
    omega
theorem Pre.all {b : List UInt8} {l : List P} (h : Pre b l) (hs : (first (b.drop (tot l))).2 = 0) : Fra.all b = l := by
  unfold Fra.all
  rw [h.go b.length (by have := h.len; omega)]
  exact go_stop b _ l hs
theorem go_pre (b : List UInt8) (f : Nat) (l : List P) (h : Pre b l) (hf : b.length ≤ f + tot l) : Pre b (Fra.go b f l) ∧ (first (b.drop (tot (Fra.go b f l)))).2 = 0 := by
  induction f generalizing l with
  | zero =>
    refine ⟨h, ?_⟩
    simp only [Fra.go]
    rw [List.drop_eq_nil_of_le (by omega)]
    rfl
  | succ f ih =>
    by_cases hs : (first (b.drop (tot l))).2 = 0
    · rw [go_stop b _ l hs]; exact ⟨h, hs⟩
    · rw [Fra.go, if_neg hs]
      refine ih _ (h.snoc hs) ?_
      rw [tot_snoc, nxt_sz b _ hs]
      have := first_back _ hs
      omega
theorem all_pre (b : List UInt8) : Pre b (all b) ∧ (first (b.drop (tot (all b)))).2 = 0 := go_pre b b.length [] .nil (by simp [tot])
theorem all_nil : all [] = [] := rfl
theorem all_none (b : List UInt8) (h : (first b).2 = 0) : all b = [] := go_stop b _ [] (by simpa [tot] using h)

/-- each begins where those ahead of it end -/
theorem Pre.at_ {b : List UInt8} {l : List P} (h : Pre b l) : ∀ i (hi : i < l.length), l[i].p = tot (l.take i) := by
  induction h with
  | nil => intro i hi; simp at hi
  | @snoc l hl hf ih =>
    intro i hi
    rw [List.length_append, List.length_singleton] at hi
    by_cases h1 : i < l.length
    · rw [List.getElem_append_left h1, ih i h1, List.take_append_of_le_length (by omega)]
    · obtain rfl : i = l.length := by omega
      simp [nxt]
/-- a part of a row has the ones ahead of it -/
theorem Pre.take {b : List UInt8} {l : List P} (h : Pre b l) : ∀ m, m ≤ l.length → Pre b (l.take m) ∧ (∀ (hm : m < l.length), (first (b.drop (tot (l.take m)))).2 ≠ 0 ∧ l[m] = nxt b (tot (l.take m))) := by
  induction h with
  | nil => intro m hm; obtain rfl : m = 0 := by simpa using hm
           exact ⟨.nil, fun h => by simp at h⟩
  | @snoc l hl hf ih =>
    intro m hm
    rw [List.length_append, List.length_singleton] at hm
    by_cases h1 : m ≤ l.length
    · rw [List.take_append_of_le_length h1]
      refine ⟨(ih m h1).1, fun hm2 => ?_⟩
      by_cases h2 : m < l.length
      · rw [List.getElem_append_left h2]; exact (ih m h1).2 h2
      · obtain rfl : m = l.length := by omega
        simp [hf]
    · obtain rfl : m = l.length + 1 := by omega
      rw [List.take_of_length_le (by simp)]
      exact ⟨hl.snoc hf, fun hm2 => by simp at hm2⟩
theorem tot_take_le (l : List P) (m : Nat) : tot (l.take m) ≤ tot l := by
  conv => rhs; rw [← List.take_append_drop m l, tot_append]
  omega
theorem tot_take_succ (l : List P) (m : Nat) (h : m < l.length) : tot (l.take (m + 1)) = tot (l.take m) + l[m].sz := by
  rw [List.take_succ_eq_append_getElem h, tot_snoc]
/-- bytes that begin alike have the same first frames -/
theorem Pre.like {b c : List UInt8} {l : List P} (h : Pre b l) (hc : c.take (tot l) = b.take (tot l)) : Pre c l := by
  induction h with
  | nil => exact .nil
  | @snoc l hl hf ih =>
    rw [tot_snoc, nxt_sz b _ hf] at hc
    have h1 : c.take (tot l) = b.take (tot l) := by
      have := congrArg (List.take (tot l)) hc
      rwa [List.take_take, List.take_take, Nat.min_eq_left (by omega)] at this
    have h2 : (c.drop (tot l)).take ((first (b.drop (tot l))).1 + (first (b.drop (tot l))).2) = (b.drop (tot l)).take ((first (b.drop (tot l))).1 + (first (b.drop (tot l))).2) := by
      have := congrArg (List.drop (tot l)) hc
      rw [List.drop_take, List.drop_take, Nat.add_sub_cancel_left] at this
      exact this
    have h3 := first_like _ _ hf h2
    have h4 : nxt c (tot l) = nxt b (tot l) := by
      unfold nxt
      rw [h3]
      congr 1
      have := congrArg (List.drop (first (b.drop (tot l))).1) h2
      rw [List.drop_take, List.drop_take, Nat.add_sub_cancel_left] at this
      exact this
    rw [← h4]
    exact (ih h1).snoc (by rw [h3]; exact hf)

/-- where the last one ends -/
def stop (l : List P) : Nat := match l.getLast? with
  | none => 0
  | some x => x.p + x.sz
theorem stop_snoc (l : List P) (x : P) : stop (l ++ [x]) = x.p + x.sz := by simp [stop]
theorem Pre.stop {b : List UInt8} {l : List P} (h : Pre b l) : Fra.stop l = tot l := by
  cases h with
  | nil => rfl
  | snoc hl hf => rw [stop_snoc, tot_snoc]; rfl

/-- P12.2: bodies' frames, one behind the other -/
def row (l : List (List UInt8)) : List UInt8 := (l.map put).flatten
theorem row_snoc (l : List (List UInt8)) (x : List UInt8) : row (l ++ [x]) = row l ++ put x := by simp [row]
def okb (x : List UInt8) : Bool := decide (1 ≤ x.length ∧ x.length ≤ 3600)
/-- their parts -/
def parts (p : Nat) : List (List UInt8) → List P
  | [] => []
  | x :: r => if okb x then ⟨p, x⟩ :: parts (p + size x.length) r else parts p r
theorem put_no (x : List UInt8) (h : okb x = false) : put x = [] := by
  unfold put; rw [if_neg (by simpa [okb] using h)]
theorem size_no (x : List UInt8) (h : okb x = false) : size x.length = 0 := by
  rw [← put_length, put_no x h]; rfl
theorem parts_tot (p : Nat) (l : List (List UInt8)) : tot (parts p l) = (row l).length := by
  induction l generalizing p with
  | nil => rfl
  | cons x r ih =>
    have e : (row (x :: r)).length = size x.length + (row r).length := by simp [row, put_length]
    rw [e]
    unfold parts
    cases h : okb x
    · simp only [Bool.false_eq_true, if_false]; rw [ih, size_no x h]; omega
    · simp only [if_true]; rw [tot, ih]; rfl
theorem first_of_put (x r : List UInt8) (h : okb x = true) : first (put x ++ r) = (Plain.size x.length, x.length) := by
  have h' : 1 ≤ x.length ∧ x.length ≤ 3600 := by simpa [okb] using h
  unfold put
  rw [if_pos h', List.append_assoc, first_put _ h'.1 h'.2 _ (by rw [List.length_append]; omega)]
theorem pre_parts (c : List UInt8) (p0 : List P) (l : List (List UInt8)) (b : List UInt8) (h : Pre b p0) (hb : b.drop (tot p0) = row l ++ c) : Pre b (p0 ++ parts (tot p0) l) := by
  induction l generalizing p0 with
  | nil => simpa [parts] using h
  | cons x r ih =>
    have e : row (x :: r) = put x ++ row r := by simp [row]
    rw [e, List.append_assoc] at hb
    unfold parts
    cases hx : okb x
    · simp only [Bool.false_eq_true, if_false]
      refine ih p0 h ?_
      rw [put_no x hx, List.nil_append] at hb
      exact hb
    · simp only [if_true]
      have hf := first_of_put x (row r ++ c) hx
      have hx' : 1 ≤ x.length ∧ x.length ≤ 3600 := by simpa [okb] using hx
      have hn : nxt b (tot p0) = ⟨tot p0, x⟩ := by
        unfold nxt
        rw [hb, hf]
        congr 1
        simp only
        unfold put
        rw [if_pos hx', List.append_assoc, ← Plain.put_length, List.drop_left, List.take_left]
      have hs := h.snoc (by rw [hb, hf]; simp only; omega)
      rw [hn] at hs
      have ht : tot (p0 ++ [⟨tot p0, x⟩]) = tot p0 + size x.length := by rw [tot_snoc]; rfl
      have := ih (p0 ++ [⟨tot p0, x⟩]) hs (by
        rw [ht, ← List.drop_drop, hb, ← put_length, List.drop_left])
      rw [ht] at this
      simpa using this
theorem first_zero (r : List UInt8) : (first (0 :: r)).2 = 0 := by
  have e : Plain.get (0 :: r) = (0, 1, 0) := by simpa using Plain.get_one 0 (by omega) r
  rw [first_none _ (by rw [e]; simp)]
/-- P12.2, whatever is behind that is no frame -/
theorem all_row (l : List (List UInt8)) (c : List UInt8) (hc : (first c).2 = 0) : all (row l ++ c) = parts 0 l ∧ tot (parts 0 l) = (row l).length := by
  have ht := parts_tot 0 l
  have := pre_parts c [] l (row l ++ c) .nil (by simp [tot])
  refine ⟨?_, ht⟩
  have h2 : Pre (row l ++ c) (parts 0 l) := by simpa [tot] using this
  refine h2.all ?_
  rw [ht, List.drop_left]; exact hc

/-- P12.3: how many of them are whole -/
def whole (k : Nat) (l : List P) : Nat := (l.filter fun x => decide (x.p + x.sz ≤ k)).length
theorem whole_snoc (k : Nat) (l : List P) (x : P) : whole k (l ++ [x]) = whole k l + if x.p + x.sz ≤ k then 1 else 0 := by
  unfold whole
  rw [List.filter_append, List.length_append]
  congr 1
  by_cases h : x.p + x.sz ≤ k <;> simp [h]
theorem Pre.ends {b : List UInt8} {l : List P} (h : Pre b l) (i : Nat) (hi : i < l.length) : l[i].p + l[i].sz = tot (l.take (i + 1)) := by
  rw [tot_take_succ l i hi, h.at_ i hi]
/-- while they are whole, as many as there are; behind the first that is not none is -/
theorem Pre.whole_is {b : List UInt8} {l : List P} (h : Pre b l) (k : Nat) : ∀ i, i ≤ l.length → (tot (l.take i) ≤ k → whole k (l.take i) = i) ∧ (k < tot (l.take i) → tot (l.take (whole k (l.take i))) ≤ k ∧ whole k (l.take i) < i ∧ k < tot (l.take (whole k (l.take i) + 1))) := by
  intro i
  induction i with
  | zero => intro _; simp [whole, tot]
  | succ i ih =>
    intro hi
    have hi' : i < l.length := by omega
    have he := h.ends i hi'
    have hs := tot_take_succ l i hi'
    obtain ⟨h1, h2⟩ := ih (by omega)
    rw [List.take_succ_eq_append_getElem hi', whole_snoc]
    rw [← List.take_succ_eq_append_getElem hi']
    rcases Nat.lt_or_ge k (tot (l.take i)) with hk | hk
    · obtain ⟨h3, h4, h5⟩ := h2 hk
      rw [if_neg (by omega)]
      refine ⟨fun h => by omega, fun _ => ⟨by simpa using h3, by omega, by simpa using h5⟩⟩
    · have h3 := h1 hk
      by_cases hk2 : tot (l.take (i + 1)) ≤ k
      · rw [if_pos (by omega), h3]
        exact ⟨fun _ => rfl, fun h => by omega⟩
      · rw [if_neg (by omega), h3]
        exact ⟨fun h => by omega, fun _ => ⟨by simpa using hk, by omega, by simp; omega⟩⟩
theorem all_cut (b : List UInt8) (k : Nat) : all (b.take k) = (all b).take (whole k (all b)) := by
  obtain ⟨hp, hst⟩ := all_pre b
  generalize all b = l at *
  have hw := hp.whole_is k l.length (Nat.le_refl _)
  rw [List.take_of_length_le (Nat.le_refl _)] at hw
  have key : whole k l ≤ l.length ∧ tot (l.take (whole k l)) ≤ k ∧ (whole k l < l.length → k < tot (l.take (whole k l + 1))) := by
    rcases Nat.lt_or_ge k (tot l) with h | h
    · obtain ⟨h1, h2, h3⟩ := hw.2 h
      exact ⟨by omega, h1, fun _ => h3⟩
    · have := hw.1 h
      rw [this, List.take_of_length_le (Nat.le_refl _)]
      exact ⟨Nat.le_refl _, h, fun h => by omega⟩
  generalize whole k l = m at *
  obtain ⟨h1, h2, h3⟩ := key
  obtain ⟨ht, hn⟩ := hp.take m h1
  refine (ht.like (by rw [List.take_take, Nat.min_eq_left h2])).all ?_
  rcases Nat.eq_zero_or_pos (first ((b.take k).drop (tot (l.take m)))).2 with h | h
  · exact h
  · exfalso
    have hb := first_back _ (show (first ((b.take k).drop (tot (l.take m)))).2 ≠ 0 by omega)
    rw [List.drop_take] at h hb
    have hlen := hb.2.2.2.1
    rw [List.length_take] at hlen
    have hlk := first_like ((b.drop (tot (l.take m))).take (k - tot (l.take m))) (b.drop (tot (l.take m))) (by omega) (by
      rw [List.take_take, Nat.min_eq_left (by omega)])
    rw [← hlk] at h hlen
    rcases Nat.lt_or_ge m l.length with hm | hm
    · obtain ⟨h4, h5⟩ := hn hm
      have h6 := h3 hm
      rw [tot_take_succ l m hm, h5, nxt_sz b _ h4] at h6
      omega
    · rw [List.take_of_length_le hm] at h
      omega
/-- P12.1: what is told has just these bytes -/
theorem Pre.bytes {b : List UInt8} {l : List P} (h : Pre b l) : (l.map fun x => put x.b).flatten = b.take (tot l) := by
  induction h with
  | nil => simp [tot]
  | @snoc l hl hf ih =>
    have h1 := first_back _ hf
    rw [List.map_append, List.flatten_append, ih, tot_snoc, nxt_sz b _ hf, List.take_add]
    congr 1
    simp only [List.map_cons, List.map_nil, List.flatten_cons, List.flatten_nil, List.append_nil]
    have hl2 := nxt_len b _ hf
    unfold put
    rw [if_pos (by omega), hl2, List.take_add, ← h1.2.2.2.2]
    rfl
theorem all_bytes (b : List UInt8) : ((all b).map fun x => put x.b).flatten = b.take (tot (all b)) ∧ tot (all b) ≤ b.length ∧ all (b.drop (tot (all b))) = [] := by
  obtain ⟨h1, h2⟩ := all_pre b
  exact ⟨h1.bytes, h1.len.2, all_none _ h2⟩
end Go.Proofs.Ythcchfhkeghkhaa.Fra
