/-
  Plain mathematics of layer 9, with no program in it: tables, their bytes and sectors, what any bytes are the table of, which places are used, in order, and free. Nothing is assumed.
-/
import Derived.Test.YtgicjdlpkphfnaaMath8

namespace Go.Proofs.Ytgicjdlpkphfnaa.Tb

/-- an extent: its number, and how much of it is fixed -/
structure Ext where
  q : Int
  l : Int
deriving DecidableEq
instance : Inhabited Ext := ⟨⟨0, 0⟩⟩
structure T where
  gen : Int
  opn : Int
  xs : List Ext
deriving DecidableEq
def T.zero : T := ⟨0, 0, []⟩

def okE (x : Ext) : Bool := ((decide (0 ≤ x.q) && decide (x.q ≤ 2147483648)) && (decide (0 ≤ x.l) && decide (x.l ≤ 3776))) && !(decide (x.q = 0) && !decide (x.l = 0))
theorem okE_iff {x : Ext} : okE x = true ↔ 0 ≤ x.q ∧ x.q ≤ 2147483648 ∧ 0 ≤ x.l ∧ x.l ≤ 3776 ∧ (x.q = 0 → x.l = 0) := by
  simp only [okE, Bool.and_eq_true, decide_eq_true_eq, Bool.not_eq_true', Bool.and_eq_false_iff, decide_eq_false_iff_not, Bool.not_eq_false']
  omega
def apart (xs : List Ext) : Bool := decide (xs.Pairwise fun a b => b.q ≠ 0 → a.q ≠ b.q)
def opOk (t : T) : Bool := decide (t.opn = -1) || (decide (0 ≤ t.opn) && match t.xs[t.opn.toNat]? with | some x => !decide (x.q = 0) && decide (x.l = 0) | none => false)
def right (t : T) : Bool := (((((decide (1 ≤ t.gen) && decide (t.gen ≤ 2147483648)) && decide (4 ≤ t.xs.length)) && decide (t.xs.length ≤ 8)) && t.xs.all okE) && apart t.xs) && opOk t
structure Right (t : T) : Prop where
  g1 : 1 ≤ t.gen
  g2 : t.gen ≤ 2147483648
  n1 : 4 ≤ t.xs.length
  n2 : t.xs.length ≤ 8
  ok : ∀ x ∈ t.xs, okE x = true
  ap : t.xs.Pairwise fun a b => b.q ≠ 0 → a.q ≠ b.q
  op : t.opn = -1 ∨ ∃ x, 0 ≤ t.opn ∧ t.xs[t.opn.toNat]? = some x ∧ x.q ≠ 0 ∧ x.l = 0
theorem opOk_iff {t : T} : opOk t = true ↔ (t.opn = -1 ∨ ∃ x, 0 ≤ t.opn ∧ t.xs[t.opn.toNat]? = some x ∧ x.q ≠ 0 ∧ x.l = 0) := by
  unfold opOk
  rw [Bool.or_eq_true, Bool.and_eq_true, decide_eq_true_eq, decide_eq_true_eq]
  cases h : t.xs[t.opn.toNat]? with
  | none => simp
  | some x => simp
theorem right_iff {t : T} : right t = true ↔ Right t := by
  unfold right apart
  simp only [Bool.and_eq_true, decide_eq_true_eq, List.all_eq_true, opOk_iff]
  exact ⟨fun ⟨⟨⟨⟨⟨⟨h1, h2⟩, h3⟩, h4⟩, h5⟩, h6⟩, h7⟩ => ⟨h1, h2, h3, h4, h5, h6, h7⟩, fun ⟨h1, h2, h3, h4, h5, h6, h7⟩ => ⟨⟨⟨⟨⟨⟨h1, h2⟩, h3⟩, h4⟩, h5⟩, h6⟩, h7⟩⟩
theorem Right.open_lt {t : T} (h : Right t) : t.opn < (t.xs.length : Int) := by
  have := h.n1
  rcases h.op with h1 | ⟨x, h1, h2, -, -⟩
  · omega
  · have := (List.getElem?_eq_some_iff.1 h2).1; omega
theorem Right.open_ge {t : T} (h : Right t) : -1 ≤ t.opn := by
  rcases h.op with h1 | ⟨x, h1, h2, -, -⟩ <;> omega

/-! numbers in bytes, the lowest first -/
def le : Nat → Nat → List UInt8
  | 0, _ => []
  | k + 1, n => UInt8.ofNat n :: le k (n / 256)
def num : List UInt8 → Nat
  | [] => 0
  | b :: r => b.toNat + 256 * num r
theorem le_length : ∀ k n, (le k n).length = k
  | 0, _ => rfl
  | k + 1, n => by rw [le, List.length_cons, le_length]
theorem num_le : ∀ k n, num (le k n) = n % 256 ^ k
  | 0, n => by simp [le, num, Nat.mod_one]
  | k + 1, n => by
    rw [le, num, num_le k, UInt8.toNat_ofNat']
    show n % 256 + 256 * (n / 256 % 256 ^ k) = n % 256 ^ (k + 1)
    rw [show (256 : Nat) ^ (k + 1) = 256 * 256 ^ k by rw [Nat.pow_succ, Nat.mul_comm], Nat.mod_mul]
theorem num_le_lt {k n : Nat} (h : n < 256 ^ k) : num (le k n) = n := by rw [num_le, Nat.mod_eq_of_lt h]
theorem le_num : ∀ (l : List UInt8), le l.length (num l) = l
  | [] => rfl
  | b :: r => by
    have hb := b.toNat_lt
    rw [List.length_cons, le, num]
    have e1 : (b.toNat + 256 * num r) / 256 = num r := by omega
    have e2 : UInt8.ofNat (b.toNat + 256 * num r) = b := by
      apply UInt8.toNat_inj.1
      rw [UInt8.toNat_ofNat']; omega
    rw [e1, e2, le_num r]
theorem num_lt : ∀ (l : List UInt8), num l < 256 ^ l.length
  | [] => by simp [num]
  | b :: r => by
    have h1 := num_lt r
    have hb := b.toNat_lt
    rw [num, List.length_cons, Nat.pow_succ]
    omega

def bytesE (x : Ext) : List UInt8 := le 4 x.q.toNat ++ le 2 x.l.toNat
theorem bytesE_length (x : Ext) : (bytesE x).length = 6 := by simp [bytesE, le_length]
def flatE (xs : List Ext) : List UInt8 := xs.flatMap bytesE
theorem flatE_length : ∀ xs : List Ext, (flatE xs).length = 6 * xs.length
  | [] => rfl
  | x :: r => by
    have := flatE_length r
    unfold flatE at this ⊢
    rw [List.flatMap_cons, List.length_append, this, bytesE_length, List.length_cons]; omega
def bytes (t : T) : List UInt8 := le 4 t.gen.toNat ++ (UInt8.ofNat t.xs.length :: UInt8.ofNat (t.opn + 1).toNat :: flatE t.xs)
theorem bytes_length (t : T) : (bytes t).length = 6 + 6 * t.xs.length := by
  unfold bytes
  rw [List.length_append, le_length, List.length_cons, List.length_cons, flatE_length]; omega
def put (t : T) : List UInt8 := if right t = true then Ce.put t.gen 255 (bytes t) else []
theorem put_no {t : T} (h : right t = false) : put t = [] := by unfold put; rw [if_neg (by simp [h])]
theorem Right.cell {t : T} (h : Right t) : Ce.right t.gen 255 = true := by
  rw [Ce.right_iff]; have := h.g1; have := h.g2; omega
theorem Right.room {t : T} (h : Right t) : (bytes t).length ≤ 59 := by rw [bytes_length]; have := h.n2; omega
theorem put_cell {t : T} (h : right t = true) : put t = Ce.put t.gen 255 (bytes t) := by unfold put; rw [if_pos h]
theorem put_made {t : T} (h : right t = true) : put t = Ce.made t.gen.toNat 255 (bytes t) := by
  have hr := right_iff.1 h
  rw [put_cell h, Ce.put_yes hr.cell hr.room]
  rfl
theorem put_length (t : T) : (put t).length = if right t = true then 64 else 0 := by
  split
  · rename_i h
    rw [put_made h, Ce.made_length _ _ _ (right_iff.1 h).room]
  · rename_i h
    rw [put_no (by simpa using h)]; rfl
/-- the sector behind its first byte -/
theorem put_tail {t : T} (h : right t = true) : ∃ b0 R, put t = b0 :: (bytes t ++ R) := by
  rw [put_made h]
  unfold Ce.made Ce.body
  exact ⟨_, _, by rw [List.cons_append, List.append_assoc]⟩

def extAt (b : List UInt8) (i : Nat) : Ext := ⟨num ((b.drop (6 * i)).take 4), num ((b.drop (6 * i + 4)).take 2)⟩
/-- what the bytes behind a sector's first one tell of -/
def toldT (b : List UInt8) : T := ⟨num (b.take 4), ((b.getD 5 0).toNat : Int) - 1, (List.range (min (b.getD 4 0).toNat 8)).map (extAt (b.drop 6))⟩
def told (s : List UInt8) : T := toldT (s.drop 1)
def ok (s : List UInt8) : Bool := decide (s.length = 64) && decide (put (told s) = s)
def got (s : List UInt8) : T := if ok s = true then told s else T.zero
theorem ok_iff {s : List UInt8} : ok s = true ↔ s.length = 64 ∧ put (told s) = s := by
  simp only [ok, Bool.and_eq_true, decide_eq_true_eq]
theorem ok_len {s : List UInt8} (h : s.length ≠ 64) : ok s = false := by
  cases ho : ok s with
  | false => rfl
  | true => exact absurd (ok_iff.1 ho).1 h

theorem flatE_drop : ∀ (xs : List Ext) (i : Nat) (R : List UInt8), i ≤ xs.length → (flatE xs ++ R).drop (6 * i) = flatE (xs.drop i) ++ R
  | _, 0, _, _ => by simp
  | [], i + 1, _, h => by simp at h
  | x :: xs, i + 1, R, h => by
    have ih := flatE_drop xs i R (by simpa using h)
    have e : flatE (x :: xs) = bytesE x ++ flatE xs := rfl
    rw [e, List.append_assoc, show 6 * (i + 1) = (bytesE x).length + 6 * i by rw [bytesE_length]; omega, ← List.drop_drop, List.drop_left, ih]
    rfl
theorem extAt_flat {xs : List Ext} (hx : ∀ x ∈ xs, okE x = true) (R : List UInt8) (i : Nat) (hi : i < xs.length) : extAt (flatE xs ++ R) i = xs[i] := by
  obtain ⟨h1, h2, h3, h4, -⟩ := okE_iff.1 (hx _ (List.getElem_mem hi))
  unfold extAt
  rw [← List.drop_drop, flatE_drop xs i R (by omega), List.drop_eq_getElem_cons hi]
  have e : flatE (xs[i] :: xs.drop (i + 1)) = le 4 xs[i].q.toNat ++ (le 2 xs[i].l.toNat ++ flatE (xs.drop (i + 1))) := by
    show bytesE xs[i] ++ flatE (xs.drop (i + 1)) = _
    unfold bytesE
    rw [List.append_assoc]
  rw [e, List.append_assoc, List.append_assoc]
  rw [List.take_left' (le_length _ _), List.drop_left' (le_length _ _), List.take_left' (le_length _ _)]
  rw [num_le_lt (by omega), num_le_lt (by omega)]
  cases hxi : xs[i] with
  | mk q l =>
    rw [hxi] at h1 h3
    simp only [Ext.mk.injEq]
    simp only at h1 h3
    omega
theorem toldT_bytes {t : T} (h : Right t) (R : List UInt8) : toldT (bytes t ++ R) = t := by
  have hg1 := h.g1; have hg2 := h.g2; have hn2 := h.n2; have ho1 := h.open_ge; have ho2 := h.open_lt
  have e : bytes t ++ R = le 4 t.gen.toNat ++ (UInt8.ofNat t.xs.length :: UInt8.ofNat (t.opn + 1).toNat :: (flatE t.xs ++ R)) := by
    unfold bytes; rw [List.append_assoc]; rfl
  have e1 : (bytes t ++ R).take 4 = le 4 t.gen.toNat := by rw [e]; exact List.take_left' (le_length _ _)
  have e2 : (bytes t ++ R).drop 4 = UInt8.ofNat t.xs.length :: UInt8.ofNat (t.opn + 1).toNat :: (flatE t.xs ++ R) := by rw [e]; exact List.drop_left' (le_length _ _)
  have e3 : (bytes t ++ R).getD 4 0 = UInt8.ofNat t.xs.length := by
    have := congrArg (fun l => l.getD 0 0) e2
    simpa [List.getD_eq_getElem?_getD, List.getElem?_drop] using this
  have e4 : (bytes t ++ R).getD 5 0 = UInt8.ofNat (t.opn + 1).toNat := by
    have := congrArg (fun l => l.getD 1 0) e2
    simpa [List.getD_eq_getElem?_getD, List.getElem?_drop] using this
  have e5 : (bytes t ++ R).drop 6 = flatE t.xs ++ R := by
    have := congrArg (List.drop 2) e2
    simpa [List.drop_drop] using this
  unfold toldT
  rw [e1, e3, e4, e5, num_le_lt (by omega), UInt8.toNat_ofNat', UInt8.toNat_ofNat', show min (t.xs.length % 2 ^ 8) 8 = t.xs.length by omega]
  have e6 : (List.range t.xs.length).map (extAt (flatE t.xs ++ R)) = t.xs := by
    apply List.ext_getElem
    · simp
    · intro i h1 h2
      rw [List.getElem_map, List.getElem_range]
      exact extAt_flat h.ok R i h2
  rw [e6]
  obtain ⟨g, o, xs⟩ := t
  simp only [T.mk.injEq, and_true]
  simp only at hg1 ho1 ho2 hn2
  omega
theorem told_put {t : T} (h : right t = true) : told (put t) = t := by
  obtain ⟨b0, R, e⟩ := put_tail h
  unfold told
  rw [e]
  exact toldT_bytes (right_iff.1 h) R
/-- P9.2: there .. -/
theorem ok_put {t : T} (h : right t = true) : ok (put t) = true := by
  rw [ok_iff, told_put h]
  exact ⟨by rw [put_length, if_pos h], rfl⟩
theorem got_put {t : T} (h : right t = true) : got (put t) = t := by
  unfold got; rw [if_pos (ok_put h), told_put h]
/-- .. and back -/
theorem ok_back {s : List UInt8} (h : ok s = true) : right (told s) = true ∧ put (told s) = s := by
  obtain ⟨h1, h2⟩ := ok_iff.1 h
  refine ⟨?_, h2⟩
  cases hr : right (told s) with
  | true => rfl
  | false => rw [put_no hr] at h2; rw [← h2] at h1; cases h1
theorem put_inj {t u : T} (ht : right t = true) (hu : right u = true) : put t = put u ↔ t = u := by
  constructor
  · intro h
    have := congrArg told h
    rwa [told_put ht, told_put hu] at this
  · rintro rfl; rfl
theorem many_put {t : T} (h : right t = true) : ((put t).drop 1).getD 4 0 = UInt8.ofNat t.xs.length := by
  obtain ⟨b0, R, e⟩ := put_tail h
  rw [e]
  have e : bytes t ++ R = le 4 t.gen.toNat ++ (UInt8.ofNat t.xs.length :: UInt8.ofNat (t.opn + 1).toNat :: (flatE t.xs ++ R)) := by
    unfold bytes; rw [List.append_assoc]; rfl
  have e2 : (bytes t ++ R).drop 4 = UInt8.ofNat t.xs.length :: UInt8.ofNat (t.opn + 1).toNat :: (flatE t.xs ++ R) := by rw [e]; exact List.drop_left' (le_length _ _)
  have := congrArg (fun l => l.getD 0 0) e2
  simpa [List.getD_eq_getElem?_getD, List.getElem?_drop] using this
/-- no table has more extents than there are -/
theorem ok_many {s : List UInt8} (h : ok s = true) : ((s.drop 1).getD 4 0).toNat ≤ 8 := by
  obtain ⟨h1, h2⟩ := ok_back h
  have h3 := many_put h1
  have hn := (right_iff.1 h1).n2
  rw [h2] at h3
  rw [h3, UInt8.toNat_ofNat']
  omega
theorem zero_wrong : right T.zero = false := by decide

/-- P9.2: a burst behind its Gen -/
theorem burst {t : T} {X : List UInt8} {k x : Nat} (h : right t = true) (ht : Turned (put t) X k x 32) (hk0 : 40 ≤ k) (hk : k + 32 ≤ 512) (hx : x < 4294967296) (h0 : x ≠ 0) : ok X = false := by
  cases ho : ok X with
  | false => rfl
  | true =>
    exfalso
    obtain ⟨hr2, hp2⟩ := ok_back ho
    have hR := right_iff.1 h
    have hlen : (put t).length = 64 := by rw [put_length, if_pos h]
    have hgen : (told X).gen = t.gen := by
      have e1 : (told X).gen = (num ((X.drop 1).take 4) : Int) := rfl
      have e2 : t.gen = (num (((put t).drop 1).take 4) : Int) := by
        have := congrArg T.gen (told_put h)
        exact this.symm
      rw [e1, e2]
      have e3 : (X.drop 1).take 4 = ((put t).drop 1).take 4 := by
        apply List.ext_getElem
        · have := ht.1
          simp only [List.length_take, List.length_drop]; omega
        · intro i h1 h2
          have hi : i < 4 := by simp at h1; omega
          simp only [List.getElem_take, List.getElem_drop]
          have hXl : X.length = 64 := by rw [ht.1]; exact hlen
          have hbit : ∀ j, j < 8 → (X[1 + i]'(by omega)).toNat.testBit j = ((put t)[1 + i]'(by omega)).toNat.testBit j := by
            intro j hj
            have hh := ht.2.2 (8 * (1 + i) + j) (by omega) (by omega)
            have e8 : (8 * (1 + i) + j) / 8 = 1 + i := by omega
            have e9 : (8 * (1 + i) + j) % 8 = j := by omega
            simp only [e8, e9] at hh
            rw [hh]
            have : decide (k ≤ 8 * (1 + i) + j ∧ 8 * (1 + i) + j < k + 32) = false := by simp; omega
            rw [this]; simp
          apply UInt8.toNat_inj.1
          apply Nat.eq_of_testBit_eq
          intro j
          rcases Nat.lt_or_ge j 8 with hj | hj
          · exact hbit j hj
          · have p8 : 2 ^ 8 ≤ 2 ^ j := Nat.pow_le_pow_right (by omega) hj
            rw [Nat.testBit_lt_two_pow (Nat.lt_of_lt_of_le (UInt8.toNat_lt _) p8), Nat.testBit_lt_two_pow (Nat.lt_of_lt_of_le (UInt8.toNat_lt _) p8)]
      rw [e3]
    have hc : Ce.ok t.gen 255 X = true := by
      have h5 := put_cell hr2
      rw [hp2, hgen] at h5
      have h6 := (Ce.got_put (q := t.gen) (p := 255) (bs := bytes (told X)) hR.cell (right_iff.1 hr2).room).1
      rw [← h5] at h6
      exact h6
    rw [put_cell h] at ht
    rw [Ce.burst hR.cell hR.room ht hk hx h0] at hc
    cases hc

/-! places -/
def qAt (xs : List Ext) (i : Nat) : Int := (xs.getD i default).q
theorem qAt_eq {xs : List Ext} {i : Nat} (h : i < xs.length) : qAt xs i = xs[i].q := by
  unfold qAt; rw [List.getD_eq_getElem?_getD, List.getElem?_eq_getElem h]; rfl
def used (xs : List Ext) : List Nat := (List.range xs.length).filter fun i => !decide (qAt xs i = 0)
def free (xs : List Ext) : List Nat := (List.range xs.length).filter fun i => decide (qAt xs i = 0)
def ord (xs : List Ext) : List Nat := (used xs).mergeSort fun i j => decide (qAt xs i ≤ qAt xs j)
theorem mem_used {xs : List Ext} {i : Nat} : i ∈ used xs ↔ i < xs.length ∧ qAt xs i ≠ 0 := by simp [used]
theorem mem_free {xs : List Ext} {i : Nat} : i ∈ free xs ↔ i < xs.length ∧ qAt xs i = 0 := by simp [free]
theorem used_nodup (xs : List Ext) : (used xs).Nodup := List.Pairwise.filter _ List.nodup_range
theorem free_nodup (xs : List Ext) : (free xs).Nodup := List.Pairwise.filter _ List.nodup_range
theorem ord_perm (xs : List Ext) : (ord xs).Perm (used xs) := List.mergeSort_perm _ _
theorem ord_nodup (xs : List Ext) : (ord xs).Nodup := (ord_perm xs).nodup_iff.2 (used_nodup xs)
theorem mem_ord {xs : List Ext} {i : Nat} : i ∈ ord xs ↔ i < xs.length ∧ qAt xs i ≠ 0 := (ord_perm xs).mem_iff.trans mem_used
theorem ord_sorted (xs : List Ext) : (ord xs).Pairwise fun i j => qAt xs i ≤ qAt xs j := by
  have h := List.pairwise_mergeSort (le := fun i j => decide (qAt xs i ≤ qAt xs j)) (fun a b c h1 h2 => by simp at *; omega) (fun a b => by simp; omega) (used xs)
  exact h.imp fun h => by simpa using h
def Apart (xs : List Ext) : Prop := xs.Pairwise fun a b => b.q ≠ 0 → a.q ≠ b.q
theorem Apart.inj {xs : List Ext} (h : Apart xs) {i j : Nat} (hi : i < xs.length) (hj : j < xs.length) (h0 : qAt xs i ≠ 0) (he : qAt xs i = qAt xs j) : i = j := by
  have hp := List.pairwise_iff_getElem.1 h
  rw [qAt_eq hi] at h0 he
  rw [qAt_eq hj] at he
  rcases Nat.lt_trichotomy i j with h1 | h1 | h1
  · exact absurd he (hp i j hi hj h1 (by rw [← he]; exact h0))
  · exact h1
  · exact absurd he.symm (hp j i hj hi h1 h0)
theorem ord_uniq {xs : List Ext} (h : Apart xs) {m : List Nat} (hp : m.Perm (used xs)) (hs : m.Pairwise fun i j => qAt xs i ≤ qAt xs j) : m = ord xs := by
  refine List.Perm.eq_of_pairwise (le := fun i j => qAt xs i ≤ qAt xs j) ?_ hs (ord_sorted xs) (hp.trans (ord_perm xs).symm)
  intro a b ha hb h1 h2
  obtain ⟨h3, h4⟩ := mem_used.1 (hp.mem_iff.1 ha)
  obtain ⟨h5, h6⟩ := mem_ord.1 hb
  exact h.inj h3 h5 h4 (by omega)
theorem ord_rises {xs : List Ext} (h : Apart xs) : (ord xs).Pairwise fun i j => qAt xs i < qAt xs j := by
  have h1 := (ord_sorted xs).and (ord_nodup xs)
  refine List.Pairwise.imp_of_mem (fun {a b} ha hb hab => ?_) h1
  obtain ⟨h3, h4⟩ := mem_ord.1 ha
  obtain ⟨h5, h6⟩ := mem_ord.1 hb
  rcases Int.lt_or_eq_of_le hab.1 with h7 | h7
  · exact h7
  · exact absurd (h.inj h3 h5 h4 h7) hab.2
theorem free_rises (xs : List Ext) : (free xs).Pairwise (· < ·) := List.Pairwise.filter _ List.pairwise_lt_range
theorem parts_length (xs : List Ext) : (ord xs).length + (free xs).length = xs.length := by
  rw [(ord_perm xs).length_eq]
  have key : ∀ (p : Nat → Bool) (l : List Nat), (l.filter fun i => !p i).length + (l.filter p).length = l.length := by
    intro p l
    induction l with
    | nil => rfl
    | cons a r ih =>
      simp only [List.filter_cons]
      cases p a <;> simp <;> omega
  have := key (fun i => decide (qAt xs i = 0)) (List.range xs.length)
  rw [List.length_range] at this
  exact this

/-- the greatest number -/
def last (xs : List Ext) : Int := xs.foldl (fun m x => max m x.q) 0
theorem foldl_max (xs : List Ext) : ∀ a : Int, a ≤ xs.foldl (fun m x => max m x.q) a ∧ (∀ x ∈ xs, x.q ≤ xs.foldl (fun m x => max m x.q) a) ∧ (xs.foldl (fun m x => max m x.q) a = a ∨ ∃ x ∈ xs, xs.foldl (fun m x => max m x.q) a = x.q) := by
  induction xs with
  | nil => intro a; simp
  | cons y r ih =>
    intro a
    obtain ⟨h1, h2, h3⟩ := ih (max a y.q)
    rw [List.foldl_cons]
    refine ⟨by omega, fun x hx => ?_, ?_⟩
    · rcases List.mem_cons.1 hx with rfl | hx
      · omega
      · exact h2 x hx
    · rcases h3 with h3 | ⟨x, hx, h3⟩
      · rw [h3]
        rcases Int.le_total a y.q with h | h
        · exact .inr ⟨y, List.mem_cons_self .., by omega⟩
        · exact .inl (by omega)
      · exact .inr ⟨x, List.mem_cons_of_mem _ hx, h3⟩
theorem last_ge {xs : List Ext} : 0 ≤ last xs ∧ ∀ x ∈ xs, x.q ≤ last xs := ⟨(foldl_max xs 0).1, (foldl_max xs 0).2.1⟩
theorem last_is {xs : List Ext} : last xs = 0 ∨ ∃ x ∈ xs, last xs = x.q := (foldl_max xs 0).2.2
theorem last_at {xs : List Ext} {i : Nat} (h : i < xs.length) : qAt xs i ≤ last xs := by rw [qAt_eq h]; exact last_ge.2 _ (List.getElem_mem h)
theorem last_none {xs : List Ext} (h : ord xs = []) : last xs = 0 := by
  rcases @last_is xs with h1 | ⟨x, hx, h1⟩
  · exact h1
  · obtain ⟨i, hi, rfl⟩ := List.mem_iff_getElem.1 hx
    rw [h1]
    cases Int.decEq xs[i].q 0 with
    | isTrue h => exact h
    | isFalse h2 =>
      have : i ∈ ord xs := mem_ord.2 ⟨hi, by rw [qAt_eq hi]; exact h2⟩
      rw [h] at this; cases this
theorem last_last {xs : List Ext} (hn : ∀ x ∈ xs, 0 ≤ x.q) {l : List Nat} {k : Nat} (h : ord xs = l ++ [k]) : last xs = qAt xs k := by
  have hk : k ∈ ord xs := by rw [h]; simp
  obtain ⟨hk1, hk2⟩ := mem_ord.1 hk
  have h1 := last_at hk1
  rcases @last_is xs with h2 | ⟨x, hx, h2⟩
  · have := hn _ (List.getElem_mem hk1)
    rw [← qAt_eq hk1] at this
    omega
  · obtain ⟨i, hi, rfl⟩ := List.mem_iff_getElem.1 hx
    rw [← qAt_eq hi] at h2
    by_cases h0 : qAt xs i = 0
    · have := hn _ (List.getElem_mem hk1)
      rw [← qAt_eq hk1] at this
      omega
    · have hm := mem_ord.2 ⟨hi, h0⟩
      have hs := ord_sorted xs
      rw [h] at hm hs
      rcases List.mem_append.1 hm with hm | hm
      · have := (List.pairwise_append.1 hs).2.2 i hm k (by simp)
        omega
      · rw [List.mem_singleton] at hm
        subst hm
        exact h2

/-! what changes -/
theorem qAt_set {xs : List Ext} {k : Nat} (hk : k < xs.length) (x : Ext) (i : Nat) : qAt (xs.set k x) i = if i = k then x.q else qAt xs i := by
  unfold qAt
  rw [List.getD_eq_getElem?_getD, List.getD_eq_getElem?_getD, List.getElem?_set]
  by_cases h : i = k
  · subst h; simp [hk]
  · rw [if_neg (fun e => h e.symm), if_neg h]
theorem set_apart {xs : List Ext} (h : Apart xs) {k : Nat} (_ : k < xs.length) (x : Ext) (hx : x.q ≠ 0 → ∀ i, i < xs.length → i ≠ k → qAt xs i ≠ x.q) : Apart (xs.set k x) := by
  have hp := List.pairwise_iff_getElem.1 h
  refine List.pairwise_iff_getElem.2 fun i j hi hj hij h0 => ?_
  rw [List.length_set] at hi hj
  rw [List.getElem_set] at h0 ⊢
  rw [List.getElem_set]
  by_cases hjk : k = j
  · rw [if_pos hjk] at h0 ⊢
    rw [if_neg (by omega)]
    have := hx h0 i hi (by omega)
    rwa [qAt_eq hi] at this
  · rw [if_neg hjk] at h0 ⊢
    by_cases hik : k = i
    · rw [if_pos hik]
      intro e
      have := hx (by rw [e]; exact h0) j hj (by omega)
      rw [qAt_eq hj] at this
      exact this e.symm
    · rw [if_neg hik]
      exact hp i j hi hj hij h0
theorem Right.freed {t : T} (h : Right t) {k : Nat} (hk : k < t.xs.length) : Right ⟨t.gen, -1, t.xs.set k ⟨0, 0⟩⟩ := by
  refine ⟨h.g1, h.g2, by simpa using h.n1, by simpa using h.n2, fun x hx => ?_, set_apart h.ap hk _ (fun h0 => absurd rfl h0), .inl rfl⟩
  rcases List.mem_or_eq_of_mem_set hx with hx | rfl
  · exact h.ok x hx
  · decide
theorem Right.filled {t : T} (h : Right t) {k : Nat} (hk : k < t.xs.length) (hl : last t.xs < 2147483648) (y : Ext) : Right ⟨t.gen, k, (t.xs.set k y).set k ⟨last t.xs + 1, 0⟩⟩ := by
  have h0 := (@last_ge t.xs).1
  rw [List.set_set]
  refine ⟨h.g1, h.g2, by simpa using h.n1, by simpa using h.n2, fun x hx => ?_, set_apart h.ap hk _ (fun _ i hi _ => ?_), .inr ⟨⟨last t.xs + 1, 0⟩, by simp, by simp [hk], ?_, rfl⟩⟩
  · rcases List.mem_or_eq_of_mem_set hx with hx | rfl
    · exact h.ok x hx
    · rw [okE_iff]; simp only; omega
  · have := last_at hi
    simp only; omega
  · simp only; omega
theorem used_ext {xs ys : List Ext} (hl : xs.length = ys.length) (h : ∀ i, i < xs.length → (qAt xs i = 0 ↔ qAt ys i = 0)) : used xs = used ys := by
  unfold used
  rw [hl]
  apply List.filter_congr
  intro i hi
  have := h i (by rw [hl]; exact List.mem_range.1 hi)
  simp only [Bool.not_inj_iff, decide_eq_decide]
  exact this
/-- P9.1: filled with the greatest number: told last, all others as they were -/
theorem ord_filled {t : T} (h : Right t) {k : Nat} (hk : k < t.xs.length) (hl : last t.xs < 2147483648) : ord ((t.xs.set k ⟨0, 0⟩).set k ⟨last t.xs + 1, 0⟩) = ord (t.xs.set k ⟨0, 0⟩) ++ [k] := by
  have hF := h.filled hk hl ⟨0, 0⟩
  have hA := h.freed hk
  have h0 := (@last_ge t.xs).1
  have hqb : ∀ i, qAt ((t.xs.set k ⟨0, 0⟩).set k ⟨last t.xs + 1, 0⟩) i = if i = k then last t.xs + 1 else qAt t.xs i := fun i => by
    rw [List.set_set, qAt_set hk]
  have hqa : ∀ i, qAt (t.xs.set k ⟨0, 0⟩) i = if i = k then 0 else qAt t.xs i := fun i => by rw [qAt_set hk]
  refine (ord_uniq hF.ap ?_ ?_).symm
  · rw [List.perm_ext_iff_of_nodup ?_ (used_nodup _)]
    · intro i
      rw [List.mem_append, mem_ord, mem_used, hqa, hqb, List.length_set, List.length_set, List.length_set, List.mem_singleton]
      by_cases hik : i = k
      · subst hik; simp [hk]; omega
      · simp [hik]
    · refine List.nodup_append.2 ⟨ord_nodup _, by simp, fun a ha b hb => ?_⟩
      rw [List.mem_singleton] at hb
      subst hb
      rintro rfl
      have := (mem_ord.1 ha).2
      rw [hqa, if_pos rfl] at this
      exact this rfl
  · refine List.pairwise_append.2 ⟨?_, by simp, fun i hi j hj => ?_⟩
    · refine List.Pairwise.imp_of_mem (fun {a b} ha hb hab => ?_) (ord_sorted (t.xs.set k ⟨0, 0⟩))
      have h1 := (mem_ord.1 ha).2
      have h2 := (mem_ord.1 hb).2
      rw [hqa] at h1 h2 hab
      rw [hqa] at hab
      rw [hqb, hqb]
      by_cases ea : a = k
      · rw [if_pos ea] at h1; exact absurd rfl h1
      · by_cases eb : b = k
        · rw [if_pos eb] at h2; exact absurd rfl h2
        · rw [if_neg ea, if_neg eb] at hab ⊢
          exact hab
    · rw [List.mem_singleton] at hj
      subst hj
      obtain ⟨h1, h2⟩ := mem_ord.1 hi
      rw [List.length_set] at h1
      rw [hqa] at h2
      by_cases ei : i = j
      · rw [if_pos ei] at h2; exact absurd rfl h2
      · rw [hqb, hqb, if_neg ei, if_pos rfl]
        have := last_at h1
        omega
theorem last_filled {t : T} (h : Right t) {k : Nat} (hk : k < t.xs.length) (hl : last t.xs < 2147483648) : last ((t.xs.set k ⟨0, 0⟩).set k ⟨last t.xs + 1, 0⟩) = last t.xs + 1 := by
  have hF := h.filled hk hl ⟨0, 0⟩
  rw [last_last (fun x hx => (okE_iff.1 (hF.ok x hx)).1) (ord_filled h hk hl), List.set_set, qAt_set hk, if_pos rfl]
theorem free_filled {t : T} (h : Right t) {k : Nat} (hk : k < t.xs.length) (hl : last t.xs < 2147483648) : (free (t.xs.set k ⟨0, 0⟩)).length = (free ((t.xs.set k ⟨0, 0⟩).set k ⟨last t.xs + 1, 0⟩)).length + 1 := by
  have h1 := parts_length (t.xs.set k ⟨0, 0⟩)
  have h2 := parts_length ((t.xs.set k ⟨0, 0⟩).set k ⟨last t.xs + 1, 0⟩)
  rw [ord_filled h hk hl, List.length_append] at h2
  simp only [List.length_set, List.length_singleton] at h1 h2
  omega

/-! what is refused -/
theorem twice_wrong {xs : List Ext} {k j : Nat} (hk : k < xs.length) (hj : j < xs.length) (hn : k ≠ j) (g o : Int) : right ⟨g, o, (xs.set k ⟨77, 0⟩).set j ⟨77, 0⟩⟩ = false := by
  cases h : right ⟨g, o, (xs.set k ⟨77, 0⟩).set j ⟨77, 0⟩⟩ with
  | false => rfl
  | true =>
    exfalso
    have hA : Apart ((xs.set k ⟨77, 0⟩).set j ⟨77, 0⟩) := (right_iff.1 h).ap
    have e1 : qAt ((xs.set k ⟨77, 0⟩).set j ⟨77, 0⟩) k = 77 := by rw [qAt_set (by simpa using hj), if_neg hn, qAt_set hk, if_pos rfl]
    have e2 : qAt ((xs.set k ⟨77, 0⟩).set j ⟨77, 0⟩) j = 77 := by rw [qAt_set (by simpa using hj), if_pos rfl]
    exact hn (hA.inj (by simpa using hk) (by simpa using hj) (by rw [e1]; decide) (by rw [e1, e2]))
theorem open_wrong {xs : List Ext} {k : Nat} (hk : k < xs.length) (x : Ext) (hx : ¬ (x.q ≠ 0 ∧ x.l = 0)) (g : Int) : right ⟨g, k, xs.set k x⟩ = false := by
  cases h : right ⟨g, k, xs.set k x⟩ with
  | false => rfl
  | true =>
    exfalso
    rcases (right_iff.1 h).op with h1 | ⟨y, -, h2, h3, h4⟩
    · simp only at h1; omega
    · simp [hk] at h2
      subst h2
      exact hx ⟨h3, h4⟩
theorem few_wrong (g o : Int) (xs : List Ext) (h : xs.length < 4) : right ⟨g, o, xs⟩ = false := by
  cases hr : right ⟨g, o, xs⟩ with
  | false => rfl
  | true => exact absurd (right_iff.1 hr).n1 (by simp only; omega)
/-- another Gen -/
theorem Right.gen {t : T} (h : Right t) : Right ⟨t.gen % 2147483648 + 1, t.opn, t.xs⟩ := by
  refine ⟨by simp only; omega, by simp only; omega, h.n1, h.n2, h.ok, h.ap, h.op⟩
theorem gen_other {t : T} (h : Right t) : (⟨t.gen % 2147483648 + 1, t.opn, t.xs⟩ : T) ≠ t := by
  intro e
  have := congrArg T.gen e
  have h1 := h.g1
  have h2 := h.g2
  simp only at this
  omega
end Go.Proofs.Ytgicjdlpkphfnaa.Tb
