/-
  Plain mathematics of layer 1, with no program in it: how many seven-bit groups a number takes, its bytes, what bytes begin with, and that these fit each other. Nothing is assumed.
-/
namespace Go.Proofs.YtiipcnldedjkdaaDoor.Plain

/-- 2^48 -/
def maxN : Nat := 281474976710656

/-- how many bytes a number takes (for n ≤ 2^48) -/
def sz (n : Nat) : Nat :=
  if n < 128 then 1 else if n < 16384 then 2 else if n < 2097152 then 3 else if n < 268435456 then 4 else if n < 34359738368 then 5 else if n < 4398046511104 then 6 else 7

theorem sz_pos (n : Nat) : 1 ≤ sz n := by unfold sz; repeat' split
                                          all_goals omega
theorem sz_le (n : Nat) : sz n ≤ 7 := by unfold sz; repeat' split
                                         all_goals omega
theorem sz_mono {a b : Nat} (h : a ≤ b) : sz a ≤ sz b := by
  unfold sz; repeat' split
  all_goals omega

/-- its bytes: k groups, the lowest first, all but the last with the highest bit -/
def enc : Nat → Nat → List UInt8
  | 0, _ => []
  | k + 1, n => (UInt8.ofNat (if k = 0 then n % 128 else n % 128 + 128)) :: enc k (n / 128)

theorem enc_length (k n : Nat) : (enc k n).length = k := by
  induction k generalizing n with
  | zero => rfl
  | succ k ih => simp [enc, ih]

/-- the bytes of any integer: none, if it is no number -/
def put (n : Int) : List UInt8 := if 0 ≤ n ∧ n ≤ 281474976710656 then enc (sz n.toNat) n.toNat else []
def size (n : Int) : Nat := if 0 ≤ n ∧ n ≤ 281474976710656 then sz n.toNat else 0

theorem put_length (n : Int) : (put n).length = size n := by
  unfold put size
  split
  · exact enc_length _ _
  · rfl
theorem size_le (n : Int) : size n ≤ 7 := by
  unfold size; split
  · exact sz_le _
  · omega

/-- what bytes begin with: the number, how many it takes, the error's number -/
def getL : Nat → List UInt8 → Nat → Nat → Nat × Nat × Nat
  | 0, _, _, _ => (0, 0, 12)
  | _ + 1, [], _, _ => (0, 0, 11)
  | f + 1, c :: r, i, acc =>
    if c.toNat < 128 then
      (if (0 < i ∧ c.toNat = 0) ∨ maxN < acc + c.toNat * 128 ^ i then (0, 0, 12) else (acc + c.toNat * 128 ^ i, i + 1, 0))
    else getL f r (i + 1) (acc + (c.toNat - 128) * 128 ^ i)
def get (b : List UInt8) : Nat × Nat × Nat := getL 7 b 0 0

/-- of a number of k bytes, all but the last group shift it down -/
def gt : Nat → Nat → Nat → Nat → Prop := fun k n i acc => acc + n * 128 ^ i ≤ maxN ∧ (k = 1 ∧ (i = 0 ∨ 0 < n) ∧ n < 128 ∨ 1 < k ∧ 128 ^ (k - 1) ≤ n ∧ n < 128 ^ k)

theorem byte_last (n : Nat) : (UInt8.ofNat (n % 128)).toNat = n % 128 := by
  have : n % 128 < 128 := Nat.mod_lt _ (by omega)
  simp only [UInt8.toNat_ofNat']; omega
theorem byte_more (n : Nat) : (UInt8.ofNat (n % 128 + 128)).toNat = n % 128 + 128 := by
  have : n % 128 < 128 := Nat.mod_lt _ (by omega)
  simp only [UInt8.toNat_ofNat']; omega

theorem getL_enc (k n i acc f : Nat) (r : List UInt8) (hk : 0 < k) (hf : k ≤ f) (h : gt k n i acc) : getL f (enc k n ++ r) i acc = (acc + n * 128 ^ i, i + k, 0) := by
  induction k generalizing n i acc f with
  | zero => omega
  | succ k ih =>
    obtain ⟨f, rfl⟩ : ∃ g, f = g + 1 := ⟨f - 1, by omega⟩
    obtain ⟨hm, hc⟩ := h
    simp only [enc, List.cons_append, getL]
    rcases Nat.eq_zero_or_pos k with rfl | hk'
    · rcases hc with ⟨_, h0, hn⟩ | ⟨h, _⟩
      · have e : n % 128 = n := Nat.mod_eq_of_lt hn
        simp only [if_true, e]
        have eb := byte_last n
        rw [e] at eb
        simp only [eb, hn, if_true]
        rw [if_neg]
        rintro (⟨hi, hz⟩ | hz) <;> omega
      · omega
    · rcases hc with ⟨h, _⟩ | ⟨_, hlo, hhi⟩
      · omega
      · rw [if_neg (by omega : ¬ k = 0), byte_more, if_neg (by omega)]
        have hs : acc + (n % 128 + 128 - 128) * 128 ^ i + n / 128 * 128 ^ (i + 1) = acc + n * 128 ^ i := by
          have e1 : n / 128 * 128 ^ (i + 1) = 128 * (n / 128) * 128 ^ i := by
            rw [Nat.pow_succ, Nat.mul_comm (128 ^ i) 128, ← Nat.mul_assoc, Nat.mul_comm (n / 128) 128]
          rw [e1, Nat.add_sub_cancel, Nat.add_assoc, ← Nat.add_mul, Nat.mod_add_div]
        have hpow : 128 ^ (k + 1 - 1) = 128 * 128 ^ (k - 1) := by
          obtain ⟨j, rfl⟩ : ∃ j, k = j + 1 := ⟨k - 1, by omega⟩
          simp [Nat.pow_succ, Nat.mul_comm]
        have hpow2 : 128 ^ (k + 1) = 128 * 128 ^ k := by rw [Nat.pow_succ, Nat.mul_comm]
        have hd1 : 128 ^ (k - 1) ≤ n / 128 := by rw [Nat.le_div_iff_mul_le (by omega), Nat.mul_comm]; omega
        have hd2 : n / 128 < 128 ^ k := by rw [Nat.div_lt_iff_lt_mul (by omega), Nat.mul_comm]; omega
        rw [ih (n / 128) (i + 1) _ f hk' (by omega) ⟨by rw [hs]; exact hm, ?_⟩, hs, Nat.add_assoc, Nat.add_comm 1 k]
        rcases Nat.eq_or_lt_of_le (show 1 ≤ k by omega) with e | e
        · left
          subst e
          exact ⟨rfl, Or.inr (Nat.lt_of_lt_of_le Nat.zero_lt_one hd1), by simpa using hd2⟩
        · exact Or.inr ⟨e, hd1, hd2⟩

theorem gt_sz (n : Nat) (h : n ≤ 281474976710656) : gt (sz n) n 0 0 := by
  refine ⟨by simp [maxN]; exact h, ?_⟩
  unfold sz
  repeat' split
  all_goals first | (left; exact ⟨rfl, Or.inl rfl, by omega⟩) | (right; exact ⟨by omega, by omega, by omega⟩)

/-- P1.2: a number is got of its bytes, whatever is behind them. -/
theorem get_put (n : Nat) (h : n ≤ 281474976710656) (r : List UInt8) : get (enc (sz n) n ++ r) = (n, sz n, 0) := by
  have := getL_enc (sz n) n 0 0 7 r (sz_pos n) (sz_le n) (gt_sz n h)
  simpa [get] using this

/-- P1.3: its bytes that are cut are too short. -/
theorem getL_cut (k n i acc f j : Nat) (hf : k ≤ f) (hj : j < k) : getL f ((enc k n).take j) i acc = (0, 0, 11) := by
  induction j generalizing k n i acc f with
  | zero =>
    obtain ⟨f, rfl⟩ : ∃ g, f = g + 1 := ⟨f - 1, by omega⟩
    simp [getL]
  | succ j ih =>
    obtain ⟨f, rfl⟩ : ∃ g, f = g + 1 := ⟨f - 1, by omega⟩
    obtain ⟨k, rfl⟩ : ∃ g, k = g + 1 := ⟨k - 1, by omega⟩
    simp only [enc, List.take_succ_cons, getL]
    rw [if_neg (by omega : ¬ k = 0), byte_more, if_neg (by omega)]
    exact ih k (n / 128) (i + 1) _ f (by omega) (by omega)
theorem get_cut (n j : Nat) (hj : j < sz n) : get ((enc (sz n) n).take j) = (0, 0, 11) := getL_cut _ _ _ _ _ _ (sz_le n) hj

/-- what is got is 0, 0 beside an error, and else a number of the size told -/
theorem getL_err (f : Nat) (b : List UInt8) (i acc : Nat) : (getL f b i acc).2.2 = 0 ∨ (getL f b i acc = (0, 0, 11) ∨ getL f b i acc = (0, 0, 12)) := by
  induction f generalizing b i acc with
  | zero => exact Or.inr (Or.inr rfl)
  | succ f ih =>
    cases b with
    | nil => exact Or.inr (Or.inl rfl)
    | cons c r =>
      simp only [getL]
      split
      · split
        · exact Or.inr (Or.inr rfl)
        · exact Or.inl rfl
      · exact ih r _ _
theorem get_err (b : List UInt8) : (get b).2.2 = 0 ∨ (get b = (0, 0, 11) ∨ get b = (0, 0, 12)) := getL_err 7 b 0 0

theorem ofNat_toNat_last (c : UInt8) (h : c.toNat < 128) : UInt8.ofNat (c.toNat % 128) = c := by
  rw [Nat.mod_eq_of_lt h]; exact UInt8.ofNat_toNat
theorem ofNat_toNat_more (c : UInt8) (h : ¬ c.toNat < 128) : UInt8.ofNat ((c.toNat - 128) % 128 + 128) = c := by
  have hc := c.toNat_lt
  rw [Nat.mod_eq_of_lt (by omega), show c.toNat - 128 + 128 = c.toNat by omega]; exact UInt8.ofNat_toNat

/-- what is got of any bytes has them: beyond i places, with acc below 128^i -/
theorem getL_back (f : Nat) (b : List UInt8) (i acc x j : Nat) (ha : acc < 128 ^ i) (h : getL f b i acc = (x, j, 0)) :
    ∃ k m, 0 < k ∧ k ≤ f ∧ j = i + k ∧ k ≤ b.length ∧ x = acc + m * 128 ^ i ∧ gt k m i acc ∧ b.take k = enc k m := by
  induction f generalizing b i acc with
  | zero => simp [getL] at h
  | succ f ih =>
    cases b with
    | nil => simp [getL] at h
    | cons c r =>
      simp only [getL] at h
      split at h
      · rename_i hc
        split at h
        · simp at h
        · rename_i hn
          injection h with h1 h2
          injection h2 with h2 h3
          refine ⟨1, c.toNat, by omega, by omega, h2.symm, by simp, h1.symm, ⟨by omega, Or.inl ⟨rfl, by omega, hc⟩⟩, ?_⟩
          simp [enc, ofNat_toNat_last c hc]
      · rename_i hc
        have hcl := c.toNat_lt
        have hpos : 0 < 128 ^ i := Nat.pow_pos (by omega)
        have ha' : acc + (c.toNat - 128) * 128 ^ i < 128 ^ (i + 1) := by
          have : (c.toNat - 128) * 128 ^ i ≤ 127 * 128 ^ i := Nat.mul_le_mul_right _ (by omega)
          rw [Nat.pow_succ]; omega
        obtain ⟨k, m, hk, hkf, hj, hl, hx, hg, ht⟩ := ih r (i + 1) _ ha' h
        refine ⟨k + 1, (c.toNat - 128) + 128 * m, by omega, by omega, by omega, by simp; omega, ?_, ?_, ?_⟩
        · rw [hx, Nat.pow_succ, Nat.add_mul, ← Nat.add_assoc]; congr 1
          rw [Nat.mul_comm 128 m, Nat.mul_assoc, Nat.mul_comm (128 ^ i) 128]
        · obtain ⟨hm, hc'⟩ := hg
          refine ⟨?_, Or.inr ⟨by omega, ?_⟩⟩
          · have e : acc + (c.toNat - 128 + 128 * m) * 128 ^ i = acc + (c.toNat - 128) * 128 ^ i + m * 128 ^ (i + 1) := by
              rw [Nat.pow_succ, Nat.add_mul, ← Nat.add_assoc]; congr 1
              rw [Nat.mul_comm 128 m, Nat.mul_assoc, Nat.mul_comm (128 ^ i) 128]
            rw [e]; exact hm
          · have hp1 : 128 ^ (k + 1) = 128 * 128 ^ k := by rw [Nat.pow_succ, Nat.mul_comm]
            have hlo : 128 ^ (k - 1) ≤ m := by
              rcases hc' with ⟨rfl, h0, _⟩ | ⟨_, h1, _⟩
              · simp; omega
              · exact h1
            have hhi : m < 128 ^ k := by
              rcases hc' with ⟨rfl, _, h1⟩ | ⟨_, _, h1⟩
              · simpa using h1
              · exact h1
            have hp2 : 128 ^ (k + 1 - 1) = 128 * 128 ^ (k - 1) := by
              obtain ⟨q, rfl⟩ : ∃ q, k = q + 1 := ⟨k - 1, by omega⟩
              simp [Nat.pow_succ, Nat.mul_comm]
            omega
        · rw [List.take_succ_cons, ht]
          simp only [enc]
          rw [if_neg (by omega : ¬ k = 0)]
          have e1 : (c.toNat - 128 + 128 * m) % 128 = (c.toNat - 128) % 128 := by omega
          have e2 : (c.toNat - 128 + 128 * m) / 128 = m := by omega
          rw [e1, e2, ofNat_toNat_more c hc]

theorem sz_of_gt (k m : Nat) (hk : k ≤ 7) (h : gt k m 0 0) : sz m = k := by
  obtain ⟨_, ⟨rfl, _, h⟩ | ⟨h1, h2, h3⟩⟩ := h
  · simp [sz, h]
  · obtain rfl | rfl | rfl | rfl | rfl | rfl : k = 2 ∨ k = 3 ∨ k = 4 ∨ k = 5 ∨ k = 6 ∨ k = 7 := by omega
    all_goals (unfold sz; repeat' split)
    all_goals omega

/-- P1.2: what is got of any bytes has just these. -/
theorem get_back (b : List UInt8) (x j : Nat) (h : get b = (x, j, 0)) : x ≤ 281474976710656 ∧ j = sz x ∧ j ≤ b.length ∧ b.take j = enc (sz x) x := by
  obtain ⟨k, m, hk, hkf, hj, hl, hx, hg, ht⟩ := getL_back 7 b 0 0 x j (by simp) h
  obtain rfl : x = m := by simpa using hx
  have e := sz_of_gt k x hkf hg
  have e2 : j = k := by omega
  subst e2
  exact ⟨by have := hg.1; simp [maxN] at this; exact this, e.symm, hl, by rw [ht, e]⟩

theorem get_small (b : List UInt8) : (get b).1 ≤ 281474976710656 ∧ (get b).2.1 ≤ 7 ∧ (get b).2.1 ≤ b.length := by
  rcases get_err b with h | h | h
  · have hb := get_back b (get b).1 (get b).2.1 (by rw [← h])
    have := sz_le (get b).1
    omega
  · rw [h]; simp
  · rw [h]; simp

/-- the text that bytes begin with, how many it takes, the error's number -/
def getText (b : List UInt8) : List UInt8 × Nat × Nat :=
  if (get b).2.2 ≠ 0 then ([], 0, (get b).2.2)
  else if 32 < (get b).1 then ([], 0, 12)
  else if b.length < (get b).2.1 + (get b).1 then ([], 0, 11)
  else ((b.drop (get b).2.1).take (get b).1, (get b).2.1 + (get b).1, 0)
/-- the bytes of a text: none, if it is no text -/
def putText (s : List UInt8) : List UInt8 := if 32 < s.length then [] else put s.length ++ s

theorem code_cases (b : List UInt8) : (get b).2.2 = 0 ∨ (get b).2.2 = 11 ∨ (get b).2.2 = 12 := by
  rcases get_err b with h | h | h
  · exact .inl h
  · rw [h]; simp
  · rw [h]; simp
theorem textCode_cases (b : List UInt8) : (getText b).2.2 = 0 ∨ (getText b).2.2 = 11 ∨ (getText b).2.2 = 12 := by
  unfold getText
  have := code_cases b
  repeat' split
  all_goals simp_all
theorem put_small (n : Nat) (h : n < 128) : put n = [UInt8.ofNat n] := by
  unfold put
  rw [if_pos (by omega)]
  simp [sz, h, enc, Nat.mod_eq_of_lt h]

end Go.Proofs.YtiipcnldedjkdaaDoor.Plain
