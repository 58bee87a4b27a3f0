/-
  Plain: Plain mathematics of layer 1, with no program in it: how many seven-bit groups a number takes, its bytes, what bytes begin with, and that these fit each other. Nothing is assumed.
  Plain2: Plain mathematics of layer 1, of texts: a text is got of its bytes, whatever is behind them; bytes of one that are cut are too short. Nothing is assumed.
  Crc: Plain mathematics of layer 2, with no program in it: the register, bit by bit, four bits at once, and by bytes; that it is linear and loses nothing; sums, what is sealed, and that a burst is told. Nothing is assumed.
  SpanP: Plain mathematics of layer 3, with no program in it: which spans are right, their bytes, the span that bytes begin with, and that these fit each other. Nothing is assumed.
  BatP: Plain mathematics of layer 4, with no program in it: batches, their bytes, the spans of any bytes or what is wrong with them and where, and that these fit each other. Nothing is assumed.
-/

namespace Go.Proofs.Ytgicjdlpkphfnaa.Plain

/-- 2^48 -/
def maxN : Nat := 281474976710656

/-- how many bytes a number takes (for n ≤ 2^48) -/
def sz (n : Nat) : Nat :=
  if n < 128 then 1 else if n < 16384 then 2 else if n < 2097152 then 3 else if n < 268435456 then 4 else if n < 34359738368 then 5 else if n < 4398046511104 then 6 else 7

theorem sz_pos (n : Nat) : 1 ≤ sz n := by unfold sz; repeat' split
                                          all_goals omega
theorem sz_le (n : Nat) : sz n ≤ 7 := by unfold sz; repeat' split
                                         all_goals omega
theorem sz_mono {a b : Nat} (h : a ≤ b) : sz a ≤ sz b := by
  unfold sz; repeat' split
  all_goals omega

/-- its bytes: k groups, the lowest first, all but the last with the highest bit -/
def enc : Nat → Nat → List UInt8
  | 0, _ => []
  | k + 1, n => (UInt8.ofNat (if k = 0 then n % 128 else n % 128 + 128)) :: enc k (n / 128)

theorem enc_length (k n : Nat) : (enc k n).length = k := by
  induction k generalizing n with
  | zero => rfl
  | succ k ih => simp [enc, ih]

/-- the bytes of any integer: none, if it is no number -/
def put (n : Int) : List UInt8 := if 0 ≤ n ∧ n ≤ 281474976710656 then enc (sz n.toNat) n.toNat else []
def size (n : Int) : Nat := if 0 ≤ n ∧ n ≤ 281474976710656 then sz n.toNat else 0

theorem put_length (n : Int) : (put n).length = size n := by
  unfold put size
  split
  · exact enc_length _ _
  · rfl
theorem size_le (n : Int) : size n ≤ 7 := by
  unfold size; split
  · exact sz_le _
  · omega

/-- what bytes begin with: the number, how many it takes, the error's number -/
def getL : Nat → List UInt8 → Nat → Nat → Nat × Nat × Nat
  | 0, _, _, _ => (0, 0, 12)
  | _ + 1, [], _, _ => (0, 0, 11)
  | f + 1, c :: r, i, acc =>
    if c.toNat < 128 then
      (if (0 < i ∧ c.toNat = 0) ∨ maxN < acc + c.toNat * 128 ^ i then (0, 0, 12) else (acc + c.toNat * 128 ^ i, i + 1, 0))
    else getL f r (i + 1) (acc + (c.toNat - 128) * 128 ^ i)
def get (b : List UInt8) : Nat × Nat × Nat := getL 7 b 0 0

/-- of a number of k bytes, all but the last group shift it down -/
def gt : Nat → Nat → Nat → Nat → Prop := fun k n i acc => acc + n * 128 ^ i ≤ maxN ∧ (k = 1 ∧ (i = 0 ∨ 0 < n) ∧ n < 128 ∨ 1 < k ∧ 128 ^ (k - 1) ≤ n ∧ n < 128 ^ k)

theorem byte_last (n : Nat) : (UInt8.ofNat (n % 128)).toNat = n % 128 := by
  have : n % 128 < 128 := Nat.mod_lt _ (by omega)
  simp only [UInt8.toNat_ofNat']; omega
theorem byte_more (n : Nat) : (UInt8.ofNat (n % 128 + 128)).toNat = n % 128 + 128 := by
  have : n % 128 < 128 := Nat.mod_lt _ (by omega)
  simp only [UInt8.toNat_ofNat']; omega

theorem getL_enc (k n i acc f : Nat) (r : List UInt8) (hk : 0 < k) (hf : k ≤ f) (h : gt k n i acc) : getL f (enc k n ++ r) i acc = (acc + n * 128 ^ i, i + k, 0) := by
  induction k generalizing n i acc f with
  | zero => omega
  | succ k ih =>
    obtain ⟨f, rfl⟩ : ∃ g, f = g + 1 := ⟨f - 1, by omega⟩
    obtain ⟨hm, hc⟩ := h
    simp only [enc, List.cons_append, getL]
    rcases Nat.eq_zero_or_pos k with rfl | hk'
    · rcases hc with ⟨_, h0, hn⟩ | ⟨h, _⟩
      · have e : n % 128 = n := Nat.mod_eq_of_lt hn
        simp only [if_true, e]
        have eb := byte_last n
        rw [e] at eb
        simp only [eb, hn, if_true]
        rw [if_neg]
        rintro (⟨hi, hz⟩ | hz) <;> omega
      · omega
    · rcases hc with ⟨h, _⟩ | ⟨_, hlo, hhi⟩
      · omega
      · rw [if_neg (by omega : ¬ k = 0), byte_more, if_neg (by omega)]
        have hs : acc + (n % 128 + 128 - 128) * 128 ^ i + n / 128 * 128 ^ (i + 1) = acc + n * 128 ^ i := by
          have e1 : n / 128 * 128 ^ (i + 1) = 128 * (n / 128) * 128 ^ i := by
            rw [Nat.pow_succ, Nat.mul_comm (128 ^ i) 128, ← Nat.mul_assoc, Nat.mul_comm (n / 128) 128]
          rw [e1, Nat.add_sub_cancel, Nat.add_assoc, ← Nat.add_mul, Nat.mod_add_div]
        have hpow : 128 ^ (k + 1 - 1) = 128 * 128 ^ (k - 1) := by
          obtain ⟨j, rfl⟩ : ∃ j, k = j + 1 := ⟨k - 1, by omega⟩
          simp [Nat.pow_succ, Nat.mul_comm]
        have hpow2 : 128 ^ (k + 1) = 128 * 128 ^ k := by rw [Nat.pow_succ, Nat.mul_comm]
        have hd1 : 128 ^ (k - 1) ≤ n / 128 := by rw [Nat.le_div_iff_mul_le (by omega), Nat.mul_comm]; omega
        have hd2 : n / 128 < 128 ^ k := by rw [Nat.div_lt_iff_lt_mul (by omega), Nat.mul_comm]; omega
        rw [ih (n / 128) (i + 1) _ f hk' (by omega) ⟨by rw [hs]; exact hm, ?_⟩, hs, Nat.add_assoc, Nat.add_comm 1 k]
        rcases Nat.eq_or_lt_of_le (show 1 ≤ k by omega) with e | e
        · left
          subst e
          exact ⟨rfl, Or.inr (Nat.lt_of_lt_of_le Nat.zero_lt_one hd1), by simpa using hd2⟩
        · exact Or.inr ⟨e, hd1, hd2⟩

theorem gt_sz (n : Nat) (h : n ≤ 281474976710656) : gt (sz n) n 0 0 := by
  refine ⟨by simp [maxN]; exact h, ?_⟩
  unfold sz
  repeat' split
  all_goals first | (left; exact ⟨rfl, Or.inl rfl, by omega⟩) | (right; exact ⟨by omega, by omega, by omega⟩)

/-- P1.2: a number is got of its bytes, whatever is behind them. -/
theorem get_put (n : Nat) (h : n ≤ 281474976710656) (r : List UInt8) : get (enc (sz n) n ++ r) = (n, sz n, 0) := by
  have := getL_enc (sz n) n 0 0 7 r (sz_pos n) (sz_le n) (gt_sz n h)
  simpa [get] using this

/-- P1.3: its bytes that are cut are too short. -/
theorem getL_cut (k n i acc f j : Nat) (hf : k ≤ f) (hj : j < k) : getL f ((enc k n).take j) i acc = (0, 0, 11) := by
  induction j generalizing k n i acc f with
  | zero =>
    obtain ⟨f, rfl⟩ : ∃ g, f = g + 1 := ⟨f - 1, by omega⟩
    simp [getL]
  | succ j ih =>
    obtain ⟨f, rfl⟩ : ∃ g, f = g + 1 := ⟨f - 1, by omega⟩
    obtain ⟨k, rfl⟩ : ∃ g, k = g + 1 := ⟨k - 1, by omega⟩
    simp only [enc, List.take_succ_cons, getL]
    rw [if_neg (by omega : ¬ k = 0), byte_more, if_neg (by omega)]
    exact ih k (n / 128) (i + 1) _ f (by omega) (by omega)
theorem get_cut (n j : Nat) (hj : j < sz n) : get ((enc (sz n) n).take j) = (0, 0, 11) := getL_cut _ _ _ _ _ _ (sz_le n) hj

/-- what is got is 0, 0 beside an error, and else a number of the size told -/
theorem getL_err (f : Nat) (b : List UInt8) (i acc : Nat) : (getL f b i acc).2.2 = 0 ∨ (getL f b i acc = (0, 0, 11) ∨ getL f b i acc = (0, 0, 12)) := by
  induction f generalizing b i acc with
  | zero => exact Or.inr (Or.inr rfl)
  | succ f ih =>
    cases b with
    | nil => exact Or.inr (Or.inl rfl)
    | cons c r =>
      simp only [getL]
      split
      · split
        · exact Or.inr (Or.inr rfl)
        · exact Or.inl rfl
      · exact ih r _ _
theorem get_err (b : List UInt8) : (get b).2.2 = 0 ∨ (get b = (0, 0, 11) ∨ get b = (0, 0, 12)) := getL_err 7 b 0 0

theorem ofNat_toNat_last (c : UInt8) (h : c.toNat < 128) : UInt8.ofNat (c.toNat % 128) = c := by
  rw [Nat.mod_eq_of_lt h]; exact UInt8.ofNat_toNat
theorem ofNat_toNat_more (c : UInt8) (h : ¬ c.toNat < 128) : UInt8.ofNat ((c.toNat - 128) % 128 + 128) = c := by
  have hc := c.toNat_lt
  rw [Nat.mod_eq_of_lt (by omega), show c.toNat - 128 + 128 = c.toNat by omega]; exact UInt8.ofNat_toNat

/-- what is got of any bytes has them: beyond i places, with acc below 128^i -/
theorem getL_back (f : Nat) (b : List UInt8) (i acc x j : Nat) (ha : acc < 128 ^ i) (h : getL f b i acc = (x, j, 0)) :
    ∃ k m, 0 < k ∧ k ≤ f ∧ j = i + k ∧ k ≤ b.length ∧ x = acc + m * 128 ^ i ∧ gt k m i acc ∧ b.take k = enc k m := by
  induction f generalizing b i acc with
  | zero => simp [getL] at h
  | succ f ih =>
    cases b with
    | nil => simp [getL] at h
    | cons c r =>
      simp only [getL] at h
      split at h
      · rename_i hc
        split at h
        · simp at h
        · rename_i hn
          injection h with h1 h2
          injection h2 with h2 h3
          refine ⟨1, c.toNat, by omega, by omega, h2.symm, by simp, h1.symm, ⟨by omega, Or.inl ⟨rfl, by omega, hc⟩⟩, ?_⟩
          simp [enc, ofNat_toNat_last c hc]
      · rename_i hc
        have hcl := c.toNat_lt
        have hpos : 0 < 128 ^ i := Nat.pow_pos (by omega)
        have ha' : acc + (c.toNat - 128) * 128 ^ i < 128 ^ (i + 1) := by
          have : (c.toNat - 128) * 128 ^ i ≤ 127 * 128 ^ i := Nat.mul_le_mul_right _ (by omega)
          rw [Nat.pow_succ]; omega
        obtain ⟨k, m, hk, hkf, hj, hl, hx, hg, ht⟩ := ih r (i + 1) _ ha' h
        refine ⟨k + 1, (c.toNat - 128) + 128 * m, by omega, by omega, by omega, by simp; omega, ?_, ?_, ?_⟩
        · rw [hx, Nat.pow_succ, Nat.add_mul, ← Nat.add_assoc]; congr 1
          rw [Nat.mul_comm 128 m, Nat.mul_assoc, Nat.mul_comm (128 ^ i) 128]
        · obtain ⟨hm, hc'⟩ := hg
          refine ⟨?_, Or.inr ⟨by omega, ?_⟩⟩
          · have e : acc + (c.toNat - 128 + 128 * m) * 128 ^ i = acc + (c.toNat - 128) * 128 ^ i + m * 128 ^ (i + 1) := by
              rw [Nat.pow_succ, Nat.add_mul, ← Nat.add_assoc]; congr 1
              rw [Nat.mul_comm 128 m, Nat.mul_assoc, Nat.mul_comm (128 ^ i) 128]
            rw [e]; exact hm
          · have hp1 : 128 ^ (k + 1) = 128 * 128 ^ k := by rw [Nat.pow_succ, Nat.mul_comm]
            have hlo : 128 ^ (k - 1) ≤ m := by
              rcases hc' with ⟨rfl, h0, _⟩ | ⟨_, h1, _⟩
              · simp; omega
              · exact h1
            have hhi : m < 128 ^ k := by
              rcases hc' with ⟨rfl, _, h1⟩ | ⟨_, _, h1⟩
              · simpa using h1
              · exact h1
            have hp2 : 128 ^ (k + 1 - 1) = 128 * 128 ^ (k - 1) := by
              obtain ⟨q, rfl⟩ : ∃ q, k = q + 1 := ⟨k - 1, by omega⟩
              simp [Nat.pow_succ, Nat.mul_comm]
            omega
        · rw [List.take_succ_cons, ht]
          simp only [enc]
          rw [if_neg (by omega : ¬ k = 0)]
          have e1 : (c.toNat - 128 + 128 * m) % 128 = (c.toNat - 128) % 128 := by omega
          have e2 : (c.toNat - 128 + 128 * m) / 128 = m := by omega
          rw [e1, e2, ofNat_toNat_more c hc]

theorem sz_of_gt (k m : Nat) (hk : k ≤ 7) (h : gt k m 0 0) : sz m = k := by
  obtain ⟨_, ⟨rfl, _, h⟩ | ⟨h1, h2, h3⟩⟩ := h
  · simp [sz, h]
  · obtain rfl | rfl | rfl | rfl | rfl | rfl : k = 2 ∨ k = 3 ∨ k = 4 ∨ k = 5 ∨ k = 6 ∨ k = 7 := by omega
    all_goals (unfold sz; repeat' split)
    all_goals omega

/-- P1.2: what is got of any bytes has just these. -/
theorem get_back (b : List UInt8) (x j : Nat) (h : get b = (x, j, 0)) : x ≤ 281474976710656 ∧ j = sz x ∧ j ≤ b.length ∧ b.take j = enc (sz x) x := by
  obtain ⟨k, m, hk, hkf, hj, hl, hx, hg, ht⟩ := getL_back 7 b 0 0 x j (by simp) h
  obtain rfl : x = m := by simpa using hx
  have e := sz_of_gt k x hkf hg
  have e2 : j = k := by omega
  subst e2
  exact ⟨by have := hg.1; simp [maxN] at this; exact this, e.symm, hl, by rw [ht, e]⟩

theorem get_small (b : List UInt8) : (get b).1 ≤ 281474976710656 ∧ (get b).2.1 ≤ 7 ∧ (get b).2.1 ≤ b.length := by
  rcases get_err b with h | h | h
  · have hb := get_back b (get b).1 (get b).2.1 (by rw [← h])
    have := sz_le (get b).1
    omega
  · rw [h]; simp
  · rw [h]; simp

/-- the text that bytes begin with, how many it takes, the error's number -/
def getText (b : List UInt8) : List UInt8 × Nat × Nat :=
  if (get b).2.2 ≠ 0 then ([], 0, (get b).2.2)
  else if 32 < (get b).1 then ([], 0, 12)
  else if b.length < (get b).2.1 + (get b).1 then ([], 0, 11)
  else ((b.drop (get b).2.1).take (get b).1, (get b).2.1 + (get b).1, 0)
/-- the bytes of a text: none, if it is no text -/
def putText (s : List UInt8) : List UInt8 := if 32 < s.length then [] else put s.length ++ s

theorem code_cases (b : List UInt8) : (get b).2.2 = 0 ∨ (get b).2.2 = 11 ∨ (get b).2.2 = 12 := by
  rcases get_err b with h | h | h
  · exact .inl h
  · rw [h]; simp
  · rw [h]; simp
theorem textCode_cases (b : List UInt8) : (getText b).2.2 = 0 ∨ (getText b).2.2 = 11 ∨ (getText b).2.2 = 12 := by
  unfold getText
  have := code_cases b
  repeat' split
  all_goals simp_all
theorem put_small (n : Nat) (h : n < 128) : put n = [UInt8.ofNat n] := by
  unfold put
  rw [if_pos (by omega)]
  simp [sz, h, enc, Nat.mod_eq_of_lt h]

end Go.Proofs.Ytgicjdlpkphfnaa.Plain

namespace Go.Proofs.Ytgicjdlpkphfnaa.Plain

theorem get_one (n : Nat) (h : n < 128) (r : List UInt8) : get (UInt8.ofNat n :: r) = (n, 1, 0) := by
  have e : (UInt8.ofNat n).toNat = n := by simp only [UInt8.toNat_ofNat']; omega
  simp only [get, getL, e, h, if_true]
  rw [if_neg (by unfold maxN; omega)]
  simp
theorem putText_eq (s : List UInt8) (h : s.length ≤ 32) : putText s = UInt8.ofNat s.length :: s := by
  unfold putText
  rw [if_neg (by omega), put_small _ (by omega)]
  rfl
theorem putText_len (s : List UInt8) (h : s.length ≤ 32) : (putText s).length = 1 + s.length := by rw [putText_eq s h]; simp; omega
theorem getText_one (n : Nat) (r : List UInt8) (h : n ≤ 32) : getText (UInt8.ofNat n :: r) = if r.length < n then ([], 0, 11) else (r.take n, 1 + n, 0) := by
  unfold getText
  rw [get_one _ (by omega)]
  simp only [ne_eq, not_true, if_false, List.length_cons, List.drop_succ_cons, List.drop_zero]
  rw [if_neg (by omega)]
  by_cases hr : r.length < n
  · rw [if_pos (by omega), if_pos hr]
  · rw [if_neg (by omega), if_neg hr]
theorem getText_put (s r : List UInt8) (h : s.length ≤ 32) : getText (putText s ++ r) = (s, 1 + s.length, 0) := by
  rw [putText_eq s h, List.cons_append, getText_one _ _ h, if_neg (by rw [List.length_append]; omega), List.take_left]
theorem getText_cut (s : List UInt8) (j : Nat) (h : s.length ≤ 32) (hj : j < 1 + s.length) : getText ((putText s).take j) = ([], 0, 11) := by
  rw [putText_eq s h]
  rcases j with _ | j
  · simp [getText, get, getL]
  · rw [List.take_succ_cons, getText_one _ _ h, if_pos (by rw [List.length_take]; omega)]

end Go.Proofs.Ytgicjdlpkphfnaa.Plain

namespace Go.Proofs.Ytgicjdlpkphfnaa.Crc

def poly : BitVec 32 := 0x82F63B78#32
/-- all bits move one place down -/
def step (r : BitVec 32) : BitVec 32 := (r >>> 1) ^^^ (if r.getLsbD 0 then poly else 0#32)
def steps : Nat → BitVec 32 → BitVec 32
  | 0, r => r
  | n + 1, r => steps n (step r)
/-- a byte as bits of a register -/
def wide (c : UInt8) : BitVec 32 := BitVec.ofNat 32 c.toNat
def byteIn (r : BitVec 32) (c : UInt8) : BitVec 32 := steps 8 (r ^^^ wide c)
def run (r : BitVec 32) (bs : List UInt8) : BitVec 32 := bs.foldl byteIn r
def more (s : BitVec 32) (bs : List UInt8) : BitVec 32 := ~~~ run (~~~ s) bs
def of (bs : List UInt8) : BitVec 32 := more 0#32 bs
/-- the four bytes of a sum, the lowest first -/
def sumBytes (s : BitVec 32) : List UInt8 := [UInt8.ofNat s.toNat, UInt8.ofNat (s >>> 8).toNat, UInt8.ofNat (s >>> 16).toNat, UInt8.ofNat (s >>> 24).toNat]
def sealed (bs : List UInt8) : List UInt8 := bs ++ sumBytes (of bs)
def opens (bs : List UInt8) : Prop := 4 ≤ bs.length ∧ bs = sealed (bs.take (bs.length - 4))
instance (bs : List UInt8) : Decidable (opens bs) := by unfold opens; infer_instance

/-- a bit goes in -/
def bitIn (r : BitVec 32) (b : Bool) : BitVec 32 := step (r ^^^ (if b then 1#32 else 0#32))
def runBits (r : BitVec 32) (l : List Bool) : BitVec 32 := l.foldl bitIn r
def bitsN : Nat → BitVec 32 → List Bool
  | 0, _ => []
  | n + 1, x => x.getLsbD 0 :: bitsN n (x >>> 1)
def bitsOf (bs : List UInt8) : List Bool := bs.flatMap fun c => bitsN 8 (wide c)

theorem step_xor (a b : BitVec 32) : step (a ^^^ b) = step a ^^^ step b := by
  unfold step
  rw [BitVec.ushiftRight_xor_distrib, BitVec.getLsbD_xor]
  generalize a >>> 1 = x
  generalize b >>> 1 = y
  cases a.getLsbD 0 <;> cases b.getLsbD 0 <;> simp
  · ac_rfl
  · ac_rfl
  · have : x ^^^ poly ^^^ (y ^^^ poly) = x ^^^ y ^^^ (poly ^^^ poly) := by ac_rfl
    rw [this]; simp
theorem step_zero : step 0#32 = 0#32 := by decide
theorem step_one (a : BitVec 32) (h : step a = 0#32) : a = 0#32 := by
  unfold step at h
  cases hb : a.getLsbD 0
  · rw [hb] at h
    simp only [Bool.false_eq_true, if_false, BitVec.xor_zero] at h
    apply BitVec.eq_of_getLsbD_eq
    intro i hi
    rcases i with _ | i
    · rw [hb]; simp
    · have := congrArg (fun z => z.getLsbD i) h
      simp only [BitVec.getLsbD_ushiftRight, BitVec.getLsbD_zero] at this
      rw [show i + 1 = 1 + i by omega, this]; simp
  · rw [hb] at h
    have := congrArg (fun z => z.getLsbD 31) h
    simp [poly] at this
theorem steps_xor (n : Nat) : ∀ a b : BitVec 32, steps n (a ^^^ b) = steps n a ^^^ steps n b := by
  induction n with
  | zero => intro a b; rfl
  | succ n ih => intro a b; rw [steps, step_xor, ih]; rfl
theorem steps_zero (n : Nat) : steps n 0#32 = 0#32 := by
  induction n with
  | zero => rfl
  | succ n ih => rw [steps, step_zero, ih]
theorem steps_one (n : Nat) : ∀ a : BitVec 32, steps n a = 0#32 → a = 0#32 := by
  induction n with
  | zero => intro a h; exact h
  | succ n ih => intro a h; exact step_one a (ih _ h)
theorem xor_eq_zero {a b : BitVec 32} (h : a ^^^ b = 0#32) : a = b := by
  have : a ^^^ b ^^^ b = b := by rw [h]; simp
  rw [BitVec.xor_assoc, BitVec.xor_self, BitVec.xor_zero] at this
  exact this
theorem steps_inj (n : Nat) (a b : BitVec 32) (h : steps n a = steps n b) : a = b :=
  xor_eq_zero (steps_one n _ (by rw [steps_xor, h, BitVec.xor_self]))
theorem steps_add (m n : Nat) : ∀ a : BitVec 32, steps (m + n) a = steps n (steps m a) := by
  induction m with
  | zero => intro a; rw [Nat.zero_add]; rfl
  | succ m ih => intro a; rw [show m + 1 + n = (m + n) + 1 by omega, steps, ih]; rfl

/-- four at once -/
theorem step_even (r : BitVec 32) (h : r.getLsbD 0 = false) : step r = r >>> 1 := by unfold step; rw [h]; simp only [Bool.false_eq_true, if_false, BitVec.xor_zero]
theorem four (r : BitVec 32) : steps 4 r = (r >>> 4) ^^^ steps 4 (r &&& 15#32) := by
  have hz : ∀ z : BitVec 32, z.getLsbD 0 = false → z.getLsbD 1 = false → z.getLsbD 2 = false → z.getLsbD 3 = false → steps 4 z = z >>> 4 := by
    intro z h0 h1 h2 h3
    have e0 := step_even z h0
    have e1 := step_even (z >>> 1) (by simpa using h1)
    have e2 := step_even (z >>> 1 >>> 1) (by simpa using h2)
    have e3 := step_even (z >>> 1 >>> 1 >>> 1) (by simpa using h3)
    simp only [steps, e0, e1, e2, e3]
    simp [← BitVec.shiftRight_add]
  have e : r = (r &&& ~~~15#32) ^^^ (r &&& 15#32) := by
    apply BitVec.eq_of_getLsbD_eq
    intro i hi
    simp only [BitVec.getLsbD_xor, BitVec.getLsbD_and, BitVec.getLsbD_not]
    cases r.getLsbD i <;> cases (15#32).getLsbD i <;> simp [hi]
  have hs : (r &&& ~~~15#32) >>> 4 = r >>> 4 := by
    apply BitVec.eq_of_getLsbD_eq
    intro i hi
    simp only [BitVec.getLsbD_ushiftRight, BitVec.getLsbD_and, BitVec.getLsbD_not]
    by_cases h : 4 + i < 32
    · have : (15#32).getLsbD (4 + i) = false := by
        have hh : ∀ j : Fin 28, (15#32).getLsbD (4 + j.val) = false := by decide
        exact hh ⟨i, by omega⟩
      rw [this]; simp only [h, decide_true, Bool.not_false, Bool.and_true]
    · simp [BitVec.getLsbD_of_ge r (4 + i) (by omega)]
  conv => lhs; rw [e, steps_xor]
  rw [hz _ (by simp) (by simp) (by simp) (by simp), hs]
/-- what four bits leave -/
def tab (i : Nat) : Nat := [0, 274646895, 549293790, 820201905, 1098587580, 1361435347, 1640403810, 1905808397, 2197175160, 2460548119, 2722870694, 2987750089, 3280807620, 3553878443, 3811616794, 4084100981].getD i 0
theorem tab_is (i : Nat) (h : i < 16) : BitVec.ofNat 32 (tab i) = steps 4 (BitVec.ofNat 32 i) := by
  have : ∀ j : Fin 16, BitVec.ofNat 32 (tab j.val) = steps 4 (BitVec.ofNat 32 j.val) := by decide +kernel
  exact this ⟨i, h⟩
theorem tab_lt (i : Nat) : tab i < 4294967296 := by
  rcases Nat.lt_or_ge i 16 with h | h
  · have : ∀ j : Fin 16, tab j.val < 4294967296 := by decide
    exact this ⟨i, h⟩
  · unfold tab; rw [List.getD_eq_getElem?_getD, List.getElem?_eq_none (by simpa using h)]; decide
/-- one round of the table -/
def quad (r : BitVec 32) : BitVec 32 := (r >>> 4) ^^^ BitVec.ofNat 32 (tab (r.toNat % 16))
theorem quad_is (r : BitVec 32) : quad r = steps 4 r := by
  unfold quad
  have e : BitVec.ofNat 32 (r.toNat % 16) = r &&& 15#32 := by
    apply BitVec.eq_of_toNat_eq
    rw [BitVec.toNat_ofNat, BitVec.toNat_and]
    have := Nat.and_two_pow_sub_one_eq_mod r.toNat 4
    simp at this ⊢
    rw [this]; omega
  rw [tab_is _ (Nat.mod_lt _ (by omega)), e, ← four]
theorem byteIn_quad (r : BitVec 32) (c : UInt8) : quad (quad (r ^^^ wide c)) = byteIn r c := by
  rw [quad_is, quad_is, ← steps_add]; rfl

/-- bits and steps -/
theorem bits_steps (n : Nat) : ∀ (x r : BitVec 32), x >>> n = 0#32 → runBits r (bitsN n x) = steps n (r ^^^ x) := by
  induction n with
  | zero => intro x r h; rw [BitVec.ushiftRight_zero] at h; subst h; simp [bitsN, runBits, steps]
  | succ n ih =>
    intro x r h
    have h1 : x >>> 1 >>> n = 0#32 := by rw [← BitVec.shiftRight_add, Nat.add_comm]; exact h
    show runBits (bitIn r (x.getLsbD 0)) (bitsN n (x >>> 1)) = steps n (step (r ^^^ x))
    rw [ih _ _ h1]
    congr 1
    unfold bitIn
    have e : step x = step (if x.getLsbD 0 then 1#32 else 0#32) ^^^ (x >>> 1) := by
      unfold step
      cases x.getLsbD 0 <;> simp
      rw [BitVec.xor_comm]
    rw [step_xor, step_xor, e, BitVec.xor_assoc]
theorem run_bits (bs : List UInt8) : ∀ r, run r bs = runBits r (bitsOf bs) := by
  induction bs with
  | nil => intro r; rfl
  | cons c bs ih =>
    intro r
    have : bitsOf (c :: bs) = bitsN 8 (wide c) ++ bitsOf bs := by simp [bitsOf]
    rw [this]
    show run (byteIn r c) bs = (bitsN 8 (wide c) ++ bitsOf bs).foldl bitIn r
    rw [List.foldl_append, ih]
    congr 1
    have hw : wide c >>> 8 = 0#32 := by
      apply BitVec.eq_of_toNat_eq
      have := c.toNat_lt
      simp [wide, Nat.shiftRight_eq_div_pow]; omega
    exact (bits_steps 8 (wide c) r hw).symm
theorem bitsN_length (n : Nat) : ∀ x, (bitsN n x).length = n := by
  induction n with
  | zero => intro x; rfl
  | succ n ih => intro x; simp [bitsN, ih]
theorem bitsOf_length (bs : List UInt8) : (bitsOf bs).length = 8 * bs.length := by
  induction bs with
  | nil => rfl
  | cons c bs ih => simp [bitsOf, bitsN_length] at ih ⊢; omega
theorem bitsN_at (n : Nat) : ∀ (x : BitVec 32) (j : Nat), j < n → (bitsN n x)[j]? = some (x.getLsbD j) := by
  induction n with
  | zero => intro x j h; omega
  | succ n ih =>
    intro x j h
    rcases j with _ | j
    · rfl
    · rw [bitsN, List.getElem?_cons_succ, ih _ _ (by omega), BitVec.getLsbD_ushiftRight, Nat.add_comm]
theorem bitsOf_at : ∀ (bs : List UInt8) (i : Nat) (h : i / 8 < bs.length), (bitsOf bs)[i]? = some (bs[i / 8].toNat.testBit (i % 8))
  | [], i, h => by simp at h
  | c :: bs, i, h => by
    have : bitsOf (c :: bs) = bitsN 8 (wide c) ++ bitsOf bs := by simp [bitsOf]
    rw [this]
    by_cases h8 : i < 8
    · rw [List.getElem?_append_left (by rw [bitsN_length]; exact h8), bitsN_at _ _ _ h8]
      have e0 : i / 8 = 0 := by omega
      have e1 : i % 8 = i := by omega
      simp only [e0, e1, List.getElem_cons_zero, wide, BitVec.getLsbD_ofNat]
      simp; omega
    · rw [List.getElem?_append_right (by rw [bitsN_length]; omega), bitsN_length]
      have h' : (i - 8) / 8 < bs.length := by simp at h; omega
      rw [bitsOf_at bs (i - 8) h']
      have e1 : i / 8 = (i - 8) / 8 + 1 := by omega
      have e2 : (i - 8) % 8 = i % 8 := by omega
      simp only [e1, e2, List.getElem_cons_succ]
theorem run_append (r : BitVec 32) (a b : List UInt8) : run r (a ++ b) = run (run r a) b := by simp [run]
theorem more_append (s : BitVec 32) (a b : List UInt8) : more s (a ++ b) = more (more s a) b := by
  unfold more; rw [run_append, BitVec.not_not]
theorem more_nil (s : BitVec 32) : more s [] = s := by unfold more run; simp
theorem run_inj (bs : List UInt8) : ∀ a b, run a bs = run b bs → a = b := by
  induction bs with
  | nil => intro a b h; exact h
  | cons c bs ih =>
    intro a b h
    have h1 := steps_inj 8 _ _ (ih _ _ h)
    have : a ^^^ wide c ^^^ wide c = b ^^^ wide c ^^^ wide c := by rw [h1]
    simpa [BitVec.xor_assoc] using this
theorem more_inj (bs : List UInt8) (s t : BitVec 32) (h : more s bs = more t bs) : s = t := by
  unfold more at h
  have h1 := run_inj bs _ _ (by have := congrArg (~~~ ·) h; simpa using this)
  have := congrArg (~~~ ·) h1
  simpa using this

/-- exclusive or, byte by byte -/
def xors : List UInt8 → List UInt8 → List UInt8 → List UInt8
  | a :: x, b :: y, c :: z => (a ^^^ b ^^^ c) :: xors x y z
  | _, _, _ => []
theorem wide_xor (a b : UInt8) : wide (a ^^^ b) = wide a ^^^ wide b := by
  unfold wide
  apply BitVec.eq_of_toNat_eq
  simp only [BitVec.toNat_ofNat, BitVec.toNat_xor, UInt8.toNat_xor]
  have ha := a.toNat_lt
  have hb := b.toNat_lt
  have hx : a.toNat ^^^ b.toNat < 2 ^ 8 := Nat.xor_lt_two_pow (by omega) (by omega)
  rw [Nat.mod_eq_of_lt (by omega), Nat.mod_eq_of_lt (by omega), Nat.mod_eq_of_lt (by omega)]
theorem run_xors : ∀ (x y z : List UInt8) (a b c : BitVec 32), x.length = y.length → y.length = z.length → run (a ^^^ b ^^^ c) (xors x y z) = run a x ^^^ run b y ^^^ run c z
  | [], [], [], _, _, _, _, _ => rfl
  | d :: x, e :: y, f :: z, a, b, c, h1, h2 => by
    show run (byteIn (a ^^^ b ^^^ c) (d ^^^ e ^^^ f)) (xors x y z) = run (byteIn a d) x ^^^ run (byteIn b e) y ^^^ run (byteIn c f) z
    rw [← run_xors x y z _ _ _ (by simpa using h1) (by simpa using h2)]
    congr 1
    unfold byteIn
    rw [← steps_xor, ← steps_xor, wide_xor, wide_xor]
    congr 1
    ac_rfl
  | [], [], _ :: _, _, _, _, _, h => by simp at h
  | [], _ :: _, _, _, _, _, h, _ => by simp at h
  | _ :: _, [], _, _, _, _, h, _ => by simp at h
  | _ :: _, _ :: _, [], _, _, _, _, h => by simp at h
theorem of_xors (x y z : List UInt8) (h1 : x.length = y.length) (h2 : y.length = z.length) : of (xors x y z) = of x ^^^ of y ^^^ of z := by
  unfold of more
  have e : ~~~0#32 = ~~~0#32 ^^^ ~~~0#32 ^^^ ~~~0#32 := by decide
  conv => lhs; rw [e, run_xors x y z _ _ _ h1 h2]
  generalize run (~~~0#32) x = p
  generalize run (~~~0#32) y = q
  generalize run (~~~0#32) z = r
  apply BitVec.eq_of_getLsbD_eq
  intro i hi
  simp only [BitVec.getLsbD_xor, BitVec.getLsbD_not, hi, decide_true, Bool.true_and]
  cases p.getLsbD i <;> cases q.getLsbD i <;> cases r.getLsbD i <;> rfl

theorem sumBytes_length (s : BitVec 32) : (sumBytes s).length = 4 := rfl
theorem sealed_length (bs : List UInt8) : (sealed bs).length = bs.length + 4 := by simp [sealed, sumBytes_length]
theorem opens_sealed (bs : List UInt8) : opens (sealed bs) ∧ (sealed bs).take ((sealed bs).length - 4) = bs := by
  have e : (sealed bs).take ((sealed bs).length - 4) = bs := by
    rw [sealed_length, Nat.add_sub_cancel, sealed, List.take_left]
  exact ⟨⟨by rw [sealed_length]; omega, by rw [e]⟩, e⟩

/-- the bits of a sum's bytes -/
theorem byte_bit (s : BitVec 32) (k j : Nat) (hj : j < 8) : (UInt8.ofNat (s >>> k).toNat).toNat.testBit j = s.getLsbD (k + j) := by
  rw [UInt8.toNat_ofNat', ← BitVec.getLsbD_ushiftRight]
  show ((s >>> k).toNat % 2 ^ 8).testBit j = (s >>> k).toNat.testBit j
  rw [Nat.testBit_mod_two_pow]
  simp [hj]
theorem bits_sumBytes (s : BitVec 32) : bitsOf (sumBytes s) = bitsN 32 s := by
  apply List.ext_getElem?
  intro i
  by_cases h : i < 32
  · rw [bitsN_at 32 s i h, bitsOf_at _ _ (by rw [sumBytes_length]; omega)]
    congr 1
    have hq : i / 8 = 0 ∨ i / 8 = 1 ∨ i / 8 = 2 ∨ i / 8 = 3 := by omega
    have hm : i % 8 < 8 := by omega
    have h0 := byte_bit s 0 (i % 8) hm
    have h1 := byte_bit s 8 (i % 8) hm
    have h2 := byte_bit s 16 (i % 8) hm
    have h3 := byte_bit s 24 (i % 8) hm
    rw [BitVec.ushiftRight_zero] at h0
    rcases hq with hq | hq | hq | hq
    · simp only [hq, sumBytes, List.getElem_cons_zero]; rw [h0]; congr 1; omega
    · simp only [hq, sumBytes, List.getElem_cons_zero, List.getElem_cons_succ]; rw [h1]; congr 1; omega
    · simp only [hq, sumBytes, List.getElem_cons_zero, List.getElem_cons_succ]; rw [h2]; congr 1; omega
    · simp only [hq, sumBytes, List.getElem_cons_zero, List.getElem_cons_succ]; rw [h3]; congr 1; omega
  · rw [List.getElem?_eq_none (by rw [bitsOf_length, sumBytes_length]; omega), List.getElem?_eq_none (by rw [bitsN_length]; omega)]
theorem shift32 (x : BitVec 32) : x >>> 32 = 0#32 := by
  apply BitVec.eq_of_getLsbD_eq
  intro i hi
  rw [BitVec.getLsbD_ushiftRight, BitVec.getLsbD_of_ge x (32 + i) (by omega)]; simp
/-- what stands in the register behind a sum -/
theorem run_sealed (bs : List UInt8) : run (~~~0#32) (sealed bs) = steps 32 (~~~0#32) := by
  unfold sealed
  rw [run_append, run_bits (sumBytes _), bits_sumBytes, bits_steps 32 _ _ (shift32 _)]
  congr 1
  unfold of more
  generalize run (~~~0#32) bs = p
  apply BitVec.eq_of_getLsbD_eq
  intro i hi
  simp only [BitVec.getLsbD_xor, BitVec.getLsbD_not, BitVec.getLsbD_zero, hi, decide_true, Bool.true_and]
  cases p.getLsbD i <;> rfl
theorem bitIn_xor (a b : BitVec 32) (p q : Bool) : bitIn (a ^^^ b) (p ^^ q) = bitIn a p ^^^ bitIn b q := by
  unfold bitIn
  rw [← step_xor]
  congr 1
  cases p <;> cases q <;> simp
  · ac_rfl
  · ac_rfl
  · have : a ^^^ 1#32 ^^^ (b ^^^ 1#32) = a ^^^ b ^^^ (1#32 ^^^ 1#32) := by ac_rfl
    rw [this]; simp
theorem runBits_xor : ∀ (l e : List Bool) (a b : BitVec 32), l.length = e.length → runBits (a ^^^ b) (List.zipWith (· ^^ ·) l e) = runBits a l ^^^ runBits b e
  | [], [], _, _, _ => rfl
  | p :: l, q :: e, a, b, h => by
    show runBits (bitIn (a ^^^ b) (p ^^ q)) (List.zipWith (· ^^ ·) l e) = runBits (bitIn a p) l ^^^ runBits (bitIn b q) e
    rw [bitIn_xor, runBits_xor l e _ _ (by simpa using h)]
  | [], _ :: _, _, _, h => by simp at h
  | _ :: _, [], _, _, h => by simp at h
theorem runBits_none (m : Nat) : ∀ r, runBits r (List.replicate m false) = steps m r := by
  induction m with
  | zero => intro r; rfl
  | succ m ih =>
    intro r
    show runBits (bitIn r false) (List.replicate m false) = steps m (step r)
    rw [ih]; simp [bitIn]
/-- A BURST IS TOLD: t is s with bits turned within 32 that stand together, one at least -/
theorem burst (b t : List UInt8) (k : Nat) (x : BitVec 32) (hl : t.length = (sealed b).length) (hk : k + 32 ≤ 8 * t.length) (hx : x ≠ 0#32)
    (ht : ∀ i p q, (bitsOf t)[i]? = some p → (bitsOf (sealed b))[i]? = some q → p = (q ^^ (decide (k ≤ i) && x.getLsbD (i - k)))) : ¬ opens t := by
  intro ho
  have e1 : run (~~~0#32) t = steps 32 (~~~0#32) := by rw [ho.2]; exact run_sealed _
  have e2 := run_sealed b
  rw [run_bits] at e1 e2
  have hE : bitsOf t = List.zipWith (· ^^ ·) (bitsOf (sealed b)) (List.replicate k false ++ (bitsN 32 x ++ List.replicate (8 * t.length - 32 - k) false)) := by
    apply List.ext_getElem
    · simp [bitsOf_length, bitsN_length, hl]; omega
    · intro i h1 h2
      have hi : i < 8 * t.length := by rw [bitsOf_length] at h1; exact h1
      have h3 : i < (bitsOf (sealed b)).length := by rw [bitsOf_length, ← hl]; exact hi
      rw [ht i _ _ (List.getElem?_eq_getElem h1) (List.getElem?_eq_getElem h3), List.getElem_zipWith]
      congr 1
      rw [← Option.some_inj, ← List.getElem?_eq_getElem]
      rw [List.getElem?_append]
      simp only [List.length_replicate]
      by_cases hki : i < k
      · rw [if_pos hki, List.getElem?_replicate, if_pos hki]; simp; omega
      · rw [if_neg hki, List.getElem?_append]
        simp only [bitsN_length]
        by_cases hk2 : i - k < 32
        · rw [if_pos hk2, bitsN_at 32 x _ hk2]; simp; omega
        · rw [if_neg hk2, List.getElem?_replicate, if_pos (by omega), BitVec.getLsbD_of_ge x _ (by omega)]; simp
  rw [hE] at e1
  have e3 := runBits_xor (bitsOf (sealed b)) (List.replicate k false ++ (bitsN 32 x ++ List.replicate (8 * t.length - 32 - k) false)) (~~~0#32) 0#32 (by simp [bitsOf_length, bitsN_length, ← hl]; omega)
  rw [BitVec.xor_zero, e1, e2] at e3
  have e4 : runBits 0#32 (List.replicate k false ++ (bitsN 32 x ++ List.replicate (8 * t.length - 32 - k) false)) = 0#32 := by
    generalize runBits 0#32 (List.replicate k false ++ (bitsN 32 x ++ List.replicate (8 * t.length - 32 - k) false)) = y at e3
    have h5 : steps 32 (~~~0#32) ^^^ steps 32 (~~~0#32) = steps 32 (~~~0#32) ^^^ (steps 32 (~~~0#32) ^^^ y) := by rw [← e3]
    rw [← BitVec.xor_assoc, BitVec.xor_self, BitVec.zero_xor] at h5
    exact h5.symm
  unfold runBits at e4
  rw [List.foldl_append, List.foldl_append] at e4
  have e5 : (List.replicate k false).foldl bitIn 0#32 = 0#32 := (runBits_none k 0#32).trans (steps_zero k)
  rw [e5] at e4
  have e6 : (bitsN 32 x).foldl bitIn 0#32 = steps 32 x := by
    have := bits_steps 32 x 0#32 (shift32 x)
    rw [BitVec.zero_xor] at this
    exact this
  rw [e6] at e4
  have e7 : (List.replicate (8 * t.length - 32 - k) false).foldl bitIn (steps 32 x) = steps (8 * t.length - 32 - k) (steps 32 x) := runBits_none _ _
  rw [e7] at e4
  exact hx (steps_one _ _ (steps_one _ _ e4))
end Go.Proofs.Ytgicjdlpkphfnaa.Crc

namespace Go.Proofs.Ytgicjdlpkphfnaa.Plain

theorem putText_small (s : List UInt8) : (putText s).length ≤ 33 := by
  by_cases h : 32 < s.length
  · unfold putText; rw [if_pos h]; simp
  · rw [putText_len s (by omega)]; omega

/-- what a text that is got is -/
theorem getText_back (b s : List UInt8) (k : Nat) (h : getText b = (s, k, 0)) : s.length ≤ 32 ∧ k = 1 + s.length ∧ k ≤ b.length ∧ b.take k = putText s := by
  have hb := get_back b (get b).1 (get b).2.1
  unfold getText at h
  split at h
  · rename_i h0
    simp only [Prod.mk.injEq] at h
    exact absurd h.2.2 h0
  · rename_i h0
    split at h
    · simp at h
    · rename_i h32
      split at h
      · simp at h
      · rename_i hl
        obtain ⟨hm, hj, hjl, ht⟩ := hb (by have : (get b).2.2 = 0 := by omega
                                           rw [← this])
        have h1 : sz (get b).1 = 1 := by unfold sz; rw [if_pos (by omega)]
        rw [h1] at hj ht
        generalize (get b).1 = n at *
        generalize (get b).2.1 = j at *
        subst hj
        simp only [Prod.mk.injEq] at h
        obtain ⟨rfl, rfl, -⟩ := h
        have hn : ((b.drop 1).take n).length = n := by rw [List.length_take, List.length_drop]; omega
        refine ⟨by omega, by omega, by omega, ?_⟩
        rw [putText_eq _ (by omega), hn]
        have e1 : enc 1 n = [UInt8.ofNat n] := by simp [enc, Nat.mod_eq_of_lt (show n < 128 by omega)]
        rw [e1] at ht
        rw [List.take_add, ht]
        rfl
theorem getText_err (b : List UInt8) : (getText b).2.2 = 0 ∨ (getText b = ([], 0, 11) ∨ getText b = ([], 0, 12)) := by
  have h := get_err b
  unfold getText
  repeat' split
  · rcases h with h | h | h
    · rename_i h0; exact absurd h h0
    · rw [h]; simp
    · rw [h]; simp
  · exact .inr (.inr rfl)
  · exact .inr (.inl rfl)
  · exact .inl rfl

/-- a span -/
structure Sp where
  t : Int
  i : Int
  p : Int
  s : Int
  d : Int
  sv : List UInt8
  nm : List UInt8
deriving DecidableEq

def inN (lo hi x : Int) : Bool := decide (lo ≤ x) && decide (x ≤ hi)
theorem inN_iff (lo hi x : Int) : inN lo hi x = true ↔ lo ≤ x ∧ x ≤ hi := by simp [inN]
/-- is it right? of its numbers, and how long its texts are -/
def rightN (t i p s d : Int) (a b : Nat) : Bool :=
  ((((inN 1 281474976710656 t && inN 1 281474976710656 i) && ((inN 0 281474976710656 p && inN 0 281474976710656 s) && inN 0 281474976710656 d)) && inN 0 281474976710656 (s + d)) && inN 1 32 (a : Int)) && inN 0 32 (b : Int)
theorem rightN_iff (t i p s d : Int) (a b : Nat) : rightN t i p s d a b = true ↔ (1 ≤ t ∧ t ≤ 281474976710656 ∧ 1 ≤ i ∧ i ≤ 281474976710656 ∧ 0 ≤ p ∧ p ≤ 281474976710656 ∧ 0 ≤ s ∧ s ≤ 281474976710656 ∧ 0 ≤ d ∧ d ≤ 281474976710656 ∧ s + d ≤ 281474976710656 ∧ 1 ≤ a ∧ a ≤ 32 ∧ b ≤ 32) := by
  simp only [rightN, Bool.and_eq_true, inN_iff]
  omega
def Sp.right (x : Sp) : Bool := rightN x.t x.i x.p x.s x.d x.sv.length x.nm.length
theorem Sp.right_iff (x : Sp) : x.right = true ↔ (1 ≤ x.t ∧ x.t ≤ 281474976710656 ∧ 1 ≤ x.i ∧ x.i ≤ 281474976710656 ∧ 0 ≤ x.p ∧ x.p ≤ 281474976710656 ∧ 0 ≤ x.s ∧ x.s ≤ 281474976710656 ∧ 0 ≤ x.d ∧ x.d ≤ 281474976710656 ∧ x.s + x.d ≤ 281474976710656 ∧ 1 ≤ x.sv.length ∧ x.sv.length ≤ 32 ∧ x.nm.length ≤ 32) := rightN_iff _ _ _ _ _ _ _

def Sp.zero : Sp := ⟨0, 0, 0, 0, 0, [], []⟩
/-- its bytes -/
def Sp.bytes (x : Sp) : List UInt8 := put x.t ++ (put x.i ++ (put x.p ++ (put x.s ++ (put x.d ++ (putText x.sv ++ putText x.nm)))))
def Sp.outp (x : Sp) : List UInt8 := if x.right then x.bytes else []

/-- a reader: where it is, and its error's number -/
def stepN (b : List UInt8) (a e : Nat) : Nat × Nat × Nat :=
  if e ≠ 0 then (0, a, e) else if (get (b.drop a)).2.2 ≠ 0 then (0, a, (get (b.drop a)).2.2) else ((get (b.drop a)).1, a + (get (b.drop a)).2.1, 0)
def stepT (b : List UInt8) (a e : Nat) : List UInt8 × Nat × Nat :=
  if e ≠ 0 then ([], a, e) else if (getText (b.drop a)).2.2 ≠ 0 then ([], a, (getText (b.drop a)).2.2) else ((getText (b.drop a)).1, a + (getText (b.drop a)).2.1, 0)

theorem stepN_stuck (b : List UInt8) (a e : Nat) (h : e ≠ 0) : stepN b a e = (0, a, e) := by unfold stepN; rw [if_pos h]
theorem stepT_stuck (b : List UInt8) (a e : Nat) (h : e ≠ 0) : stepT b a e = ([], a, e) := by unfold stepT; rw [if_pos h]
theorem stepN_code (b : List UInt8) (a e : Nat) (h : e = 0 ∨ e = 11 ∨ e = 12) : (stepN b a e).2.2 = 0 ∨ (stepN b a e).2.2 = 11 ∨ (stepN b a e).2.2 = 12 := by
  unfold stepN
  have := code_cases (b.drop a)
  repeat' split
  · exact h
  · exact this
  · exact .inl rfl
theorem stepT_code (b : List UInt8) (a e : Nat) (h : e = 0 ∨ e = 11 ∨ e = 12) : (stepT b a e).2.2 = 0 ∨ (stepT b a e).2.2 = 11 ∨ (stepT b a e).2.2 = 12 := by
  unfold stepT
  have := textCode_cases (b.drop a)
  repeat' split
  · exact h
  · exact this
  · exact .inl rfl
theorem stepN_le (b : List UInt8) (a e : Nat) (h : a ≤ b.length) : (stepN b a e).2.1 ≤ b.length ∧ (stepN b a e).1 ≤ 281474976710656 := by
  unfold stepN
  have := get_small (b.drop a)
  rw [List.length_drop] at this
  repeat' split
  all_goals simp only
  all_goals omega
theorem getText_small (b : List UInt8) : (getText b).1.length ≤ 32 ∧ (getText b).2.1 ≤ b.length := by
  rcases getText_err b with h | h | h
  · have := getText_back b (getText b).1 (getText b).2.1 (by rw [← h])
    omega
  · rw [h]; simp
  · rw [h]; simp
theorem stepT_le (b : List UInt8) (a e : Nat) (h : a ≤ b.length) : (stepT b a e).2.1 ≤ b.length ∧ (stepT b a e).1.length ≤ 32 := by
  unfold stepT
  have := getText_small (b.drop a)
  rw [List.length_drop] at this
  repeat' split
  all_goals simp only [List.length_nil]
  all_goals omega

/-- the first seven parts, whatever they are: a span, where the reader is then, and its error -/
def parts (b : List UInt8) : Sp × Nat × Nat :=
  let x1 := stepN b 0 0
  let x2 := stepN b x1.2.1 x1.2.2
  let x3 := stepN b x2.2.1 x2.2.2
  let x4 := stepN b x3.2.1 x3.2.2
  let x5 := stepN b x4.2.1 x4.2.2
  let x6 := stepT b x5.2.1 x5.2.2
  let x7 := stepT b x6.2.1 x6.2.2
  (⟨x1.1, x2.1, x3.1, x4.1, x5.1, x6.1, x7.1⟩, x7.2.1, x7.2.2)
/-- the span that bytes begin with, how many it takes, the error's number -/
def Sp.rd (b : List UInt8) : Sp × Nat × Nat :=
  if (parts b).2.2 ≠ 0 then (Sp.zero, 0, (parts b).2.2) else if (parts b).1.right then ((parts b).1, (parts b).2.1, 0) else (Sp.zero, 0, 12)

theorem put_nat (n : Int) (h0 : 0 ≤ n) (h : n ≤ 281474976710656) : put n = enc (sz n.toNat) n.toNat := by unfold put; rw [if_pos ⟨h0, h⟩]

/-- bytes that begin with a number's, cut somewhere: it is too short, or read, and what is behind it is cut -/
theorem cutN (b r : List UInt8) (n : Int) (a j : Nat) (h0 : 0 ≤ n) (hn : n ≤ 281474976710656) (h : b.drop a = (put n ++ r).take j) :
    (stepN b a 0 = (0, a, 11) ∧ j < (put n).length) ∨ (stepN b a 0 = (n.toNat, a + (put n).length, 0) ∧ (put n).length ≤ j ∧ b.drop (a + (put n).length) = r.take (j - (put n).length)) := by
  obtain ⟨m, rfl⟩ := Int.eq_ofNat_of_zero_le h0
  have hm : m ≤ 281474976710656 := by omega
  have hp := put_nat m h0 hn
  rw [Int.toNat_natCast] at hp ⊢
  rw [hp, enc_length]
  rw [hp] at h
  by_cases hj : j < sz m
  · left
    rw [List.take_append_of_le_length (by rw [enc_length]; omega)] at h
    refine ⟨?_, hj⟩
    unfold stepN
    rw [h, get_cut m j hj]
    rfl
  · right
    have e : (enc (sz m) m ++ r).take j = enc (sz m) m ++ r.take (j - sz m) := by
      rw [List.take_append, enc_length, List.take_of_length_le (by rw [enc_length]; omega)]
    rw [e] at h
    refine ⟨?_, by omega, ?_⟩
    · unfold stepN
      rw [h, get_put m hm]
      rfl
    · rw [← List.drop_drop, h]
      have := List.drop_left (l₁ := enc (sz m) m) (l₂ := r.take (j - sz m))
      rw [enc_length] at this
      exact this
theorem cutT (b r s : List UInt8) (a j : Nat) (hs : s.length ≤ 32) (h : b.drop a = (putText s ++ r).take j) :
    (stepT b a 0 = ([], a, 11) ∧ j < (putText s).length) ∨ (stepT b a 0 = (s, a + (putText s).length, 0) ∧ (putText s).length ≤ j ∧ b.drop (a + (putText s).length) = r.take (j - (putText s).length)) := by
  have hl := putText_len s hs
  by_cases hj : j < 1 + s.length
  · left
    rw [List.take_append_of_le_length (by omega)] at h
    refine ⟨?_, by omega⟩
    unfold stepT
    rw [h, getText_cut s j hs hj]
    rfl
  · right
    have e : (putText s ++ r).take j = putText s ++ r.take (j - (putText s).length) := by
      rw [List.take_append, List.take_of_length_le (by omega)]
    rw [e] at h
    refine ⟨?_, by omega, ?_⟩
    · unfold stepT
      rw [h, getText_put s _ hs, hl]
      rfl
    · rw [← List.drop_drop, h, List.drop_left]

theorem Sp.parts_cut (x : Sp) (r : List UInt8) (j : Nat) (hx : x.right = true) :
    (j < x.bytes.length → (parts ((x.bytes ++ r).take j)).2.2 = 11) ∧ (x.bytes.length ≤ j → parts ((x.bytes ++ r).take j) = (x, x.bytes.length, 0)) := by
  rw [Sp.right_iff] at hx
  obtain ⟨t, i, p, s, d, sv, nm⟩ := x
  simp only at hx
  simp only [Sp.bytes, List.length_append, List.append_assoc]
  generalize hb : (put t ++ (put i ++ (put p ++ (put s ++ (put d ++ (putText sv ++ (putText nm ++ r))))))).take j = b
  unfold parts
  rcases cutN b (put i ++ (put p ++ (put s ++ (put d ++ (putText sv ++ (putText nm ++ r)))))) t 0 j (by omega) (by omega) (by rw [List.drop_zero, hb]) with ⟨h1, l1⟩ | ⟨h1, l1, h2⟩
  · simp only [h1, stepN_stuck _ _ 11 (by omega), stepT_stuck _ _ 11 (by omega)]
    exact ⟨fun _ => trivial, fun h => absurd h (by omega)⟩
  simp only [h1]
  rcases cutN b _ i _ _ (by omega) (by omega) h2 with ⟨h2, l2⟩ | ⟨h2, l2, h3⟩
  · simp only [h2, stepN_stuck _ _ 11 (by omega), stepT_stuck _ _ 11 (by omega)]
    exact ⟨fun _ => trivial, fun h => absurd h (by omega)⟩
  simp only [h2]
  rcases cutN b _ p _ _ (by omega) (by omega) h3 with ⟨h3, l3⟩ | ⟨h3, l3, h4⟩
  · simp only [h3, stepN_stuck _ _ 11 (by omega), stepT_stuck _ _ 11 (by omega)]
    exact ⟨fun _ => trivial, fun h => absurd h (by omega)⟩
  simp only [h3]
  rcases cutN b _ s _ _ (by omega) (by omega) h4 with ⟨h4, l4⟩ | ⟨h4, l4, h5⟩
  · simp only [h4, stepN_stuck _ _ 11 (by omega), stepT_stuck _ _ 11 (by omega)]
    exact ⟨fun _ => trivial, fun h => absurd h (by omega)⟩
  simp only [h4]
  rcases cutN b _ d _ _ (by omega) (by omega) h5 with ⟨h5, l5⟩ | ⟨h5, l5, h6⟩
  · simp only [h5, stepT_stuck _ _ 11 (by omega)]
    exact ⟨fun _ => trivial, fun h => absurd h (by omega)⟩
  simp only [h5]
  rcases cutT b _ sv _ _ (by omega) h6 with ⟨h6, l6⟩ | ⟨h6, l6, h7⟩
  · simp only [h6, stepT_stuck _ _ 11 (by omega)]
    exact ⟨fun _ => trivial, fun h => absurd h (by omega)⟩
  simp only [h6]
  rcases cutT b _ nm _ _ (by omega) h7 with ⟨h7, l7⟩ | ⟨h7, l7, h8⟩
  · simp only [h7]
    exact ⟨fun _ => trivial, fun h => absurd h (by omega)⟩
  simp only [h7]
  refine ⟨fun h => by omega, fun _ => ?_⟩
  simp only [Prod.mk.injEq, Sp.mk.injEq, and_true]
  omega

/-- P3.2: a right one is got of its bytes, whatever is behind them. -/
theorem Sp.get_bytes (x : Sp) (r : List UInt8) (hx : x.right = true) : Sp.rd (x.bytes ++ r) = (x, x.bytes.length, 0) := by
  have := (Sp.parts_cut x r (x.bytes ++ r).length hx).2 (by rw [List.length_append]; omega)
  rw [List.take_length] at this
  unfold Sp.rd
  rw [this]
  simp [hx]
/-- P3.3: bytes that are cut are too short. -/
theorem Sp.get_cut (x : Sp) (j : Nat) (hx : x.right = true) (hj : j < x.bytes.length) : Sp.rd (x.bytes.take j) = (Sp.zero, 0, 11) := by
  have := (Sp.parts_cut x [] j hx).1 hj
  rw [List.append_nil] at this
  unfold Sp.rd
  rw [this]
  rfl

theorem backN (b : List UInt8) (a e : Nat) (h : (stepN b a e).2.2 = 0) : e = 0 ∧ ∃ n : Nat, stepN b a e = (n, a + (put n).length, 0) ∧ n ≤ 281474976710656 ∧ b.drop a = put n ++ b.drop (a + (put n).length) := by
  have he : e = 0 := by
    rcases Nat.eq_zero_or_pos e with h0 | h0
    · exact h0
    · rw [stepN_stuck b a e (by omega)] at h; simpa using h
  subst he
  refine ⟨rfl, ?_⟩
  unfold stepN at h ⊢
  rw [if_neg (by omega)] at h ⊢
  split at h
  · rename_i h0; exact absurd h h0
  · rename_i h0
    rw [if_neg h0]
    have h0' : (get (b.drop a)).2.2 = 0 := by omega
    obtain ⟨hm, hj, hl, ht⟩ := get_back (b.drop a) (get (b.drop a)).1 (get (b.drop a)).2.1 (by rw [← h0'])
    generalize (get (b.drop a)).1 = n at *
    generalize (get (b.drop a)).2.1 = k at *
    have hp : put (n : Int) = enc (sz n) n := by rw [put_nat n (by omega) (by omega)]; rfl
    have hpl : (put (n : Int)).length = k := by rw [hp, enc_length]; omega
    refine ⟨n, by rw [hpl], hm, ?_⟩
    rw [hpl, hp, ← ht, ← List.drop_drop, List.take_append_drop]
theorem backT (b : List UInt8) (a e : Nat) (h : (stepT b a e).2.2 = 0) : e = 0 ∧ ∃ s : List UInt8, stepT b a e = (s, a + (putText s).length, 0) ∧ s.length ≤ 32 ∧ b.drop a = putText s ++ b.drop (a + (putText s).length) := by
  have he : e = 0 := by
    rcases Nat.eq_zero_or_pos e with h0 | h0
    · exact h0
    · rw [stepT_stuck b a e (by omega)] at h; simpa using h
  subst he
  refine ⟨rfl, ?_⟩
  unfold stepT at h ⊢
  rw [if_neg (by omega)] at h ⊢
  split at h
  · rename_i h0; exact absurd h h0
  · rename_i h0
    rw [if_neg h0]
    have h0' : (getText (b.drop a)).2.2 = 0 := by omega
    obtain ⟨hm, hj, hl, ht⟩ := getText_back (b.drop a) (getText (b.drop a)).1 (getText (b.drop a)).2.1 (by rw [← h0'])
    generalize (getText (b.drop a)).1 = s at *
    generalize (getText (b.drop a)).2.1 = k at *
    have hpl : (putText s).length = k := by rw [putText_len s hm]; omega
    refine ⟨s, by rw [hpl], hm, ?_⟩
    rw [hpl, ← ht, ← List.drop_drop, List.take_append_drop]

theorem parts_back (b : List UInt8) (h : (parts b).2.2 = 0) : b = (parts b).1.bytes ++ b.drop (parts b).2.1 ∧ (parts b).2.1 = (parts b).1.bytes.length := by
  unfold parts at h ⊢
  simp only at h ⊢
  obtain ⟨h7, nm, e7, -, d7⟩ := backT _ _ _ h
  obtain ⟨h6, sv, e6, -, d6⟩ := backT _ _ _ h7
  obtain ⟨h5, d, e5, -, d5⟩ := backN _ _ _ h6
  obtain ⟨h4, s, e4, -, d4⟩ := backN _ _ _ h5
  obtain ⟨h3, p, e3, -, d3⟩ := backN _ _ _ h4
  obtain ⟨h2, i, e2, -, d2⟩ := backN _ _ _ h3
  obtain ⟨-, t, e1, -, d1⟩ := backN _ _ _ h2
  rw [e7, e6, e5, e4, e3, e2, e1]
  simp only
  rw [e6] at d7
  rw [e5] at d6 d7
  rw [e4] at d5 d6 d7
  rw [e3] at d4 d5 d6 d7
  rw [e2] at d3 d4 d5 d6 d7
  rw [e1] at d2 d3 d4 d5 d6 d7
  simp only [List.drop_zero] at d1 d2 d3 d4 d5 d6 d7
  refine ⟨?_, ?_⟩
  · conv => lhs; rw [d1, d2, d3, d4, d5, d6, d7]
    simp only [Sp.bytes, List.append_assoc]
  · simp only [Sp.bytes, List.length_append]; omega

theorem parts_code (b : List UInt8) : (parts b).2.2 = 0 ∨ (parts b).2.2 = 11 ∨ (parts b).2.2 = 12 := by
  unfold parts
  simp only
  exact stepT_code _ _ _ (stepT_code _ _ _ (stepN_code _ _ _ (stepN_code _ _ _ (stepN_code _ _ _ (stepN_code _ _ _ (stepN_code _ _ _ (.inl rfl)))))))

/-- P3.2: what is got of any bytes is right, and has them; else there is nothing but an error. -/
theorem Sp.get_cases (b : List UInt8) : (Sp.rd b = (Sp.zero, 0, 11) ∨ Sp.rd b = (Sp.zero, 0, 12)) ∨ ∃ x : Sp, Sp.rd b = (x, x.bytes.length, 0) ∧ x.right = true ∧ x.bytes.length ≤ b.length ∧ b.take x.bytes.length = x.bytes := by
  have hc := parts_code b
  have hb := parts_back b
  unfold Sp.rd
  split
  · rename_i h0
    rcases hc with h | h | h
    · exact absurd h h0
    · rw [h]; exact .inl (.inl rfl)
    · rw [h]; exact .inl (.inr rfl)
  · rename_i h0
    obtain ⟨h1, h2⟩ := hb (by omega)
    split
    · rename_i hr
      generalize (parts b).1 = x at *
      rw [h2] at h1 ⊢
      have hl : x.bytes.length ≤ b.length := by
        have := congrArg List.length h1
        rw [List.length_append] at this
        omega
      refine .inr ⟨x, rfl, hr, hl, ?_⟩
      conv => lhs; rw [h1]
      rw [List.take_left]
    · exact .inl (.inr rfl)

theorem put_pos (n : Int) (h0 : 0 ≤ n) (h : n ≤ 281474976710656) : 1 ≤ (put n).length := by rw [put_nat n h0 h, enc_length]; exact sz_pos _
theorem put_le (n : Int) : (put n).length ≤ 7 := by rw [put_length]; exact size_le n
theorem Sp.bytes_len (x : Sp) (hx : x.right = true) : 8 ≤ x.bytes.length := by
  rw [Sp.right_iff] at hx
  have h1 := put_pos x.t (by omega) (by omega)
  have h2 := put_pos x.i (by omega) (by omega)
  have h3 := put_pos x.p (by omega) (by omega)
  have h4 := put_pos x.s (by omega) (by omega)
  have h5 := put_pos x.d (by omega) (by omega)
  have h6 := putText_len x.sv (by omega)
  have h7 := putText_len x.nm (by omega)
  simp only [Sp.bytes, List.length_append]
  omega
theorem Sp.bytes_max (x : Sp) : x.bytes.length ≤ 101 := by
  have h1 := put_le x.t
  have h2 := put_le x.i
  have h3 := put_le x.p
  have h4 := put_le x.s
  have h5 := put_le x.d
  have h6 := putText_small x.sv
  have h7 := putText_small x.nm
  simp only [Sp.bytes, List.length_append]
  omega
theorem Sp.put_max (x : Sp) : x.outp.length ≤ 101 := by
  unfold Sp.outp; split
  · exact x.bytes_max
  · simp
theorem Sp.put_pos_iff (x : Sp) : 0 < x.outp.length ↔ x.right = true := by
  unfold Sp.outp; split
  · rename_i h; have := x.bytes_len h; simp [h]; omega
  · rename_i h; simp [h]
/-- unlike right ones: none's bytes begin another one's -/
theorem Sp.bytes_begin (x y : Sp) (n : Nat) (hx : x.right = true) (hy : y.right = true) (hn : n = min x.bytes.length y.bytes.length) : x.bytes.take n = y.bytes.take n ↔ x = y := by
  refine ⟨fun h => ?_, fun h => by rw [h]⟩
  rcases Nat.le_total x.bytes.length y.bytes.length with hl | hl
  · have e : n = x.bytes.length := by omega
    subst e
    rw [List.take_length] at h
    have h1 := Sp.get_bytes x (y.bytes.drop x.bytes.length) hx
    rw [h, List.length_take, Nat.min_eq_left hl, List.take_append_drop] at h1
    have h2 := Sp.get_bytes y [] hy
    rw [List.append_nil, h1] at h2
    simp only [Prod.mk.injEq] at h2
    exact h2.1
  · have e : n = y.bytes.length := by omega
    subst e
    rw [List.take_length] at h
    have h1 := Sp.get_bytes y (x.bytes.drop y.bytes.length) hy
    rw [← h, List.length_take, Nat.min_eq_left hl, List.take_append_drop] at h1
    have h2 := Sp.get_bytes x [] hx
    rw [List.append_nil, h1] at h2
    simp only [Prod.mk.injEq] at h2
    exact h2.1.symm
end Go.Proofs.Ytgicjdlpkphfnaa.Plain

namespace Go.Proofs.Ytgicjdlpkphfnaa.Plain

/-- spans' bytes, one behind the other -/
def wire (l : List Sp) : List UInt8 := l.flatMap Sp.bytes
theorem wire_nil : wire [] = [] := rfl
theorem wire_cons (x : Sp) (l : List Sp) : wire (x :: l) = x.bytes ++ wire l := rfl
theorem wire_append (a b : List Sp) : wire (a ++ b) = wire a ++ wire b := by simp [wire]
theorem wire_one (x : Sp) : wire [x] = x.bytes := by simp [wire]
theorem wire_len (l : List Sp) : (wire l).length ≤ 101 * l.length := by
  induction l with
  | nil => simp [wire]
  | cons x l ih =>
    have := x.bytes_max
    rw [wire_cons, List.length_append, List.length_cons]
    omega
def isB (l : List Sp) : Bool := decide (l.length ≤ 256) && l.all Sp.right
theorem isB_iff (l : List Sp) : isB l = true ↔ l.length ≤ 256 ∧ ∀ x ∈ l, x.right = true := by simp [isB]
def front (n : Nat) : List UInt8 := [84, 66] ++ put n
def body (l : List Sp) : List UInt8 := front l.length ++ wire l
def bput (l : List Sp) : List UInt8 := if isB l then Crc.sealed (body l) else []

/-- n spans, read one behind the other from a place on -/
def rds (x : List UInt8) : Nat → Nat → List Sp → List Sp × Nat × Nat
  | 0, a, acc => if a < x.length then ([], a, 12) else (acc, a, 0)
  | n + 1, a, acc => if (Sp.rd (x.drop a)).2.2 ≠ 0 then ([], a, (Sp.rd (x.drop a)).2.2) else rds x n (a + (Sp.rd (x.drop a)).2.1) (acc ++ [(Sp.rd (x.drop a)).1])
/-- of what was opened: the spans, where, and what is wrong -/
def hd (x : List UInt8) : Nat × Nat × Nat × Nat :=
  if x.take 2 ≠ [84, 66] then (0, 0, 0, 12) else if (get (x.drop 2)).2.2 ≠ 0 then (0, 0, 2, (get (x.drop 2)).2.2) else if 256 < (get (x.drop 2)).1 then (0, 0, 2, 12) else ((get (x.drop 2)).1, 2 + (get (x.drop 2)).2.1, 0, 0)
def bdec (x : List UInt8) : List Sp × Nat × Nat := if (hd x).2.2.2 ≠ 0 then ([], (hd x).2.2.1, (hd x).2.2.2) else rds x (hd x).1 (hd x).2.1 []
instance (b : List UInt8) : Decidable (Crc.opens b) := by unfold Crc.opens; infer_instance
def dec (b : List UInt8) : List Sp × Nat × Nat := if b.length < 7 then ([], 0, 11) else if Crc.opens b then bdec (b.take (b.length - 4)) else ([], 0, 21)
def bget (b : List UInt8) : List Sp × Nat × Nat := if (dec b).2.2 ≠ 0 then ([], (dec b).2.1, (dec b).2.2) else ((dec b).1, b.length, 0)

theorem rd_code (b : List UInt8) : (Sp.rd b).2.2 = 0 ∨ (Sp.rd b).2.2 = 11 ∨ (Sp.rd b).2.2 = 12 := by
  rcases Sp.get_cases b with (h | h) | ⟨x, h, _⟩ <;> rw [h] <;> simp
theorem rd_le (b : List UInt8) : (Sp.rd b).2.1 ≤ b.length := by
  rcases Sp.get_cases b with (h | h) | ⟨x, h, _, h2, _⟩ <;> rw [h] <;> simp
  exact h2
theorem rds_code (x : List UInt8) (n : Nat) : ∀ a acc, (rds x n a acc).2.2 = 0 ∨ (rds x n a acc).2.2 = 11 ∨ (rds x n a acc).2.2 = 12 := by
  induction n with
  | zero => intro a acc; unfold rds; split <;> simp
  | succ n ih =>
    intro a acc
    unfold rds
    split
    · have := rd_code (x.drop a); simp only; omega
    · exact ih _ _
theorem rds_le (x : List UInt8) (n : Nat) : ∀ a acc, a ≤ x.length → (rds x n a acc).2.1 ≤ x.length := by
  induction n with
  | zero => intro a acc h; unfold rds; split <;> simpa using h
  | succ n ih =>
    intro a acc h
    unfold rds
    split
    · exact h
    · have := rd_le (x.drop a)
      rw [List.length_drop] at this
      exact ih _ _ (by omega)
theorem rds_none (x : List UInt8) (n : Nat) : ∀ a acc, (rds x n a acc).2.2 ≠ 0 → (rds x n a acc).1 = [] := by
  induction n with
  | zero => intro a acc h; unfold rds at h ⊢; split at h <;> simp_all
  | succ n ih =>
    intro a acc h
    unfold rds at h ⊢
    split at h
    · rename_i h1; rw [if_pos h1]
    · rename_i h1; rw [if_neg h1]; exact ih _ _ h
theorem rds_back (x : List UInt8) (n : Nat) : ∀ a acc l p, a ≤ x.length → rds x n a acc = (l, p, 0) → ∃ m : List Sp, l = acc ++ m ∧ m.length = n ∧ (∀ s ∈ m, s.right = true) ∧ x.drop a = wire m := by
  induction n with
  | zero =>
    intro a acc l p ha h
    unfold rds at h
    split at h
    · simp at h
    · rename_i h1
      refine ⟨[], by simp at h; simp [h.1], rfl, by simp, ?_⟩
      rw [List.drop_of_length_le (by omega)]; rfl
  | succ n ih =>
    intro a acc l p ha h
    unfold rds at h
    rcases Sp.get_cases (x.drop a) with (hc | hc) | ⟨s, hc, hr, hl, ht⟩
    · rw [hc] at h; simp at h
    · rw [hc] at h; simp at h
    · rw [hc] at h
      simp only [ne_eq, not_true, if_false] at h
      rw [List.length_drop] at hl
      obtain ⟨m, e1, e2, e3, e4⟩ := ih _ _ _ _ (by omega) h
      refine ⟨s :: m, by rw [e1]; simp, by simp [e2], ?_, ?_⟩
      · intro y hy
        rcases List.mem_cons.1 hy with rfl | hy
        · exact hr
        · exact e3 y hy
      · have h5 := List.take_append_drop s.bytes.length (x.drop a)
        rw [ht, List.drop_drop, e4] at h5
        rw [wire_cons]; exact h5.symm
theorem rds_wire (x : List UInt8) (m : List Sp) : ∀ a acc, a ≤ x.length → (∀ s ∈ m, s.right = true) → x.drop a = wire m → rds x m.length a acc = (acc ++ m, x.length, 0) := by
  induction m with
  | nil =>
    intro a acc ha _ h
    have h1 : (x.drop a).length = 0 := by rw [h]; rfl
    rw [List.length_drop] at h1
    show rds x 0 a acc = _
    unfold rds
    rw [if_neg (by omega), show a = x.length by omega]
    simp
  | cons s m ih =>
    intro a acc ha hr h
    rw [wire_cons] at h
    have hc := s.get_bytes (wire m) (hr s (by simp))
    have hl : (x.drop a).length = s.bytes.length + (wire m).length := by rw [h, List.length_append]
    rw [List.length_drop] at hl
    show rds x (m.length + 1) a acc = _
    unfold rds
    rw [h, hc]
    simp only [ne_eq, not_true, if_false]
    rw [ih _ _ (by omega) (fun y hy => hr y (by simp [hy])) (by rw [← List.drop_drop, h, List.drop_left])]
    simp

theorem put_len (n : Nat) (h : n ≤ 256) : (put n).length = if n < 128 then 1 else 2 := by
  rw [put_nat n (by omega) (by omega), enc_length]
  unfold sz
  simp only [Int.toNat_natCast]
  repeat' split
  all_goals first | rfl | omega
theorem front_len (n : Nat) (h : n ≤ 256) : (front n).length = if n < 128 then 3 else 4 := by
  unfold front
  rw [List.length_append, put_len n h]
  split <;> rfl
theorem body_len (l : List Sp) (h : l.length ≤ 256) : (body l).length = (if l.length < 128 then 3 else 4) + (wire l).length := by
  unfold body; rw [List.length_append, front_len _ h]
theorem body_le (l : List Sp) (h : l.length ≤ 256) : (body l).length ≤ 26000 := by
  rw [body_len l h]; have := wire_len l; split <;> omega
theorem bput_yes (l : List Sp) (h : isB l = true) : bput l = Crc.sealed (body l) := by unfold bput; rw [if_pos h]
theorem bput_no (l : List Sp) (h : isB l = false) : bput l = [] := by unfold bput; rw [if_neg (by simp [h])]
theorem bput_len (l : List Sp) (h : isB l = true) : (bput l).length = (if l.length < 128 then 7 else 8) + (wire l).length := by
  rw [bput_yes l h, Crc.sealed_length, body_len l ((isB_iff l).1 h).1]; split <;> omega
theorem bput_le (l : List Sp) : (bput l).length ≤ 26004 := by
  by_cases h : isB l = true
  · rw [bput_yes l h, Crc.sealed_length]; have := body_le l ((isB_iff l).1 h).1; omega
  · rw [bput_no l (by simpa using h)]; simp
theorem bput_pos (l : List Sp) : 0 < (bput l).length ↔ isB l = true := by
  by_cases h : isB l = true
  · simp only [h, iff_true]; rw [bput_len l h]; split <;> omega
  · rw [bput_no l (by simpa using h)]; simp [h]

theorem hd_body (l : List Sp) (h : l.length ≤ 256) : hd (body l) = (l.length, (front l.length).length, 0, 0) := by
  have e1 : (body l).take 2 = [84, 66] := rfl
  have e2 : (body l).drop 2 = enc (sz l.length) l.length ++ wire l := by
    have : put (l.length : Int) = enc (sz l.length) l.length := by
      have := put_nat l.length (by omega) (by omega); simpa using this
    rw [← this]; rfl
  have e3 := get_put l.length (by omega) (wire l)
  unfold hd
  rw [e1, e2, e3]
  simp only [ne_eq, not_true, if_false]
  rw [if_neg (by omega)]
  have : (front l.length).length = 2 + sz l.length := by
    unfold front
    rw [put_nat l.length (by omega) (by omega), List.length_append, enc_length]; rfl
  rw [this]
theorem dec_bput (l : List Sp) (h : isB l = true) : dec (bput l) = (l, (body l).length, 0) := by
  obtain ⟨h1, h2⟩ := (isB_iff l).1 h
  have hl := bput_len l h
  obtain ⟨o1, o2⟩ := Crc.opens_sealed (body l)
  unfold dec
  rw [if_neg (by rw [hl]; split <;> omega), bput_yes l h, if_pos o1, o2]
  unfold bdec
  rw [hd_body l h1]
  simp only [ne_eq, not_true, if_false]
  exact rds_wire (body l) l _ [] (by unfold body; simp) h2 (by unfold body; rw [List.drop_left])
theorem bget_bput (l : List Sp) (h : isB l = true) : bget (bput l) = (l, (bput l).length, 0) := by
  unfold bget; rw [dec_bput l h]; simp
theorem hd_back (x : List UInt8) (n a : Nat) (p : Nat) (h : hd x = (n, a, p, 0)) : n ≤ 256 ∧ x = front n ++ x.drop a ∧ a ≤ x.length := by
  unfold hd at h
  split at h
  · simp at h
  rename_i h1
  have h1' : x.take 2 = [84, 66] := by simpa using h1
  split at h
  · rename_i h2; simp at h; exact absurd h.2.2.2 h2
  rename_i h2
  split at h
  · simp at h
  rename_i h3
  have h2' : (get (x.drop 2)).2.2 = 0 := by omega
  rcases hg : get (x.drop 2) with ⟨k, j, c⟩
  rw [hg] at h h2' h3
  simp only at h h2' h3
  subst h2'
  obtain ⟨b1, b2, b3, b4⟩ := get_back _ _ _ hg
  simp only [Prod.mk.injEq] at h
  obtain ⟨rfl, rfl, _⟩ := h
  have hx : x = x.take 2 ++ ((x.drop 2).take j ++ (x.drop 2).drop j) := by rw [List.take_append_drop, List.take_append_drop]
  rw [List.length_drop] at b3
  have h2l : 2 ≤ x.length := by
    have := congrArg List.length h1'
    rw [List.length_take] at this
    simp at this; omega
  refine ⟨by omega, ?_, by omega⟩
  unfold front
  have : put (k : Int) = (x.drop 2).take j := by
    rw [b4]; have := put_nat k (by omega) (by omega); simpa using this
  rw [this, ← h1', List.append_assoc, ← List.drop_drop]
  exact hx
theorem dec_back (b : List UInt8) (l : List Sp) (p : Nat) (h : dec b = (l, p, 0)) : isB l = true ∧ bput l = b := by
  unfold dec at h
  split at h
  · simp at h
  split at h
  · rename_i h1 ho
    unfold bdec at h
    rcases hh : hd (b.take (b.length - 4)) with ⟨n, a, q, c⟩
    rw [hh] at h
    simp only at h
    split at h
    · rename_i h2; simp at h; exact absurd h.2.2 h2
    · rename_i h2
      have hc : c = 0 := by omega
      subst hc
      obtain ⟨b1, b2, b3⟩ := hd_back _ _ _ _ hh
      obtain ⟨m, e1, e2, e3, e4⟩ := rds_back _ _ _ _ _ _ b3 h
      simp only [List.nil_append] at e1
      subst e1
      have hb : isB l = true := (isB_iff l).2 ⟨by omega, e3⟩
      refine ⟨hb, ?_⟩
      rw [bput_yes l hb]
      have : body l = b.take (b.length - 4) := by
        unfold body; rw [e2, ← e4]; exact b2.symm
      rw [this]
      exact ho.2.symm
  · simp at h
theorem dec_none (b : List UInt8) (h : (dec b).2.2 ≠ 0) : (dec b).1 = [] := by
  unfold dec at h ⊢
  split
  · rfl
  rename_i h1
  rw [if_neg h1] at h
  split
  · rename_i h2
    rw [if_pos h2] at h
    unfold bdec at h ⊢
    split
    · rfl
    · rename_i h3; rw [if_neg h3] at h; exact rds_none _ _ _ _ h
  · rfl
theorem hd_code (x : List UInt8) : (hd x).2.2.2 = 0 ∨ (hd x).2.2.2 = 11 ∨ (hd x).2.2.2 = 12 := by
  unfold hd
  split
  · simp
  split
  · have := code_cases (x.drop 2); simp only; omega
  split
  · simp
  · simp
theorem bdec_code (x : List UInt8) : (bdec x).2.2 = 0 ∨ (bdec x).2.2 = 11 ∨ (bdec x).2.2 = 12 := by
  unfold bdec
  split
  · exact hd_code x
  · exact rds_code _ _ _ _
theorem dec_code (b : List UInt8) : (dec b).2.2 = 0 ∨ (dec b).2.2 = 11 ∨ (dec b).2.2 = 12 ∨ (dec b).2.2 = 21 := by
  unfold dec
  split
  · simp
  split
  · have := bdec_code (b.take (b.length - 4)); omega
  · simp
theorem bget_code (b : List UInt8) : (bget b).2.2 = 0 ∨ (bget b).2.2 = 11 ∨ (bget b).2.2 = 12 ∨ (bget b).2.2 = 21 := by
  unfold bget
  have := dec_code b
  split
  · exact this
  · simp
theorem bget_none (b : List UInt8) (h : (bget b).2.2 ≠ 0) : (bget b).1 = [] := by
  unfold bget at h ⊢
  split
  · rfl
  · rename_i h1; rw [if_neg h1] at h; simp at h
theorem bget_back (b : List UInt8) (h : (bget b).2.2 = 0) : isB (bget b).1 = true ∧ bput (bget b).1 = b := by
  unfold bget at h ⊢
  split
  · rename_i h1; rw [if_pos h1] at h; exact absurd h h1
  · rename_i h1
    rcases hd : dec b with ⟨l, p, c⟩
    rw [hd] at h1
    have hc : c = 0 := by simpa using h1
    subst hc
    exact dec_back b l p hd
theorem bget_sealed (b : List UInt8) : (bget (Crc.sealed b)).2.2 ≠ 21 := by
  obtain ⟨o1, o2⟩ := Crc.opens_sealed b
  have h : (dec (Crc.sealed b)).2.2 ≠ 21 := by
    unfold dec
    split
    · simp
    have := bdec_code ((Crc.sealed b).take ((Crc.sealed b).length - 4))
    omega
  unfold bget
  split
  · exact h
  · simp
theorem bget_torn (b : List UInt8) (h7 : 7 ≤ b.length) (h : ¬ Crc.opens b) : bget b = ([], 0, 21) := by
  have : dec b = ([], 0, 21) := by unfold dec; rw [if_neg (by omega), if_neg h]
  unfold bget
  rw [this]
  rfl
theorem bput_inj (a b : List Sp) (ha : isB a = true) (hb : isB b = true) : bput a = bput b ↔ a = b := by
  refine ⟨fun h => ?_, fun h => by rw [h]⟩
  have h1 := bget_bput a ha
  rw [h, bget_bput b hb] at h1
  simp only [Prod.mk.injEq] at h1
  exact h1.1.symm
theorem isB_append (a b : List Sp) (ha : isB a = true) (hb : isB b = true) : isB (a ++ b) = decide (a.length + b.length ≤ 256) := by
  rw [isB_iff] at ha hb
  rw [Bool.eq_iff_iff, isB_iff]
  simp only [List.length_append, decide_eq_true_eq, List.mem_append]
  exact ⟨fun h => h.1, fun h => ⟨h, fun x hx => hx.elim (ha.2 x) (hb.2 x)⟩⟩
theorem bget_list_le (b : List UInt8) : (bget b).1.length ≤ 256 := by
  by_cases h : (bget b).2.2 = 0
  · exact ((isB_iff _).1 (bget_back b h).1).1
  · rw [bget_none b h]; simp
end Go.Proofs.Ytgicjdlpkphfnaa.Plain
