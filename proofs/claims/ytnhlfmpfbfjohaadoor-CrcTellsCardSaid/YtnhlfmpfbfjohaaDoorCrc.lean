/-
  Plain mathematics of layer 2, with no program in it: the register, bit by bit, four bits at once, and by bytes; that it is linear and loses nothing; sums, what is sealed, and that a burst is told. Nothing is assumed.
-/
namespace Go.Proofs.YtnhlfmpfbfjohaaDoor.Crc

def poly : BitVec 32 := 0x82F63B78#32
/-- all bits move one place down -/
def step (r : BitVec 32) : BitVec 32 := (r >>> 1) ^^^ (if r.getLsbD 0 then poly else 0#32)
def steps : Nat → BitVec 32 → BitVec 32
  | 0, r => r
  | n + 1, r => steps n (step r)
/-- a byte as bits of a register -/
def wide (c : UInt8) : BitVec 32 := BitVec.ofNat 32 c.toNat
def byteIn (r : BitVec 32) (c : UInt8) : BitVec 32 := steps 8 (r ^^^ wide c)
def run (r : BitVec 32) (bs : List UInt8) : BitVec 32 := bs.foldl byteIn r
def more (s : BitVec 32) (bs : List UInt8) : BitVec 32 := ~~~ run (~~~ s) bs
def of (bs : List UInt8) : BitVec 32 := more 0#32 bs
/-- the four bytes of a sum, the lowest first -/
def sumBytes (s : BitVec 32) : List UInt8 := [UInt8.ofNat s.toNat, UInt8.ofNat (s >>> 8).toNat, UInt8.ofNat (s >>> 16).toNat, UInt8.ofNat (s >>> 24).toNat]
def sealed (bs : List UInt8) : List UInt8 := bs ++ sumBytes (of bs)
def opens (bs : List UInt8) : Prop := 4 ≤ bs.length ∧ bs = sealed (bs.take (bs.length - 4))
instance (bs : List UInt8) : Decidable (opens bs) := by unfold opens; infer_instance

/-- a bit goes in -/
def bitIn (r : BitVec 32) (b : Bool) : BitVec 32 := step (r ^^^ (if b then 1#32 else 0#32))
def runBits (r : BitVec 32) (l : List Bool) : BitVec 32 := l.foldl bitIn r
def bitsN : Nat → BitVec 32 → List Bool
  | 0, _ => []
  | n + 1, x => x.getLsbD 0 :: bitsN n (x >>> 1)
def bitsOf (bs : List UInt8) : List Bool := bs.flatMap fun c => bitsN 8 (wide c)

theorem step_xor (a b : BitVec 32) : step (a ^^^ b) = step a ^^^ step b := by
  unfold step
  rw [BitVec.ushiftRight_xor_distrib, BitVec.getLsbD_xor]
  generalize a >>> 1 = x
  generalize b >>> 1 = y
  cases a.getLsbD 0 <;> cases b.getLsbD 0 <;> simp
  · ac_rfl
  · ac_rfl
  · have : x ^^^ poly ^^^ (y ^^^ poly) = x ^^^ y ^^^ (poly ^^^ poly) := by ac_rfl
    rw [this]; simp
theorem step_zero : step 0#32 = 0#32 := by decide
theorem step_one (a : BitVec 32) (h : step a = 0#32) : a = 0#32 := by
  unfold step at h
  cases hb : a.getLsbD 0
  · rw [hb] at h
    simp only [Bool.false_eq_true, if_false, BitVec.xor_zero] at h
    apply BitVec.eq_of_getLsbD_eq
    intro i hi
    rcases i with _ | i
    · rw [hb]; simp
    · have := congrArg (fun z => z.getLsbD i) h
      simp only [BitVec.getLsbD_ushiftRight, BitVec.getLsbD_zero] at this
      rw [show i + 1 = 1 + i by omega, this]; simp
  · rw [hb] at h
    have := congrArg (fun z => z.getLsbD 31) h
    simp [poly] at this
theorem steps_xor (n : Nat) : ∀ a b : BitVec 32, steps n (a ^^^ b) = steps n a ^^^ steps n b := by
  induction n with
  | zero => intro a b; rfl
  | succ n ih => intro a b; rw [steps, step_xor, ih]; rfl
theorem steps_zero (n : Nat) : steps n 0#32 = 0#32 := by
  induction n with
  | zero => rfl
  | succ n ih => rw [steps, step_zero, ih]
theorem steps_one (n : Nat) : ∀ a : BitVec 32, steps n a = 0#32 → a = 0#32 := by
  induction n with
  | zero => intro a h; exact h
  | succ n ih => intro a h; exact step_one a (ih _ h)
theorem xor_eq_zero {a b : BitVec 32} (h : a ^^^ b = 0#32) : a = b := by
  have : a ^^^ b ^^^ b = b := by rw [h]; simp
  rw [BitVec.xor_assoc, BitVec.xor_self, BitVec.xor_zero] at this
  exact this
theorem steps_inj (n : Nat) (a b : BitVec 32) (h : steps n a = steps n b) : a = b :=
  xor_eq_zero (steps_one n _ (by rw [steps_xor, h, BitVec.xor_self]))
theorem steps_add (m n : Nat) : ∀ a : BitVec 32, steps (m + n) a = steps n (steps m a) := by
  induction m with
  | zero => intro a; rw [Nat.zero_add]; rfl
  | succ m ih => intro a; rw [show m + 1 + n = (m + n) + 1 by omega, steps, ih]; rfl

/-- four at once -/
theorem step_even (r : BitVec 32) (h : r.getLsbD 0 = false) : step r = r >>> 1 := by unfold step; rw [h]; simp only [Bool.false_eq_true, if_false, BitVec.xor_zero]
theorem four (r : BitVec 32) : steps 4 r = (r >>> 4) ^^^ steps 4 (r &&& 15#32) := by
  have hz : ∀ z : BitVec 32, z.getLsbD 0 = false → z.getLsbD 1 = false → z.getLsbD 2 = false → z.getLsbD 3 = false → steps 4 z = z >>> 4 := by
    intro z h0 h1 h2 h3
    have e0 := step_even z h0
    have e1 := step_even (z >>> 1) (by simpa using h1)
    have e2 := step_even (z >>> 1 >>> 1) (by simpa using h2)
    have e3 := step_even (z >>> 1 >>> 1 >>> 1) (by simpa using h3)
    simp only [steps, e0, e1, e2, e3]
    simp [← BitVec.shiftRight_add]
  have e : r = (r &&& ~~~15#32) ^^^ (r &&& 15#32) := by
    apply BitVec.eq_of_getLsbD_eq
    intro i hi
    simp only [BitVec.getLsbD_xor, BitVec.getLsbD_and, BitVec.getLsbD_not]
    cases r.getLsbD i <;> cases (15#32).getLsbD i <;> simp [hi]
  have hs : (r &&& ~~~15#32) >>> 4 = r >>> 4 := by
    apply BitVec.eq_of_getLsbD_eq
    intro i hi
    simp only [BitVec.getLsbD_ushiftRight, BitVec.getLsbD_and, BitVec.getLsbD_not]
    by_cases h : 4 + i < 32
    · have : (15#32).getLsbD (4 + i) = false := by
        have hh : ∀ j : Fin 28, (15#32).getLsbD (4 + j.val) = false := by decide
        exact hh ⟨i, by omega⟩
      rw [this]; simp only [h, decide_true, Bool.not_false, Bool.and_true]
    · simp [BitVec.getLsbD_of_ge r (4 + i) (by omega)]
  conv => lhs; rw [e, steps_xor]
  rw [hz _ (by simp) (by simp) (by simp) (by simp), hs]
/-- what four bits leave -/
def tab (i : Nat) : Nat := [0, 274646895, 549293790, 820201905, 1098587580, 1361435347, 1640403810, 1905808397, 2197175160, 2460548119, 2722870694, 2987750089, 3280807620, 3553878443, 3811616794, 4084100981].getD i 0
theorem tab_is (i : Nat) (h : i < 16) : BitVec.ofNat 32 (tab i) = steps 4 (BitVec.ofNat 32 i) := by
  have : ∀ j : Fin 16, BitVec.ofNat 32 (tab j.val) = steps 4 (BitVec.ofNat 32 j.val) := by decide +kernel
  exact this ⟨i, h⟩
theorem tab_lt (i : Nat) : tab i < 4294967296 := by
  rcases Nat.lt_or_ge i 16 with h | h
  · have : ∀ j : Fin 16, tab j.val < 4294967296 := by decide
    exact this ⟨i, h⟩
  · unfold tab; rw [List.getD_eq_getElem?_getD, List.getElem?_eq_none (by simpa using h)]; decide
/-- one round of the table -/
def quad (r : BitVec 32) : BitVec 32 := (r >>> 4) ^^^ BitVec.ofNat 32 (tab (r.toNat % 16))
theorem quad_is (r : BitVec 32) : quad r = steps 4 r := by
  unfold quad
  have e : BitVec.ofNat 32 (r.toNat % 16) = r &&& 15#32 := by
    apply BitVec.eq_of_toNat_eq
    rw [BitVec.toNat_ofNat, BitVec.toNat_and]
    have := Nat.and_two_pow_sub_one_eq_mod r.toNat 4
    simp at this ⊢
    rw [this]; omega
  rw [tab_is _ (Nat.mod_lt _ (by omega)), e, ← four]
theorem byteIn_quad (r : BitVec 32) (c : UInt8) : quad (quad (r ^^^ wide c)) = byteIn r c := by
  rw [quad_is, quad_is, ← steps_add]; rfl

/-- bits and steps -/
theorem bits_steps (n : Nat) : ∀ (x r : BitVec 32), x >>> n = 0#32 → runBits r (bitsN n x) = steps n (r ^^^ x) := by
  induction n with
  | zero => intro x r h; rw [BitVec.ushiftRight_zero] at h; subst h; simp [bitsN, runBits, steps]
  | succ n ih =>
    intro x r h
    have h1 : x >>> 1 >>> n = 0#32 := by rw [← BitVec.shiftRight_add, Nat.add_comm]; exact h
    show runBits (bitIn r (x.getLsbD 0)) (bitsN n (x >>> 1)) = steps n (step (r ^^^ x))
    rw [ih _ _ h1]
    congr 1
    unfold bitIn
    have e : step x = step (if x.getLsbD 0 then 1#32 else 0#32) ^^^ (x >>> 1) := by
      unfold step
      cases x.getLsbD 0 <;> simp
      rw [BitVec.xor_comm]
    rw [step_xor, step_xor, e, BitVec.xor_assoc]
theorem run_bits (bs : List UInt8) : ∀ r, run r bs = runBits r (bitsOf bs) := by
  induction bs with
  | nil => intro r; rfl
  | cons c bs ih =>
    intro r
    have : bitsOf (c :: bs) = bitsN 8 (wide c) ++ bitsOf bs := by simp [bitsOf]
    rw [this]
    show run (byteIn r c) bs = (bitsN 8 (wide c) ++ bitsOf bs).foldl bitIn r
    rw [List.foldl_append, ih]
    congr 1
    have hw : wide c >>> 8 = 0#32 := by
      apply BitVec.eq_of_toNat_eq
      have := c.toNat_lt
      simp [wide, Nat.shiftRight_eq_div_pow]; omega
    exact (bits_steps 8 (wide c) r hw).symm
theorem bitsN_length (n : Nat) : ∀ x, (bitsN n x).length = n := by
  induction n with
  | zero => intro x; rfl
  | succ n ih => intro x; simp [bitsN, ih]
theorem bitsOf_length (bs : List UInt8) : (bitsOf bs).length = 8 * bs.length := by
  induction bs with
  | nil => rfl
  | cons c bs ih => simp [bitsOf, bitsN_length] at ih ⊢; omega
theorem bitsN_at (n : Nat) : ∀ (x : BitVec 32) (j : Nat), j < n → (bitsN n x)[j]? = some (x.getLsbD j) := by
  induction n with
  | zero => intro x j h; omega
  | succ n ih =>
    intro x j h
    rcases j with _ | j
    · rfl
    · rw [bitsN, List.getElem?_cons_succ, ih _ _ (by omega), BitVec.getLsbD_ushiftRight, Nat.add_comm]
theorem bitsOf_at : ∀ (bs : List UInt8) (i : Nat) (h : i / 8 < bs.length), (bitsOf bs)[i]? = some (bs[i / 8].toNat.testBit (i % 8))
  | [], i, h => by simp at h
  | c :: bs, i, h => by
    have : bitsOf (c :: bs) = bitsN 8 (wide c) ++ bitsOf bs := by simp [bitsOf]
    rw [this]
    by_cases h8 : i < 8
    · rw [List.getElem?_append_left (by rw [bitsN_length]; exact h8), bitsN_at _ _ _ h8]
      have e0 : i / 8 = 0 := by omega
      have e1 : i % 8 = i := by omega
      simp only [e0, e1, List.getElem_cons_zero, wide, BitVec.getLsbD_ofNat]
      simp; omega
    · rw [List.getElem?_append_right (by rw [bitsN_length]; omega), bitsN_length]
      have h' : (i - 8) / 8 < bs.length := by simp at h; omega
      rw [bitsOf_at bs (i - 8) h']
      have e1 : i / 8 = (i - 8) / 8 + 1 := by omega
      have e2 : (i - 8) % 8 = i % 8 := by omega
      simp only [e1, e2, List.getElem_cons_succ]
theorem run_append (r : BitVec 32) (a b : List UInt8) : run r (a ++ b) = run (run r a) b := by simp [run]
theorem more_append (s : BitVec 32) (a b : List UInt8) : more s (a ++ b) = more (more s a) b := by
  unfold more; rw [run_append, BitVec.not_not]
theorem more_nil (s : BitVec 32) : more s [] = s := by unfold more run; simp
theorem run_inj (bs : List UInt8) : ∀ a b, run a bs = run b bs → a = b := by
  induction bs with
  | nil => intro a b h; exact h
  | cons c bs ih =>
    intro a b h
    have h1 := steps_inj 8 _ _ (ih _ _ h)
    have : a ^^^ wide c ^^^ wide c = b ^^^ wide c ^^^ wide c := by rw [h1]
    simpa [BitVec.xor_assoc] using this
theorem more_inj (bs : List UInt8) (s t : BitVec 32) (h : more s bs = more t bs) : s = t := by
  unfold more at h
  have h1 := run_inj bs _ _ (by have := congrArg (~~~ ·) h; simpa using this)
  have := congrArg (~~~ ·) h1
  simpa using this

/-- exclusive or, byte by byte -/
def xors : List UInt8 → List UInt8 → List UInt8 → List UInt8
  | a :: x, b :: y, c :: z => (a ^^^ b ^^^ c) :: xors x y z
  | _, _, _ => []
theorem wide_xor (a b : UInt8) : wide (a ^^^ b) = wide a ^^^ wide b := by
  unfold wide
  apply BitVec.eq_of_toNat_eq
  simp only [BitVec.toNat_ofNat, BitVec.toNat_xor, UInt8.toNat_xor]
  have ha := a.toNat_lt
  have hb := b.toNat_lt
  have hx : a.toNat ^^^ b.toNat < 2 ^ 8 := Nat.xor_lt_two_pow (by omega) (by omega)
  rw [Nat.mod_eq_of_lt (by omega), Nat.mod_eq_of_lt (by omega), Nat.mod_eq_of_lt (by omega)]
theorem run_xors : ∀ (x y z : List UInt8) (a b c : BitVec 32), x.length = y.length → y.length = z.length → run (a ^^^ b ^^^ c) (xors x y z) = run a x ^^^ run b y ^^^ run c z
  | [], [], [], _, _, _, _, _ => rfl
  | d :: x, e :: y, f :: z, a, b, c, h1, h2 => by
    show run (byteIn (a ^^^ b ^^^ c) (d ^^^ e ^^^ f)) (xors x y z) = run (byteIn a d) x ^^^ run (byteIn b e) y ^^^ run (byteIn c f) z
    rw [← run_xors x y z _ _ _ (by simpa using h1) (by simpa using h2)]
    congr 1
    unfold byteIn
    rw [← steps_xor, ← steps_xor, wide_xor, wide_xor]
    congr 1
    ac_rfl
  | [], [], _ :: _, _, _, _, _, h => by simp at h
  | [], _ :: _, _, _, _, _, h, _ => by simp at h
  | _ :: _, [], _, _, _, _, h, _ => by simp at h
  | _ :: _, _ :: _, [], _, _, _, _, h => by simp at h
theorem of_xors (x y z : List UInt8) (h1 : x.length = y.length) (h2 : y.length = z.length) : of (xors x y z) = of x ^^^ of y ^^^ of z := by
  unfold of more
  have e : ~~~0#32 = ~~~0#32 ^^^ ~~~0#32 ^^^ ~~~0#32 := by decide
  conv => lhs; rw [e, run_xors x y z _ _ _ h1 h2]
  generalize run (~~~0#32) x = p
  generalize run (~~~0#32) y = q
  generalize run (~~~0#32) z = r
  apply BitVec.eq_of_getLsbD_eq
  intro i hi
  simp only [BitVec.getLsbD_xor, BitVec.getLsbD_not, hi, decide_true, Bool.true_and]
  cases p.getLsbD i <;> cases q.getLsbD i <;> cases r.getLsbD i <;> rfl

theorem sumBytes_length (s : BitVec 32) : (sumBytes s).length = 4 := rfl
theorem sealed_length (bs : List UInt8) : (sealed bs).length = bs.length + 4 := by simp [sealed, sumBytes_length]
theorem opens_sealed (bs : List UInt8) : opens (sealed bs) ∧ (sealed bs).take ((sealed bs).length - 4) = bs := by
  have e : (sealed bs).take ((sealed bs).length - 4) = bs := by
    rw [sealed_length, Nat.add_sub_cancel, sealed, List.take_left]
  exact ⟨⟨by rw [sealed_length]; omega, by rw [e]⟩, e⟩

/-- the bits of a sum's bytes -/
theorem byte_bit (s : BitVec 32) (k j : Nat) (hj : j < 8) : (UInt8.ofNat (s >>> k).toNat).toNat.testBit j = s.getLsbD (k + j) := by
  rw [UInt8.toNat_ofNat', ← BitVec.getLsbD_ushiftRight]
  show ((s >>> k).toNat % 2 ^ 8).testBit j = (s >>> k).toNat.testBit j
  rw [Nat.testBit_mod_two_pow]
  simp [hj]
theorem bits_sumBytes (s : BitVec 32) : bitsOf (sumBytes s) = bitsN 32 s := by
  apply List.ext_getElem?
  intro i
  by_cases h : i < 32
  · rw [bitsN_at 32 s i h, bitsOf_at _ _ (by rw [sumBytes_length]; omega)]
    congr 1
    have hq : i / 8 = 0 ∨ i / 8 = 1 ∨ i / 8 = 2 ∨ i / 8 = 3 := by omega
    have hm : i % 8 < 8 := by omega
    have h0 := byte_bit s 0 (i % 8) hm
    have h1 := byte_bit s 8 (i % 8) hm
    have h2 := byte_bit s 16 (i % 8) hm
    have h3 := byte_bit s 24 (i % 8) hm
    rw [BitVec.ushiftRight_zero] at h0
    rcases hq with hq | hq | hq | hq
    · simp only [hq, sumBytes, List.getElem_cons_zero]; rw [h0]; congr 1; omega
    · simp only [hq, sumBytes, List.getElem_cons_zero, List.getElem_cons_succ]; rw [h1]; congr 1; omega
    · simp only [hq, sumBytes, List.getElem_cons_zero, List.getElem_cons_succ]; rw [h2]; congr 1; omega
    · simp only [hq, sumBytes, List.getElem_cons_zero, List.getElem_cons_succ]; rw [h3]; congr 1; omega
  · rw [List.getElem?_eq_none (by rw [bitsOf_length, sumBytes_length]; omega), List.getElem?_eq_none (by rw [bitsN_length]; omega)]
theorem shift32 (x : BitVec 32) : x >>> 32 = 0#32 := by
  apply BitVec.eq_of_getLsbD_eq
  intro i hi
  rw [BitVec.getLsbD_ushiftRight, BitVec.getLsbD_of_ge x (32 + i) (by omega)]; simp
/-- what stands in the register behind a sum -/
theorem run_sealed (bs : List UInt8) : run (~~~0#32) (sealed bs) = steps 32 (~~~0#32) := by
  unfold sealed
  rw [run_append, run_bits (sumBytes _), bits_sumBytes, bits_steps 32 _ _ (shift32 _)]
  congr 1
  unfold of more
  generalize run (~~~0#32) bs = p
  apply BitVec.eq_of_getLsbD_eq
  intro i hi
  simp only [BitVec.getLsbD_xor, BitVec.getLsbD_not, BitVec.getLsbD_zero, hi, decide_true, Bool.true_and]
  cases p.getLsbD i <;> rfl
theorem bitIn_xor (a b : BitVec 32) (p q : Bool) : bitIn (a ^^^ b) (p ^^ q) = bitIn a p ^^^ bitIn b q := by
  unfold bitIn
  rw [← step_xor]
  congr 1
  cases p <;> cases q <;> simp
  · ac_rfl
  · ac_rfl
  · have : a ^^^ 1#32 ^^^ (b ^^^ 1#32) = a ^^^ b ^^^ (1#32 ^^^ 1#32) := by ac_rfl
    rw [this]; simp
theorem runBits_xor : ∀ (l e : List Bool) (a b : BitVec 32), l.length = e.length → runBits (a ^^^ b) (List.zipWith (· ^^ ·) l e) = runBits a l ^^^ runBits b e
  | [], [], _, _, _ => rfl
  | p :: l, q :: e, a, b, h => by
    show runBits (bitIn (a ^^^ b) (p ^^ q)) (List.zipWith (· ^^ ·) l e) = runBits (bitIn a p) l ^^^ runBits (bitIn b q) e
    rw [bitIn_xor, runBits_xor l e _ _ (by simpa using h)]
  | [], _ :: _, _, _, h => by simp at h
  | _ :: _, [], _, _, h => by simp at h
theorem runBits_none (m : Nat) : ∀ r, runBits r (List.replicate m false) = steps m r := by
  induction m with
  | zero => intro r; rfl
  | succ m ih =>
    intro r
    show runBits (bitIn r false) (List.replicate m false) = steps m (step r)
    rw [ih]; simp [bitIn]
/-- A BURST IS TOLD: t is s with bits turned within 32 that stand together, one at least -/
theorem burst (b t : List UInt8) (k : Nat) (x : BitVec 32) (hl : t.length = (sealed b).length) (hk : k + 32 ≤ 8 * t.length) (hx : x ≠ 0#32)
    (ht : ∀ i p q, (bitsOf t)[i]? = some p → (bitsOf (sealed b))[i]? = some q → p = (q ^^ (decide (k ≤ i) && x.getLsbD (i - k)))) : ¬ opens t := by
  intro ho
  have e1 : run (~~~0#32) t = steps 32 (~~~0#32) := by rw [ho.2]; exact run_sealed _
  have e2 := run_sealed b
  rw [run_bits] at e1 e2
  have hE : bitsOf t = List.zipWith (· ^^ ·) (bitsOf (sealed b)) (List.replicate k false ++ (bitsN 32 x ++ List.replicate (8 * t.length - 32 - k) false)) := by
    apply List.ext_getElem
    · simp [bitsOf_length, bitsN_length, hl]; omega
    · intro i h1 h2
      have hi : i < 8 * t.length := by rw [bitsOf_length] at h1; exact h1
      have h3 : i < (bitsOf (sealed b)).length := by rw [bitsOf_length, ← hl]; exact hi
      rw [ht i _ _ (List.getElem?_eq_getElem h1) (List.getElem?_eq_getElem h3), List.getElem_zipWith]
      congr 1
      rw [← Option.some_inj, ← List.getElem?_eq_getElem]
      rw [List.getElem?_append]
      simp only [List.length_replicate]
      by_cases hki : i < k
      · rw [if_pos hki, List.getElem?_replicate, if_pos hki]; simp; omega
      · rw [if_neg hki, List.getElem?_append]
        simp only [bitsN_length]
        by_cases hk2 : i - k < 32
        · rw [if_pos hk2, bitsN_at 32 x _ hk2]; simp; omega
        · rw [if_neg hk2, List.getElem?_replicate, if_pos (by omega), BitVec.getLsbD_of_ge x _ (by omega)]; simp
  rw [hE] at e1
  have e3 := runBits_xor (bitsOf (sealed b)) (List.replicate k false ++ (bitsN 32 x ++ List.replicate (8 * t.length - 32 - k) false)) (~~~0#32) 0#32 (by simp [bitsOf_length, bitsN_length, ← hl]; omega)
  rw [BitVec.xor_zero, e1, e2] at e3
  have e4 : runBits 0#32 (List.replicate k false ++ (bitsN 32 x ++ List.replicate (8 * t.length - 32 - k) false)) = 0#32 := by
    generalize runBits 0#32 (List.replicate k false ++ (bitsN 32 x ++ List.replicate (8 * t.length - 32 - k) false)) = y at e3
    have h5 : steps 32 (~~~0#32) ^^^ steps 32 (~~~0#32) = steps 32 (~~~0#32) ^^^ (steps 32 (~~~0#32) ^^^ y) := by rw [← e3]
    rw [← BitVec.xor_assoc, BitVec.xor_self, BitVec.zero_xor] at h5
    exact h5.symm
  unfold runBits at e4
  rw [List.foldl_append, List.foldl_append] at e4
  have e5 : (List.replicate k false).foldl bitIn 0#32 = 0#32 := (runBits_none k 0#32).trans (steps_zero k)
  rw [e5] at e4
  have e6 : (bitsN 32 x).foldl bitIn 0#32 = steps 32 x := by
    have := bits_steps 32 x 0#32 (shift32 x)
    rw [BitVec.zero_xor] at this
    exact this
  rw [e6] at e4
  have e7 : (List.replicate (8 * t.length - 32 - k) false).foldl bitIn (steps 32 x) = steps (8 * t.length - 32 - k) (steps 32 x) := runBits_none _ _
  rw [e7] at e4
  exact hx (steps_one _ _ (steps_one _ _ e4))
end Go.Proofs.YtnhlfmpfbfjohaaDoor.Crc
