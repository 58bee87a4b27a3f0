/-
  Plain mathematics of layer 8, with no program in it: a sector's bytes, what any bytes are a sector of, and that these fit each other; that none is another one's; and that a burst is told. Nothing is assumed.
-/
import Derived.Test.YtgicjdlpkphfnaaCrcC

namespace Go.Proofs.Ytgicjdlpkphfnaa.Ce

/-- a number, and a place -/
def right (q p : Int) : Bool := ((decide (1 ≤ q) && decide (q ≤ 2147483648)) && decide (0 ≤ p)) && decide (p ≤ 255)
theorem right_iff (q p : Int) : right q p = true ↔ 1 ≤ q ∧ q ≤ 2147483648 ∧ 0 ≤ p ∧ p ≤ 255 := by
  simp only [right, Bool.and_eq_true, decide_eq_true_eq, and_assoc]
/-- what goes into the sum ahead -/
def hd (q p : Nat) : List UInt8 := Crc.sumBytes (BitVec.ofNat 32 q) ++ [UInt8.ofNat p]
/-- the first sixty bytes -/
def body (bs : List UInt8) : List UInt8 := UInt8.ofNat bs.length :: (bs ++ List.replicate (59 - bs.length) 0)
def sum (q p : Nat) (x : List UInt8) : BitVec 32 := Crc.more (Crc.of (hd q p)) x
def made (q p : Nat) (bs : List UInt8) : List UInt8 := body bs ++ Crc.sumBytes (sum q p (body bs))
def put (q p : Int) (bs : List UInt8) : List UInt8 := if right q p = true ∧ bs.length ≤ 59 then made q.toNat p.toNat bs else []
/-- what the first byte tells of -/
def nb (s : List UInt8) : List UInt8 := (s.drop 1).take (s.headD 0).toNat
def ok (q p : Int) (s : List UInt8) : Bool := ((right q p && decide (s.length = 64)) && decide ((s.headD 0).toNat ≤ 59)) && decide (made q.toNat p.toNat (nb s) = s)
def got (q p : Int) (s : List UInt8) : List UInt8 := if ok q p s = true then nb s else []

theorem hd_length (q p : Nat) : (hd q p).length = 5 := rfl
theorem body_length (bs : List UInt8) (h : bs.length ≤ 59) : (body bs).length = 60 := by simp [body]; omega
theorem made_length (q p : Nat) (bs : List UInt8) (h : bs.length ≤ 59) : (made q p bs).length = 64 := by simp [made, body_length bs h, Crc.sumBytes_length]
theorem put_length (q p : Int) (bs : List UInt8) : (put q p bs).length = if right q p = true ∧ bs.length ≤ 59 then 64 else 0 := by
  unfold put
  split
  · rename_i h; exact made_length _ _ _ h.2
  · rfl
theorem put_yes {q p : Int} {bs : List UInt8} (h : right q p = true) (hb : bs.length ≤ 59) : put q p bs = made q.toNat p.toNat bs := by unfold put; rw [if_pos ⟨h, hb⟩]
theorem put_no {q p : Int} {bs : List UInt8} (h : ¬ (right q p = true ∧ bs.length ≤ 59)) : put q p bs = [] := by unfold put; rw [if_neg h]
theorem first_made (q p : Nat) (bs : List UInt8) (h : bs.length ≤ 59) : ((made q p bs).headD 0).toNat = bs.length := by
  show (UInt8.ofNat bs.length).toNat = _
  rw [UInt8.toNat_ofNat']; omega
theorem nb_made (q p : Nat) (bs : List UInt8) (h : bs.length ≤ 59) : nb (made q p bs) = bs := by
  unfold nb
  rw [first_made q p bs h]
  show (((bs ++ List.replicate (59 - bs.length) 0) ++ Crc.sumBytes _)).take bs.length = bs
  rw [List.append_assoc, List.take_left]
theorem nb_length {s : List UInt8} (hs : s.length = 64) (h : (s.headD 0).toNat ≤ 59) : (nb s).length = (s.headD 0).toNat := by
  unfold nb
  rw [List.length_take, List.length_drop]; omega
theorem ok_made {q p : Int} {bs : List UInt8} (h : right q p = true) (hb : bs.length ≤ 59) : ok q p (made q.toNat p.toNat bs) = true := by
  unfold ok
  rw [h, made_length _ _ _ hb, first_made _ _ _ hb, nb_made _ _ _ hb]
  simp [hb]
theorem ok_iff {q p : Int} {s : List UInt8} : ok q p s = true ↔ right q p = true ∧ s.length = 64 ∧ (s.headD 0).toNat ≤ 59 ∧ made q.toNat p.toNat (nb s) = s := by
  simp only [ok, Bool.and_eq_true, decide_eq_true_eq, and_assoc]
/-- P8.2: what is got of any bytes has them -/
theorem ok_put {q p : Int} {s : List UInt8} (h : ok q p s = true) : put q p (nb s) = s := by
  obtain ⟨h1, h2, h3, h4⟩ := ok_iff.1 h
  rw [put_yes h1 (by rw [nb_length h2 h3]; exact h3)]
  exact h4
/-- P8.2: what was put is got -/
theorem got_put {q p : Int} {bs : List UInt8} (h : right q p = true) (hb : bs.length ≤ 59) : ok q p (put q p bs) = true ∧ nb (put q p bs) = bs := by
  rw [put_yes h hb]
  exact ⟨ok_made h hb, nb_made _ _ _ hb⟩
theorem got_length {q p : Int} {s : List UInt8} : (got q p s).length ≤ 59 := by
  unfold got
  split
  · rename_i h
    obtain ⟨h1, h2, h3, h4⟩ := ok_iff.1 h
    rw [nb_length h2 h3]; exact h3
  · simp

theorem sumBytes_inj {a b : BitVec 32} (h : Crc.sumBytes a = Crc.sumBytes b) : a = b := by
  have h1 := Crc.bits_sumBytes a
  have h2 := Crc.bits_sumBytes b
  rw [h, h2] at h1
  apply BitVec.eq_of_getLsbD_eq
  intro i hi
  have e1 := Crc.bitsN_at 32 a i hi
  have e2 := Crc.bitsN_at 32 b i hi
  rw [h1] at e2
  exact Option.some.inj (e1.symm.trans e2)
theorem not_inj {a b : BitVec 32} (h : ~~~ a = ~~~ b) : a = b := by
  have := congrArg (~~~ ·) h
  simpa using this
theorem of_seq {a b : BitVec 32} (h : Crc.of (Crc.sumBytes a) = Crc.of (Crc.sumBytes b)) : a = b := by
  have h1 : Crc.run (~~~ 0#32) (Crc.sumBytes a) = Crc.run (~~~ 0#32) (Crc.sumBytes b) := not_inj h
  rw [Crc.run_bits, Crc.run_bits, Crc.bits_sumBytes, Crc.bits_sumBytes, Crc.bits_steps 32 a _ (Crc.shift32 a), Crc.bits_steps 32 b _ (Crc.shift32 b)] at h1
  have h2 := Crc.steps_inj 32 _ _ h1
  have h3 := congrArg (fun x => ~~~ 0#32 ^^^ x) h2
  simpa [← BitVec.xor_assoc] using h3
theorem more_place {s : BitVec 32} {a b : UInt8} (h : Crc.more s [a] = Crc.more s [b]) : a = b := by
  have h1 : Crc.run (~~~ s) [a] = Crc.run (~~~ s) [b] := not_inj h
  have h2 := Crc.steps_inj 8 _ _ (show Crc.steps 8 (~~~ s ^^^ Crc.wide a) = Crc.steps 8 (~~~ s ^^^ Crc.wide b) from h1)
  have h3 := congrArg (fun x => ~~~ s ^^^ x) h2
  have h4 : Crc.wide a = Crc.wide b := by simpa [← BitVec.xor_assoc] using h3
  have h5 := congrArg BitVec.toNat h4
  have ha := a.toNat_lt
  have hb := b.toNat_lt
  unfold Crc.wide at h5
  rw [BitVec.toNat_ofNat, BitVec.toNat_ofNat, Nat.mod_eq_of_lt (by omega), Nat.mod_eq_of_lt (by omega)] at h5
  exact UInt8.toNat_inj.1 h5
theorem of_hd (q p : Nat) : Crc.of (hd q p) = Crc.more (Crc.of (Crc.sumBytes (BitVec.ofNat 32 q))) [UInt8.ofNat p] := Crc.more_append _ _ _
theorem hd_seq {q n p : Nat} (hq : q < 4294967296) (hn : n < 4294967296) (h : Crc.of (hd q p) = Crc.of (hd n p)) : q = n := by
  rw [of_hd, of_hd] at h
  have h1 := congrArg BitVec.toNat (of_seq (Crc.more_inj _ _ _ h))
  rw [BitVec.toNat_ofNat, BitVec.toNat_ofNat, Nat.mod_eq_of_lt hq, Nat.mod_eq_of_lt hn] at h1
  exact h1
theorem hd_place {q p k : Nat} (hp : p < 256) (hk : k < 256) (h : Crc.of (hd q p) = Crc.of (hd q k)) : p = k := by
  rw [of_hd, of_hd] at h
  have h1 := congrArg UInt8.toNat (more_place h)
  rw [UInt8.toNat_ofNat', UInt8.toNat_ofNat'] at h1
  omega
theorem made_same {q p n k : Nat} {bs : List UInt8} (h : made q p bs = made n k bs) : Crc.of (hd q p) = Crc.of (hd n k) :=
  Crc.more_inj _ _ _ (sumBytes_inj (List.append_cancel_left h))
/-- P8.3 -/
theorem other_seq {q n p : Int} {bs : List UInt8} (h : right q p = true) (hn : right n p = true) (hb : bs.length ≤ 59) : ok n p (put q p bs) = decide (q = n) := by
  rw [put_yes h hb, Bool.eq_iff_iff, ok_iff, decide_eq_true_eq, nb_made _ _ _ hb]
  rw [right_iff] at h
  have hn' := (right_iff _ _).1 hn
  constructor
  · rintro ⟨-, -, -, h4⟩
    have := hd_seq (by omega) (by omega) (made_same h4)
    omega
  · rintro rfl
    exact ⟨hn, made_length _ _ _ hb, by rw [first_made _ _ _ hb]; exact hb, rfl⟩
theorem other_place {q p k : Int} {bs : List UInt8} (h : right q p = true) (hk : right q k = true) (hb : bs.length ≤ 59) : ok q k (put q p bs) = decide (p = k) := by
  rw [put_yes h hb, Bool.eq_iff_iff, ok_iff, decide_eq_true_eq, nb_made _ _ _ hb]
  rw [right_iff] at h
  have hk' := (right_iff _ _).1 hk
  constructor
  · rintro ⟨-, -, -, h4⟩
    have := hd_place (by omega) (by omega) (made_same h4)
    omega
  · rintro rfl
    exact ⟨hk, made_length _ _ _ hb, by rw [first_made _ _ _ hb]; exact hb, rfl⟩
theorem hd_made (q p : Nat) (bs : List UInt8) : hd q p ++ made q p bs = Crc.sealed (hd q p ++ body bs) := by
  unfold made Crc.sealed sum Crc.of
  rw [Crc.more_append, List.append_assoc]

theorem turned_behind {s X : List UInt8} {k x i : Nat} (h : Turned s X k x i) (a : List UInt8) : Turned (a ++ s) (a ++ X) (8 * a.length + k) x i := by
  refine ⟨by rw [List.length_append, List.length_append, h.1], fun h0 => by rw [h.2.1 h0], fun j h1 h2 => ?_⟩
  by_cases hj : j / 8 < a.length
  · rw [List.getElem_append_left hj, List.getElem_append_left hj]
    have : decide (8 * a.length + k ≤ j ∧ j < 8 * a.length + k + i) = false := by simp; omega
    rw [this]; simp
  · rw [List.getElem_append_right (by omega), List.getElem_append_right (by omega)]
    have e : j / 8 - a.length = (j - 8 * a.length) / 8 := by omega
    have e2 : j % 8 = (j - 8 * a.length) % 8 := by omega
    rw [List.length_append] at h1 h2
    have h3 := h.2.2 (j - 8 * a.length) (by omega) (by omega)
    simp only [e, e2]
    rw [h3]
    congr 2
    · simp only [decide_eq_decide]; omega
    · congr 1; omega
/-- P8.4 -/
theorem burst {q p : Int} {bs X : List UInt8} {k x : Nat} (h : right q p = true) (hb : bs.length ≤ 59) (ht : Turned (put q p bs) X k x 32) (hk : k + 32 ≤ 512) (hx : x < 4294967296) (h0 : x ≠ 0) : ok q p X = false := by
  cases ho : ok q p X with
  | false => rfl
  | true =>
    exfalso
    obtain ⟨-, h2, h3, h4⟩ := ok_iff.1 ho
    rw [put_yes h hb] at ht
    have h5 := turned_behind ht (hd q.toNat p.toNat)
    rw [hd_made] at h5
    refine h5.told ?_ hx h0 ?_
    · rw [List.length_append, hd_length, body_length _ hb]; omega
    · rw [← h4, hd_made]
      exact (Crc.opens_sealed _).1
theorem nb_zero : nb (List.replicate 64 0) = [] := by decide
theorem ok_len {q p : Int} {s : List UInt8} (h : s.length ≠ 64) : ok q p s = false := by
  cases ho : ok q p s with
  | false => rfl
  | true => exact absurd (ok_iff.1 ho).2.1 h
end Go.Proofs.Ytgicjdlpkphfnaa.Ce
