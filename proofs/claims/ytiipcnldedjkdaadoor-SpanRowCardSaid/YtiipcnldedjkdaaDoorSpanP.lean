/-
  Plain mathematics of layer 3, with no program in it: which spans are right, their bytes, the span that bytes begin with, and that these fit each other. Nothing is assumed.
-/
import Derived.Test.YtiipcnldedjkdaaDoorPlain2
namespace Go.Proofs.YtiipcnldedjkdaaDoor.Plain

theorem putText_small (s : List UInt8) : (putText s).length ≤ 33 := by
  by_cases h : 32 < s.length
  · unfold putText; rw [if_pos h]; simp
  · rw [putText_len s (by omega)]; omega

/-- what a text that is got is -/
theorem getText_back (b s : List UInt8) (k : Nat) (h : getText b = (s, k, 0)) : s.length ≤ 32 ∧ k = 1 + s.length ∧ k ≤ b.length ∧ b.take k = putText s := by
  have hb := get_back b (get b).1 (get b).2.1
  unfold getText at h
  split at h
  · rename_i h0
    simp only [Prod.mk.injEq] at h
    exact absurd h.2.2 h0
  · rename_i h0
    split at h
    · simp at h
    · rename_i h32
      split at h
      · simp at h
      · rename_i hl
        obtain ⟨hm, hj, hjl, ht⟩ := hb (by have : (get b).2.2 = 0 := by omega
                                           rw [← this])
        have h1 : sz (get b).1 = 1 := by unfold sz; rw [if_pos (by omega)]
        rw [h1] at hj ht
        generalize (get b).1 = n at *
        generalize (get b).2.1 = j at *
        subst hj
        simp only [Prod.mk.injEq] at h
        obtain ⟨rfl, rfl, -⟩ := h
        have hn : ((b.drop 1).take n).length = n := by rw [List.length_take, List.length_drop]; omega
        refine ⟨by omega, by omega, by omega, ?_⟩
        rw [putText_eq _ (by omega), hn]
        have e1 : enc 1 n = [UInt8.ofNat n] := by simp [enc, Nat.mod_eq_of_lt (show n < 128 by omega)]
        rw [e1] at ht
        rw [List.take_add, ht]
        rfl
theorem getText_err (b : List UInt8) : (getText b).2.2 = 0 ∨ (getText b = ([], 0, 11) ∨ getText b = ([], 0, 12)) := by
  have h := get_err b
  unfold getText
  repeat' split
  · rcases h with h | h | h
    · rename_i h0; exact absurd h h0
    · rw [h]; simp
    · rw [h]; simp
  · exact .inr (.inr rfl)
  · exact .inr (.inl rfl)
  · exact .inl rfl

/-- a span -/
structure Sp where
  t : Int
  i : Int
  p : Int
  s : Int
  d : Int
  sv : List UInt8
  nm : List UInt8
deriving DecidableEq

def inN (lo hi x : Int) : Bool := decide (lo ≤ x) && decide (x ≤ hi)
theorem inN_iff (lo hi x : Int) : inN lo hi x = true ↔ lo ≤ x ∧ x ≤ hi := by simp [inN]
/-- is it right? of its numbers, and how long its texts are -/
def rightN (t i p s d : Int) (a b : Nat) : Bool :=
  ((((inN 1 281474976710656 t && inN 1 281474976710656 i) && ((inN 0 281474976710656 p && inN 0 281474976710656 s) && inN 0 281474976710656 d)) && inN 0 281474976710656 (s + d)) && inN 1 32 (a : Int)) && inN 0 32 (b : Int)
theorem rightN_iff (t i p s d : Int) (a b : Nat) : rightN t i p s d a b = true ↔ (1 ≤ t ∧ t ≤ 281474976710656 ∧ 1 ≤ i ∧ i ≤ 281474976710656 ∧ 0 ≤ p ∧ p ≤ 281474976710656 ∧ 0 ≤ s ∧ s ≤ 281474976710656 ∧ 0 ≤ d ∧ d ≤ 281474976710656 ∧ s + d ≤ 281474976710656 ∧ 1 ≤ a ∧ a ≤ 32 ∧ b ≤ 32) := by
  simp only [rightN, Bool.and_eq_true, inN_iff]
  omega
def Sp.right (x : Sp) : Bool := rightN x.t x.i x.p x.s x.d x.sv.length x.nm.length
theorem Sp.right_iff (x : Sp) : x.right = true ↔ (1 ≤ x.t ∧ x.t ≤ 281474976710656 ∧ 1 ≤ x.i ∧ x.i ≤ 281474976710656 ∧ 0 ≤ x.p ∧ x.p ≤ 281474976710656 ∧ 0 ≤ x.s ∧ x.s ≤ 281474976710656 ∧ 0 ≤ x.d ∧ x.d ≤ 281474976710656 ∧ x.s + x.d ≤ 281474976710656 ∧ 1 ≤ x.sv.length ∧ x.sv.length ≤ 32 ∧ x.nm.length ≤ 32) := rightN_iff _ _ _ _ _ _ _

def Sp.zero : Sp := ⟨0, 0, 0, 0, 0, [], []⟩
/-- its bytes -/
def Sp.bytes (x : Sp) : List UInt8 := put x.t ++ (put x.i ++ (put x.p ++ (put x.s ++ (put x.d ++ (putText x.sv ++ putText x.nm)))))
def Sp.outp (x : Sp) : List UInt8 := if x.right then x.bytes else []

/-- a reader: where it is, and its error's number -/
def stepN (b : List UInt8) (a e : Nat) : Nat × Nat × Nat :=
  if e ≠ 0 then (0, a, e) else if (get (b.drop a)).2.2 ≠ 0 then (0, a, (get (b.drop a)).2.2) else ((get (b.drop a)).1, a + (get (b.drop a)).2.1, 0)
def stepT (b : List UInt8) (a e : Nat) : List UInt8 × Nat × Nat :=
  if e ≠ 0 then ([], a, e) else if (getText (b.drop a)).2.2 ≠ 0 then ([], a, (getText (b.drop a)).2.2) else ((getText (b.drop a)).1, a + (getText (b.drop a)).2.1, 0)

theorem stepN_stuck (b : List UInt8) (a e : Nat) (h : e ≠ 0) : stepN b a e = (0, a, e) := by unfold stepN; rw [if_pos h]
theorem stepT_stuck (b : List UInt8) (a e : Nat) (h : e ≠ 0) : stepT b a e = ([], a, e) := by unfold stepT; rw [if_pos h]
theorem stepN_code (b : List UInt8) (a e : Nat) (h : e = 0 ∨ e = 11 ∨ e = 12) : (stepN b a e).2.2 = 0 ∨ (stepN b a e).2.2 = 11 ∨ (stepN b a e).2.2 = 12 := by
  unfold stepN
  have := code_cases (b.drop a)
  repeat' split
  · exact h
  · exact this
  · exact .inl rfl
theorem stepT_code (b : List UInt8) (a e : Nat) (h : e = 0 ∨ e = 11 ∨ e = 12) : (stepT b a e).2.2 = 0 ∨ (stepT b a e).2.2 = 11 ∨ (stepT b a e).2.2 = 12 := by
  unfold stepT
  have := textCode_cases (b.drop a)
  repeat' split
  · exact h
  · exact this
  · exact .inl rfl
theorem stepN_le (b : List UInt8) (a e : Nat) (h : a ≤ b.length) : (stepN b a e).2.1 ≤ b.length ∧ (stepN b a e).1 ≤ 281474976710656 := by
  unfold stepN
  have := get_small (b.drop a)
  rw [List.length_drop] at this
  repeat' split
  all_goals simp only
  all_goals omega
theorem getText_small (b : List UInt8) : (getText b).1.length ≤ 32 ∧ (getText b).2.1 ≤ b.length := by
  rcases getText_err b with h | h | h
  · have := getText_back b (getText b).1 (getText b).2.1 (by rw [← h])
    omega
  · rw [h]; simp
  · rw [h]; simp
theorem stepT_le (b : List UInt8) (a e : Nat) (h : a ≤ b.length) : (stepT b a e).2.1 ≤ b.length ∧ (stepT b a e).1.length ≤ 32 := by
  unfold stepT
  have := getText_small (b.drop a)
  rw [List.length_drop] at this
  repeat' split
  all_goals simp only [List.length_nil]
  all_goals omega

/-- the first seven parts, whatever they are: a span, where the reader is then, and its error -/
def parts (b : List UInt8) : Sp × Nat × Nat :=
  let x1 := stepN b 0 0
  let x2 := stepN b x1.2.1 x1.2.2
  let x3 := stepN b x2.2.1 x2.2.2
  let x4 := stepN b x3.2.1 x3.2.2
  let x5 := stepN b x4.2.1 x4.2.2
  let x6 := stepT b x5.2.1 x5.2.2
  let x7 := stepT b x6.2.1 x6.2.2
  (⟨x1.1, x2.1, x3.1, x4.1, x5.1, x6.1, x7.1⟩, x7.2.1, x7.2.2)
/-- the span that bytes begin with, how many it takes, the error's number -/
def Sp.rd (b : List UInt8) : Sp × Nat × Nat :=
  if (parts b).2.2 ≠ 0 then (Sp.zero, 0, (parts b).2.2) else if (parts b).1.right then ((parts b).1, (parts b).2.1, 0) else (Sp.zero, 0, 12)

theorem put_nat (n : Int) (h0 : 0 ≤ n) (h : n ≤ 281474976710656) : put n = enc (sz n.toNat) n.toNat := by unfold put; rw [if_pos ⟨h0, h⟩]

/-- bytes that begin with a number's, cut somewhere: it is too short, or read, and what is behind it is cut -/
theorem cutN (b r : List UInt8) (n : Int) (a j : Nat) (h0 : 0 ≤ n) (hn : n ≤ 281474976710656) (h : b.drop a = (put n ++ r).take j) :
    (stepN b a 0 = (0, a, 11) ∧ j < (put n).length) ∨ (stepN b a 0 = (n.toNat, a + (put n).length, 0) ∧ (put n).length ≤ j ∧ b.drop (a + (put n).length) = r.take (j - (put n).length)) := by
  obtain ⟨m, rfl⟩ := Int.eq_ofNat_of_zero_le h0
  have hm : m ≤ 281474976710656 := by omega
  have hp := put_nat m h0 hn
  rw [Int.toNat_natCast] at hp ⊢
  rw [hp, enc_length]
  rw [hp] at h
  by_cases hj : j < sz m
  · left
    rw [List.take_append_of_le_length (by rw [enc_length]; omega)] at h
    refine ⟨?_, hj⟩
    unfold stepN
    rw [h, get_cut m j hj]
    rfl
  · right
    have e : (enc (sz m) m ++ r).take j = enc (sz m) m ++ r.take (j - sz m) := by
      rw [List.take_append, enc_length, List.take_of_length_le (by rw [enc_length]; omega)]
    rw [e] at h
    refine ⟨?_, by omega, ?_⟩
    · unfold stepN
      rw [h, get_put m hm]
      rfl
    · rw [← List.drop_drop, h]
      have := List.drop_left (l₁ := enc (sz m) m) (l₂ := r.take (j - sz m))
      rw [enc_length] at this
      exact this
theorem cutT (b r s : List UInt8) (a j : Nat) (hs : s.length ≤ 32) (h : b.drop a = (putText s ++ r).take j) :
    (stepT b a 0 = ([], a, 11) ∧ j < (putText s).length) ∨ (stepT b a 0 = (s, a + (putText s).length, 0) ∧ (putText s).length ≤ j ∧ b.drop (a + (putText s).length) = r.take (j - (putText s).length)) := by
  have hl := putText_len s hs
  by_cases hj : j < 1 + s.length
  · left
    rw [List.take_append_of_le_length (by omega)] at h
    refine ⟨?_, by omega⟩
    unfold stepT
    rw [h, getText_cut s j hs hj]
    rfl
  · right
    have e : (putText s ++ r).take j = putText s ++ r.take (j - (putText s).length) := by
      rw [List.take_append, List.take_of_length_le (by omega)]
    rw [e] at h
    refine ⟨?_, by omega, ?_⟩
    · unfold stepT
      rw [h, getText_put s _ hs, hl]
      rfl
    · rw [← List.drop_drop, h, List.drop_left]

theorem Sp.parts_cut (x : Sp) (r : List UInt8) (j : Nat) (hx : x.right = true) :
    (j < x.bytes.length → (parts ((x.bytes ++ r).take j)).2.2 = 11) ∧ (x.bytes.length ≤ j → parts ((x.bytes ++ r).take j) = (x, x.bytes.length, 0)) := by
  rw [Sp.right_iff] at hx
  obtain ⟨t, i, p, s, d, sv, nm⟩ := x
  simp only at hx
  simp only [Sp.bytes, List.length_append, List.append_assoc]
  generalize hb : (put t ++ (put i ++ (put p ++ (put s ++ (put d ++ (putText sv ++ (putText nm ++ r))))))).take j = b
  unfold parts
  rcases cutN b (put i ++ (put p ++ (put s ++ (put d ++ (putText sv ++ (putText nm ++ r)))))) t 0 j (by omega) (by omega) (by rw [List.drop_zero, hb]) with ⟨h1, l1⟩ | ⟨h1, l1, h2⟩
  · simp only [h1, stepN_stuck _ _ 11 (by omega), stepT_stuck _ _ 11 (by omega)]
    exact ⟨fun _ => trivial, fun h => absurd h (by omega)⟩
  simp only [h1]
  rcases cutN b _ i _ _ (by omega) (by omega) h2 with ⟨h2, l2⟩ | ⟨h2, l2, h3⟩
  · simp only [h2, stepN_stuck _ _ 11 (by omega), stepT_stuck _ _ 11 (by omega)]
    exact ⟨fun _ => trivial, fun h => absurd h (by omega)⟩
  simp only [h2]
  rcases cutN b _ p _ _ (by omega) (by omega) h3 with ⟨h3, l3⟩ | ⟨h3, l3, h4⟩
  · simp only [h3, stepN_stuck _ _ 11 (by omega), stepT_stuck _ _ 11 (by omega)]
    exact ⟨fun _ => trivial, fun h => absurd h (by omega)⟩
  simp only [h3]
  rcases cutN b _ s _ _ (by omega) (by omega) h4 with ⟨h4, l4⟩ | ⟨h4, l4, h5⟩
  · simp only [h4, stepN_stuck _ _ 11 (by omega), stepT_stuck _ _ 11 (by omega)]
    exact ⟨fun _ => trivial, fun h => absurd h (by omega)⟩
  simp only [h4]
  rcases cutN b _ d _ _ (by omega) (by omega) h5 with ⟨h5, l5⟩ | ⟨h5, l5, h6⟩
  · simp only [h5, stepT_stuck _ _ 11 (by omega)]
    exact ⟨fun _ => trivial, fun h => absurd h (by omega)⟩
  simp only [h5]
  rcases cutT b _ sv _ _ (by omega) h6 with ⟨h6, l6⟩ | ⟨h6, l6, h7⟩
  · simp only [h6, stepT_stuck _ _ 11 (by omega)]
    exact ⟨fun _ => trivial, fun h => absurd h (by omega)⟩
  simp only [h6]
  rcases cutT b _ nm _ _ (by omega) h7 with ⟨h7, l7⟩ | ⟨h7, l7, h8⟩
  · simp only [h7]
    exact ⟨fun _ => trivial, fun h => absurd h (by omega)⟩
  simp only [h7]
  refine ⟨fun h => by omega, fun _ => ?_⟩
  simp only [Prod.mk.injEq, Sp.mk.injEq, and_true]
  omega

/-- P3.2: a right one is got of its bytes, whatever is behind them. -/
theorem Sp.get_bytes (x : Sp) (r : List UInt8) (hx : x.right = true) : Sp.rd (x.bytes ++ r) = (x, x.bytes.length, 0) := by
  have := (Sp.parts_cut x r (x.bytes ++ r).length hx).2 (by rw [List.length_append]; omega)
  rw [List.take_length] at this
  unfold Sp.rd
  rw [this]
  simp [hx]
/-- P3.3: bytes that are cut are too short. -/
theorem Sp.get_cut (x : Sp) (j : Nat) (hx : x.right = true) (hj : j < x.bytes.length) : Sp.rd (x.bytes.take j) = (Sp.zero, 0, 11) := by
  have := (Sp.parts_cut x [] j hx).1 hj
  rw [List.append_nil] at this
  unfold Sp.rd
  rw [this]
  rfl

theorem backN (b : List UInt8) (a e : Nat) (h : (stepN b a e).2.2 = 0) : e = 0 ∧ ∃ n : Nat, stepN b a e = (n, a + (put n).length, 0) ∧ n ≤ 281474976710656 ∧ b.drop a = put n ++ b.drop (a + (put n).length) := by
  have he : e = 0 := by
    rcases Nat.eq_zero_or_pos e with h0 | h0
    · exact h0
    · rw [stepN_stuck b a e (by omega)] at h; simpa using h
  subst he
  refine ⟨rfl, ?_⟩
  unfold stepN at h ⊢
  rw [if_neg (by omega)] at h ⊢
  split at h
  · rename_i h0; exact absurd h h0
  · rename_i h0
    rw [if_neg h0]
    have h0' : (get (b.drop a)).2.2 = 0 := by omega
    obtain ⟨hm, hj, hl, ht⟩ := get_back (b.drop a) (get (b.drop a)).1 (get (b.drop a)).2.1 (by rw [← h0'])
    generalize (get (b.drop a)).1 = n at *
    generalize (get (b.drop a)).2.1 = k at *
    have hp : put (n : Int) = enc (sz n) n := by rw [put_nat n (by omega) (by omega)]; rfl
    have hpl : (put (n : Int)).length = k := by rw [hp, enc_length]; omega
    refine ⟨n, by rw [hpl], hm, ?_⟩
    rw [hpl, hp, ← ht, ← List.drop_drop, List.take_append_drop]
theorem backT (b : List UInt8) (a e : Nat) (h : (stepT b a e).2.2 = 0) : e = 0 ∧ ∃ s : List UInt8, stepT b a e = (s, a + (putText s).length, 0) ∧ s.length ≤ 32 ∧ b.drop a = putText s ++ b.drop (a + (putText s).length) := by
  have he : e = 0 := by
    rcases Nat.eq_zero_or_pos e with h0 | h0
    · exact h0
    · rw [stepT_stuck b a e (by omega)] at h; simpa using h
  subst he
  refine ⟨rfl, ?_⟩
  unfold stepT at h ⊢
  rw [if_neg (by omega)] at h ⊢
  split at h
  · rename_i h0; exact absurd h h0
  · rename_i h0
    rw [if_neg h0]
    have h0' : (getText (b.drop a)).2.2 = 0 := by omega
    obtain ⟨hm, hj, hl, ht⟩ := getText_back (b.drop a) (getText (b.drop a)).1 (getText (b.drop a)).2.1 (by rw [← h0'])
    generalize (getText (b.drop a)).1 = s at *
    generalize (getText (b.drop a)).2.1 = k at *
    have hpl : (putText s).length = k := by rw [putText_len s hm]; omega
    refine ⟨s, by rw [hpl], hm, ?_⟩
    rw [hpl, ← ht, ← List.drop_drop, List.take_append_drop]

theorem parts_back (b : List UInt8) (h : (parts b).2.2 = 0) : b = (parts b).1.bytes ++ b.drop (parts b).2.1 ∧ (parts b).2.1 = (parts b).1.bytes.length := by
  unfold parts at h ⊢
  simp only at h ⊢
  obtain ⟨h7, nm, e7, -, d7⟩ := backT _ _ _ h
  obtain ⟨h6, sv, e6, -, d6⟩ := backT _ _ _ h7
  obtain ⟨h5, d, e5, -, d5⟩ := backN _ _ _ h6
  obtain ⟨h4, s, e4, -, d4⟩ := backN _ _ _ h5
  obtain ⟨h3, p, e3, -, d3⟩ := backN _ _ _ h4
  obtain ⟨h2, i, e2, -, d2⟩ := backN _ _ _ h3
  obtain ⟨-, t, e1, -, d1⟩ := backN _ _ _ h2
  rw [e7, e6, e5, e4, e3, e2, e1]
  simp only
  rw [e6] at d7
  rw [e5] at d6 d7
  rw [e4] at d5 d6 d7
  rw [e3] at d4 d5 d6 d7
  rw [e2] at d3 d4 d5 d6 d7
  rw [e1] at d2 d3 d4 d5 d6 d7
  simp only [List.drop_zero] at d1 d2 d3 d4 d5 d6 d7
  refine ⟨?_, ?_⟩
  · conv => lhs; rw [d1, d2, d3, d4, d5, d6, d7]
    simp only [Sp.bytes, List.append_assoc]
  · simp only [Sp.bytes, List.length_append]; omega

theorem parts_code (b : List UInt8) : (parts b).2.2 = 0 ∨ (parts b).2.2 = 11 ∨ (parts b).2.2 = 12 := by
  unfold parts
  simp only
  exact stepT_code _ _ _ (stepT_code _ _ _ (stepN_code _ _ _ (stepN_code _ _ _ (stepN_code _ _ _ (stepN_code _ _ _ (stepN_code _ _ _ (.inl rfl)))))))

/-- P3.2: what is got of any bytes is right, and has them; else there is nothing but an error. -/
theorem Sp.get_cases (b : List UInt8) : (Sp.rd b = (Sp.zero, 0, 11) ∨ Sp.rd b = (Sp.zero, 0, 12)) ∨ ∃ x : Sp, Sp.rd b = (x, x.bytes.length, 0) ∧ x.right = true ∧ x.bytes.length ≤ b.length ∧ b.take x.bytes.length = x.bytes := by
  have hc := parts_code b
  have hb := parts_back b
  unfold Sp.rd
  split
  · rename_i h0
    rcases hc with h | h | h
    · exact absurd h h0
    · rw [h]; exact .inl (.inl rfl)
    · rw [h]; exact .inl (.inr rfl)
  · rename_i h0
    obtain ⟨h1, h2⟩ := hb (by omega)
    split
    · rename_i hr
      generalize (parts b).1 = x at *
      rw [h2] at h1 ⊢
      have hl : x.bytes.length ≤ b.length := by
        have := congrArg List.length h1
        rw [List.length_append] at this
        omega
      refine .inr ⟨x, rfl, hr, hl, ?_⟩
      conv => lhs; rw [h1]
      rw [List.take_left]
    · exact .inl (.inr rfl)

theorem put_pos (n : Int) (h0 : 0 ≤ n) (h : n ≤ 281474976710656) : 1 ≤ (put n).length := by rw [put_nat n h0 h, enc_length]; exact sz_pos _
theorem put_le (n : Int) : (put n).length ≤ 7 := by rw [put_length]; exact size_le n
theorem Sp.bytes_len (x : Sp) (hx : x.right = true) : 8 ≤ x.bytes.length := by
  rw [Sp.right_iff] at hx
  have h1 := put_pos x.t (by omega) (by omega)
  have h2 := put_pos x.i (by omega) (by omega)
  have h3 := put_pos x.p (by omega) (by omega)
  have h4 := put_pos x.s (by omega) (by omega)
  have h5 := put_pos x.d (by omega) (by omega)
  have h6 := putText_len x.sv (by omega)
  have h7 := putText_len x.nm (by omega)
  simp only [Sp.bytes, List.length_append]
  omega
theorem Sp.bytes_max (x : Sp) : x.bytes.length ≤ 101 := by
  have h1 := put_le x.t
  have h2 := put_le x.i
  have h3 := put_le x.p
  have h4 := put_le x.s
  have h5 := put_le x.d
  have h6 := putText_small x.sv
  have h7 := putText_small x.nm
  simp only [Sp.bytes, List.length_append]
  omega
theorem Sp.put_max (x : Sp) : x.outp.length ≤ 101 := by
  unfold Sp.outp; split
  · exact x.bytes_max
  · simp
theorem Sp.put_pos_iff (x : Sp) : 0 < x.outp.length ↔ x.right = true := by
  unfold Sp.outp; split
  · rename_i h; have := x.bytes_len h; simp [h]; omega
  · rename_i h; simp [h]
/-- unlike right ones: none's bytes begin another one's -/
theorem Sp.bytes_begin (x y : Sp) (n : Nat) (hx : x.right = true) (hy : y.right = true) (hn : n = min x.bytes.length y.bytes.length) : x.bytes.take n = y.bytes.take n ↔ x = y := by
  refine ⟨fun h => ?_, fun h => by rw [h]⟩
  rcases Nat.le_total x.bytes.length y.bytes.length with hl | hl
  · have e : n = x.bytes.length := by omega
    subst e
    rw [List.take_length] at h
    have h1 := Sp.get_bytes x (y.bytes.drop x.bytes.length) hx
    rw [h, List.length_take, Nat.min_eq_left hl, List.take_append_drop] at h1
    have h2 := Sp.get_bytes y [] hy
    rw [List.append_nil, h1] at h2
    simp only [Prod.mk.injEq] at h2
    exact h2.1
  · have e : n = y.bytes.length := by omega
    subst e
    rw [List.take_length] at h
    have h1 := Sp.get_bytes y (x.bytes.drop y.bytes.length) hy
    rw [← h, List.length_take, Nat.min_eq_left hl, List.take_append_drop] at h1
    have h2 := Sp.get_bytes x [] hx
    rw [List.append_nil, h1] at h2
    simp only [Prod.mk.injEq] at h2
    exact h2.1.symm
end Go.Proofs.YtiipcnldedjkdaaDoor.Plain
