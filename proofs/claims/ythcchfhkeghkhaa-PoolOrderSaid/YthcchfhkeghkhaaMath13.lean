/-
  Plain mathematics of layer 13, with no program in it: records, their bytes, the record of bytes, and that these fit each other. Nothing is assumed.
-/
import Derived.Test.YthcchfhkeghkhaaMath5
import Derived.Test.YthcchfhkeghkhaaMath12

namespace Go.Proofs.Ythcchfhkeghkhaa.Rc
open Plain

/-- a record -/
structure R where
  kind : Int
  id : Int
  cls : Int
  tick : Int
  pin : Bool
  sp : List Sp
theorem R.ext' {a b : R} (h0 : a.kind = b.kind) (h1 : a.id = b.id) (h2 : a.cls = b.cls) (h3 : a.tick = b.tick) (h4 : a.pin = b.pin) (h5 : a.sp = b.sp) : a = b := by
  cases a; cases b; simp_all
def zero : R := ⟨0, 0, 0, 0, false, []⟩
/-- how the class and the pin are told -/
def cp (r : R) : Nat := r.cls.toNat + if r.pin then 8 else 0
/-- the bytes of one that may be so, but perhaps for how many they are -/
def bytes (r : R) : List UInt8 :=
  if r.kind = 1 then [1, UInt8.ofNat (cp r)] ++ put r.tick ++ tput r.sp
  else [UInt8.ofNat r.kind.toNat] ++ put r.id ++ (if r.kind = 4 then [UInt8.ofNat r.cls.toNat] else [])
/-- whether it may be so, but for how many bytes it has -/
def may (r : R) : Bool :=
  decide (1 ≤ r.id ∧ r.id ≤ 281474976710656) && (decide (0 ≤ r.cls ∧ r.cls ≤ 7) &&
    (if r.kind = 1 then decide (0 ≤ r.tick ∧ r.tick ≤ 281474976710656) && (isT r.sp && decide ((r.sp.headD Sp.zero).t = r.id))
     else decide (2 ≤ r.kind ∧ r.kind ≤ 5) && (decide (r.kind = 4 ∨ r.cls = 0) && (decide (r.tick = 0) && (!r.pin && decide (r.sp = []))))))
def right (r : R) : Bool := may r && (decide (r.kind ≠ 1) || decide ((bytes r).length ≤ 3600))
def rput (r : R) : List UInt8 := if right r then bytes r else []
def cost (l : List Sp) : Nat := if (tput l).length = 0 then 0 else 16 + (tput l).length

theorem may_iff (r : R) : may r = true ↔ (1 ≤ r.id ∧ r.id ≤ 281474976710656) ∧ (0 ≤ r.cls ∧ r.cls ≤ 7) ∧
    (r.kind = 1 ∧ (0 ≤ r.tick ∧ r.tick ≤ 281474976710656) ∧ isT r.sp = true ∧ (r.sp.headD Sp.zero).t = r.id ∨
     r.kind ≠ 1 ∧ (2 ≤ r.kind ∧ r.kind ≤ 5) ∧ (r.kind = 4 ∨ r.cls = 0) ∧ r.tick = 0 ∧ r.pin = false ∧ r.sp = []) := by
  unfold may
  by_cases h : r.kind = 1 <;> simp [h]
theorem right_iff (r : R) : right r = true ↔ may r = true ∧ (r.kind = 1 → (bytes r).length ≤ 3600) := by
  unfold right
  rw [Bool.and_eq_true, Bool.or_eq_true, decide_eq_true_eq, decide_eq_true_eq]
  constructor
  · rintro ⟨h1, h2⟩; exact ⟨h1, fun h => h2.resolve_left (by simp [h])⟩
  · rintro ⟨h1, h2⟩; exact ⟨h1, by by_cases h : r.kind = 1; exact .inr (h2 h); exact .inl h⟩
theorem put_num (n : Int) (h : 0 ≤ n ∧ n ≤ 281474976710656) (rest : List UInt8) : get (put n ++ rest) = (n.toNat, (put n).length, 0) := by
  obtain ⟨m, rfl⟩ := Int.eq_ofNat_of_zero_le h.1
  have hm : m ≤ 281474976710656 := by omega
  have := get_put m hm rest
  rw [put_length]
  unfold put size
  rw [if_pos (by omega), if_pos (by omega)]
  simpa using this
theorem put_pos (n : Int) (h : 0 ≤ n ∧ n ≤ 281474976710656) : 1 ≤ (put n).length ∧ (put n).length ≤ 7 := by
  rw [put_length]
  refine ⟨?_, size_le n⟩
  unfold size
  rw [if_pos h]
  exact sz_pos _
theorem cp_small (r : R) (h : 0 ≤ r.cls ∧ r.cls ≤ 7) : cp r < 16 ∧ cp r % 8 = r.cls.toNat ∧ (8 ≤ cp r ↔ r.pin = true) := by
  unfold cp
  cases r.pin <;> simp <;> omega
theorem u8_small (n : Nat) (h : n < 256) : (UInt8.ofNat n).toNat = n := by simp only [UInt8.toNat_ofNat']; omega
/-- a Sealed one's bytes -/
theorem bytes_seal (r : R) (h : r.kind = 1) : bytes r = 1 :: UInt8.ofNat (cp r) :: (put r.tick ++ tput r.sp) := by
  unfold bytes; rw [if_pos h]; simp
theorem bytes_other (r : R) (h : r.kind ≠ 1) : bytes r = UInt8.ofNat r.kind.toNat :: (put r.id ++ (if r.kind = 4 then [UInt8.ofNat r.cls.toNat] else [])) := by
  unfold bytes; rw [if_neg h]; simp
theorem bytes_pos (r : R) : 0 < (bytes r).length := by
  by_cases h : r.kind = 1
  · rw [bytes_seal r h]; simp
  · rw [bytes_other r h]; simp
theorem bytes_small (r : R) (h : may r = true) (hk : r.kind ≠ 1) : 2 ≤ (bytes r).length ∧ (bytes r).length ≤ 9 := by
  obtain ⟨h1, h2, h3⟩ := (may_iff r).1 h
  have := put_pos r.id (by omega)
  rw [bytes_other r hk]
  split <;> simp <;> omega
theorem rput_pos (r : R) : 0 < (rput r).length ↔ right r = true := by
  unfold rput
  split
  · rename_i h; simp [h, bytes_pos]
  · rename_i h; simp [h]
theorem rput_yes {r : R} (h : right r = true) : rput r = bytes r := by unfold rput; rw [if_pos h]
theorem rput_no {r : R} (h : right r = false) : rput r = [] := by unfold rput; rw [if_neg (by simp [h])]
theorem bytes_max (r : R) : (bytes r).length ≤ 6600 := by
  have h1 := tput_len r.sp
  have h2 := Plain.put_length r.tick
  have h3 := Plain.put_length r.id
  have h4 := size_le r.tick
  have h5 := size_le r.id
  by_cases h : r.kind = 1
  · rw [bytes_seal r h]; simp; omega
  · rw [bytes_other r h]; split <;> simp <;> omega
theorem rput_max (r : R) : (rput r).length ≤ 6600 := by
  unfold rput
  split
  · exact bytes_max r
  · simp

/-- what any bytes say, whether they may be so or not -/
def parse (b : List UInt8) : R :=
  if (b.getD 0 0).toNat = 1 then
    (if 2 < b.length then
      ⟨1, (((tget (b.drop (2 + (get (b.drop 2)).2.1))).1.headD Sp.zero).t), ((b.getD 1 0).toNat % 8 : Nat), ((get (b.drop 2)).1 : Nat), decide (8 ≤ (b.getD 1 0).toNat), (tget (b.drop (2 + (get (b.drop 2)).2.1))).1⟩
     else ⟨1, 0, 0, 0, false, []⟩)
  else ⟨((b.getD 0 0).toNat : Nat), ((get (b.drop 1)).1 : Nat), (if (b.getD 0 0).toNat = 4 ∧ 1 + (get (b.drop 1)).2.1 < b.length then ((b.getD (1 + (get (b.drop 1)).2.1) 0).toNat : Nat) else (0 : Nat)), 0, false, []⟩
/-- the record of any bytes, and what is wrong -/
def rget (b : List UInt8) : R × Nat := if b = [] then (zero, 11) else if rput (parse b) = b then (parse b, 0) else (zero, 12)

theorem parse_seal (r : R) (h : may r = true) (hk : r.kind = 1) : parse (bytes r) = r := by
  obtain ⟨h1, h2, ⟨_, h3, h4, h5⟩ | ⟨h3, _⟩⟩ := (may_iff r).1 h
  · obtain ⟨c1, c2, c3⟩ := cp_small r h2
    have hb := bytes_seal r hk
    have hp := put_pos r.tick h3
    have ht := (tput_pos r.sp).2 h4
    have e0 : ((bytes r).getD 0 0).toNat = 1 := by rw [hb]; rfl
    have e1 : ((bytes r).getD 1 0).toNat = cp r := by rw [hb]; simp only [List.getD_cons_succ, List.getD_cons_zero]; exact u8_small _ (by omega)
    have e2 : (bytes r).drop 2 = put r.tick ++ tput r.sp := by rw [hb]; rfl
    have e3 : get ((bytes r).drop 2) = (r.tick.toNat, (put r.tick).length, 0) := by rw [e2]; exact put_num _ h3 _
    have e4 : (bytes r).drop (2 + (put r.tick).length) = tput r.sp := by
      rw [← List.drop_drop, e2, List.drop_left]
    have e5 : 2 < (bytes r).length := by rw [hb]; simp; omega
    unfold parse
    rw [e0, if_pos rfl, if_pos e5, e1, e3]
    simp only
    rw [e4, tget_tput h4]
    refine R.ext' hk.symm h5 ?_ ?_ ?_ rfl
    · simp only; rw [c2]; omega
    · simp only; omega
    · simp only
      rw [Bool.eq_iff_iff, decide_eq_true_eq]
      exact c3
  · exact absurd hk h3
theorem parse_other (r : R) (h : may r = true) (hk : r.kind ≠ 1) : parse (bytes r) = r := by
  obtain ⟨h1, h2, ⟨h3, _⟩ | ⟨_, h3, h4, h5, h6, h7⟩⟩ := (may_iff r).1 h
  · exact absurd h3 hk
  · have hb := bytes_other r hk
    have hp := put_pos r.id (by omega)
    have hkn : r.kind.toNat < 256 := by omega
    have e0 : ((bytes r).getD 0 0).toNat = r.kind.toNat := by rw [hb]; simp only [List.getD_cons_zero]; exact u8_small _ hkn
    have e1 : (bytes r).drop 1 = put r.id ++ (if r.kind = 4 then [UInt8.ofNat r.cls.toNat] else []) := by rw [hb]; rfl
    have e2 : get ((bytes r).drop 1) = (r.id.toNat, (put r.id).length, 0) := by rw [e1]; exact put_num _ (by omega) _
    unfold parse
    rw [e0, if_neg (by omega), e2]
    simp only
    by_cases h4k : r.kind = 4
    · have e3 : (bytes r).length = 2 + (put r.id).length := by rw [hb, if_pos h4k]; simp; omega
      have e4 : (bytes r).getD (1 + (put r.id).length) 0 = UInt8.ofNat r.cls.toNat := by
        have : (bytes r).drop (1 + (put r.id).length) = [UInt8.ofNat r.cls.toNat] := by rw [← List.drop_drop, e1, List.drop_left, if_pos h4k]
        have h := congrArg (fun l => l[0]?) this
        simp only [List.getElem?_drop, Nat.add_zero] at h
        rw [List.getD_eq_getElem?_getD, h]
        rfl
      rw [if_pos ⟨by omega, by omega⟩, e4, u8_small _ (by omega)]
      refine R.ext' ?_ ?_ ?_ h5.symm h6.symm h7.symm
      · simp only; omega
      · simp only; omega
      · simp only; omega
    · rw [if_neg (by omega)]
      refine R.ext' ?_ ?_ ?_ h5.symm h6.symm h7.symm
      · simp only; omega
      · simp only; omega
      · simp only; omega
/-- P13.2 -/
theorem parse_bytes (r : R) (h : may r = true) : parse (bytes r) = r := by
  by_cases hk : r.kind = 1
  · exact parse_seal r h hk
  · exact parse_other r h hk
theorem parse_put {r : R} (h : right r = true) : parse (rput r) = r := by rw [rput_yes h]; exact parse_bytes r ((right_iff r).1 h).1
theorem rget_put {r : R} (h : right r = true) : rget (rput r) = (r, 0) := by
  unfold rget
  have := (rput_pos r).2 h
  rw [if_neg (by intro e; rw [e] at this; simp at this), parse_put h, if_pos rfl]
theorem rget_back {b : List UInt8} (h : (rget b).2 = 0) : right (rget b).1 = true ∧ rput (rget b).1 = b := by
  unfold rget at h ⊢
  by_cases h0 : b = []
  · rw [if_pos h0] at h; cases h
  · rw [if_neg h0] at h ⊢
    by_cases h1 : rput (parse b) = b
    · rw [if_pos h1] at h ⊢
      refine ⟨(rput_pos _).1 ?_, h1⟩
      rw [h1]
      exact List.length_pos_iff.2 h0
    · rw [if_neg h1] at h; cases h
theorem rget_code (b : List UInt8) : ((rget b).2 = 0 ∨ (rget b).2 = 11 ∨ (rget b).2 = 12) ∧ ((rget b).2 ≠ 0 → (rget b).1 = zero) ∧ ((rget b).2 = 11 ↔ b = []) := by
  unfold rget
  by_cases h0 : b = []
  · simp [h0]
  · rw [if_neg h0]
    by_cases h1 : rput (parse b) = b
    · rw [if_pos h1]; simp [h0]
    · rw [if_neg h1]; simp [h0]
/-- P13.2: unlike right records have unlike bytes -/
theorem rput_inj {a b : R} (ha : right a = true) (hb : right b = true) (h : rput a = rput b) : a = b := by
  rw [← parse_put ha, h, parse_put hb]
theorem kind_first {r : R} (h : right r = true) : ((rput r).getD 0 0).toNat = r.kind.toNat ∧ 1 ≤ r.kind ∧ r.kind ≤ 5 := by
  rw [rput_yes h]
  obtain ⟨h1, h2, h3⟩ := (may_iff r).1 ((right_iff r).1 h).1
  by_cases hk : r.kind = 1
  · rw [bytes_seal r hk, hk]; simp
  · rw [bytes_other r hk]
    rcases h3 with ⟨h3, _⟩ | ⟨_, h3, _⟩
    · exact absurd h3 hk
    · refine ⟨?_, by omega, h3.2⟩
      simp only [List.getD_cons_zero]
      exact u8_small _ (by omega)
/-- none's bytes begin another one's -/
theorem rput_free {a b : R} (ha : right a = true) (hb : right b = true) (rest : List UInt8) (h : rput a = rput b ++ rest) : rest = [] := by
  have ka := kind_first ha
  have kb := kind_first hb
  have hk : a.kind = b.kind := by
    have hp := (rput_pos b).2 hb
    have e : (rput a).getD 0 0 = (rput b).getD 0 0 := by
      rw [h]
      obtain ⟨x, l, hx⟩ := List.exists_cons_of_length_pos hp
      rw [hx]; rfl
    rw [e] at ka
    omega
  have ma := ((right_iff a).1 ha).1
  have mb := ((right_iff b).1 hb).1
  obtain ⟨a1, a2, a3⟩ := (may_iff a).1 ma
  obtain ⟨b1, b2, b3⟩ := (may_iff b).1 mb
  rw [rput_yes ha, rput_yes hb] at h
  by_cases h1 : a.kind = 1
  · rcases a3 with ⟨_, ta, ia, _⟩ | ⟨h3, _⟩
    · rcases b3 with ⟨_, tb, ib, _⟩ | ⟨h3, _⟩
      · rw [bytes_seal a h1, bytes_seal b (by omega)] at h
        simp only [List.cons_append, List.cons.injEq, true_and, List.append_assoc] at h
        obtain ⟨-, h⟩ := h
        have ga := put_num a.tick ta (tput a.sp)
        rw [h, put_num b.tick tb (tput b.sp ++ rest)] at ga
        have ht : a.tick = b.tick := by
          have := congrArg (·.1) ga
          simp only at this
          omega
        rw [ht] at h
        have h2 := List.append_cancel_left h
        rcases rest with _ | ⟨c, rest⟩
        · rfl
        · exfalso
          have hc := tget_cut ia (tput b.sp).length (by rw [h2, List.length_append, List.length_cons]; omega)
          rw [h2, List.take_left, tget_tput ib] at hc
          cases hc
      · omega
    · exact absurd h1 h3
  · rw [bytes_other a h1, bytes_other b (by omega)] at h
    simp only [List.cons_append, List.cons.injEq, List.append_assoc] at h
    obtain ⟨-, h⟩ := h
    have ga := put_num a.id (by omega) (if a.kind = 4 then [UInt8.ofNat a.cls.toNat] else [])
    rw [h, put_num b.id (by omega)] at ga
    have ht : a.id = b.id := by
      have := congrArg (·.1) ga
      simp only at this
      omega
    rw [ht] at h
    have h2 := congrArg List.length (List.append_cancel_left h)
    rw [hk] at h2
    refine List.eq_nil_of_length_eq_zero ?_
    split at h2 <;> simp only [List.length_append, List.length_cons, List.length_nil] at h2 <;> omega
/-- P13.3 -/
theorem cost_seal {r : R} (h : right r = true) (hk : r.kind = 1) : 1 ≤ (rput r).length ∧ (rput r).length ≤ 3600 ∧ (Fra.put (rput r)).length ≤ cost r.sp ∧ cost r.sp - (Fra.put (rput r)).length ≤ 12 ∧ 0 < (Fra.put (rput r)).length := by
  obtain ⟨hm, hl⟩ := (right_iff r).1 h
  obtain ⟨h1, h2, ⟨_, h3, h4, h5⟩ | ⟨h3, _⟩⟩ := (may_iff r).1 hm
  · have hp := put_pos r.tick h3
    have ht := (tput_pos r.sp).2 h4
    have hlen : (rput r).length = 2 + (put r.tick).length + (tput r.sp).length := by
      rw [rput_yes h, bytes_seal r hk]; simp; omega
    have hle := hl hk
    rw [← rput_yes h] at hle
    rw [Fra.put_length]
    have hh := Fra.head_is (rput r).length hle
    unfold Fra.size cost
    rw [if_pos (by omega), if_neg (by omega), hh]
    simp only [Int.toNat_natCast]
    split <;> omega
  · exact absurd hk h3
theorem cost_other {r : R} (h : right r = true) (hk : r.kind ≠ 1) : 0 < (Fra.put (rput r)).length ∧ (Fra.put (rput r)).length ≤ 12 := by
  obtain ⟨hm, hl⟩ := (right_iff r).1 h
  have hb := bytes_small r hm hk
  rw [← rput_yes h] at hb
  rw [Fra.put_length]
  have hh := Fra.head_is (rput r).length (by omega)
  unfold Fra.size
  rw [if_pos (by omega), hh, if_pos (by omega)]
  simp only [Int.toNat_natCast]
  omega
end Go.Proofs.Ythcchfhkeghkhaa.Rc
