/-
  Plain mathematics of layer 13: what the developers' Put and Get do, said in the document's words. No program in it; nothing is assumed.
-/
import Derived.Test.YtdfeccmcefcpbaaDoorMath13

namespace Go.Proofs.YtdfeccmcefcpbaaDoor.Rc
open Plain

/-- the bytes behind the kind -/
def rest (r : R) : List UInt8 := if r.kind = 1 then UInt8.ofNat (cp r) :: (put r.tick ++ tput r.sp) else put r.id ++ (if r.kind = 4 then [UInt8.ofNat r.cls.toNat] else [])
theorem bytes_rest (r : R) : bytes r = UInt8.ofNat r.kind.toNat :: rest r := by
  unfold rest
  by_cases h : r.kind = 1
  · rw [if_pos h, bytes_seal r h, h]; rfl
  · rw [if_neg h, bytes_other r h]
/-- whether all but the kind and the number may be so -/
def fits (r : R) : Bool :=
  if r.kind = 1 then decide (0 ≤ r.cls ∧ r.cls ≤ 7) && (decide (0 ≤ r.tick ∧ r.tick ≤ 281474976710656) && (isT r.sp && decide ((r.sp.headD Sp.zero).t = r.id)))
  else decide (0 ≤ r.cls ∧ r.cls ≤ (if r.kind = 4 then 7 else 0)) && (decide (r.tick = 0) && (!r.pin && decide (r.sp.length = 0)))
theorem may_fits (r : R) : may r = true ↔ (1 ≤ r.kind ∧ r.kind ≤ 5) ∧ (1 ≤ r.id ∧ r.id ≤ 281474976710656) ∧ fits r = true := by
  rw [may_iff]
  unfold fits
  by_cases h : r.kind = 1
  · simp only [h, true_and, ne_eq, not_true_eq_false, false_and, or_false, if_true, Bool.and_eq_true, decide_eq_true_eq]
    constructor
    · rintro ⟨h1, h2, h3, h4, h5⟩; exact ⟨by omega, h1, h2, h3, h4, h5⟩
    · rintro ⟨_, h1, h2, h3, h4, h5⟩; exact ⟨h1, h2, h3, h4, h5⟩
  · simp only [h, false_and, false_or, ne_eq, not_false_eq_true, true_and, if_false, Bool.and_eq_true, decide_eq_true_eq, Bool.not_eq_true']
    constructor
    · rintro ⟨h1, h2, h3, h4, h5, h6, h7⟩
      refine ⟨by omega, h1, ⟨h2.1, ?_⟩, h5, h6, by rw [h7]; rfl⟩
      split <;> omega
    · rintro ⟨h0, h1, ⟨h2, h3⟩, h5, h6, h7⟩
      refine ⟨h1, ⟨h2, ?_⟩, by omega, ?_, h5, h6, List.eq_nil_of_length_eq_zero h7⟩
      · split at h3 <;> omega
      · by_cases h4 : r.kind = 4
        · exact .inl h4
        · rw [if_neg h4] at h3; exact .inr (by omega)
theorem rput_no_kind (r : R) (h : ¬ (1 ≤ r.kind ∧ r.kind ≤ 5)) : rput r = [] := by
  apply rput_no
  cases hr : right r
  · rfl
  · exact absurd ((may_fits r).1 ((right_iff r).1 hr).1).1 h
theorem rput_no_id (r : R) (h : ¬ (1 ≤ r.id ∧ r.id ≤ 281474976710656)) : rput r = [] := by
  apply rput_no
  cases hr : right r
  · rfl
  · exact absurd ((may_fits r).1 ((right_iff r).1 hr).1).2.1 h
theorem rput_no_fits (r : R) (h : fits r = false) : rput r = [] := by
  apply rput_no
  cases hr : right r
  · rfl
  · have := ((may_fits r).1 ((right_iff r).1 hr).1).2.2
    rw [h] at this; cases this
theorem size_zero (n : Nat) (h : 1 ≤ n) : (Fra.size (n : Int) = 0 ↔ 3600 < n) := by
  unfold Fra.size
  by_cases h1 : n ≤ 3600
  · rw [if_pos (by omega)]; simp only [Int.toNat_natCast]; omega
  · rw [if_neg (by omega)]; omega
/-- one whose kind, number and rest may be so has its bytes, or none if a frame has no room -/
theorem rput_fit (r : R) (h1 : 1 ≤ r.kind ∧ r.kind ≤ 5) (h2 : 1 ≤ r.id ∧ r.id ≤ 281474976710656) (h3 : fits r = true) :
    rput r = if Fra.size ((1 + (rest r).length : Nat) : Int) = 0 then [] else UInt8.ofNat r.kind.toNat :: rest r := by
  have hm := (may_fits r).2 ⟨h1, h2, h3⟩
  have hl : (bytes r).length = 1 + (rest r).length := by rw [bytes_rest]; simp; omega
  rw [← bytes_rest, ← hl]
  have hp := bytes_pos r
  by_cases hs : Fra.size ((bytes r).length : Int) = 0
  · rw [if_pos hs]
    apply rput_no
    have h4 := (size_zero _ hp).1 hs
    by_cases hk : r.kind = 1
    · cases hr : right r
      · rfl
      · have := ((right_iff r).1 hr).2 hk; omega
    · have := bytes_small r hm hk; omega
  · rw [if_neg hs]
    apply rput_yes
    refine (right_iff r).2 ⟨hm, fun hk => ?_⟩
    have h4 := mt (size_zero _ hp).2 hs
    omega
theorem rest_len (r : R) : (rest r).length ≤ 6600 := by
  have := bytes_max r
  rw [bytes_rest] at this
  simp at this
  omega

/-- the record behind the kind of a sealed one, if it is one -/
def getS (c : List UInt8) : Option R :=
  if c = [] then none else if (get (c.drop 1)).2.2 ≠ 0 then none else if (tget (c.drop (1 + (get (c.drop 1)).2.1))).2 ≠ 0 then none else
    some ⟨1, ((tget (c.drop (1 + (get (c.drop 1)).2.1))).1.headD Sp.zero).t, (((c.getD 0 0).toNat - if 8 ≤ (c.getD 0 0).toNat then 8 else 0 : Nat) : Int), ((get (c.drop 1)).1 : Nat), decide (8 ≤ (c.getD 0 0).toNat), (tget (c.drop (1 + (get (c.drop 1)).2.1))).1⟩
/-- .. of one of kind k -/
def getC (k : Nat) (c : List UInt8) : Option R :=
  if (get c).2.2 ≠ 0 ∨ c.length ≠ (get c).2.1 + (if k = 4 then 1 else 0) then none else
    some ⟨(k : Int), ((get c).1 : Nat), (if k = 4 then ((c.getD (get c).2.1 0).toNat : Nat) else (0 : Nat) : Nat), 0, false, []⟩
def getK (k : Nat) (c : List UInt8) : Option R := if k = 1 then getS c else if 2 ≤ k ∧ k ≤ 5 then getC k c else none

theorem get_put_back {c : List UInt8} (h : (get c).2.2 = 0) : put ((get c).1 : Nat) = c.take (get c).2.1 ∧ (get c).2.1 ≤ c.length := by
  obtain ⟨h1, h2, h3, h4⟩ := get_back c (get c).1 (get c).2.1 (by rw [← h])
  refine ⟨?_, h3⟩
  rw [h4]
  unfold put
  rw [if_pos (by omega)]
  rfl
theorem cons_drop {c : List UInt8} (h : c ≠ []) : c.getD 0 0 :: c.drop 1 = c := by
  cases c with
  | nil => exact absurd rfl h
  | cons x l => rfl
theorem getS_back {c : List UInt8} {r : R} (h : getS c = some r) : r.kind = 1 ∧ rest r = c ∧ isT r.sp = true := by
  unfold getS at h
  by_cases h0 : c = []
  · rw [if_pos h0] at h; cases h
  rw [if_neg h0] at h
  by_cases h1 : (get (c.drop 1)).2.2 ≠ 0
  · rw [if_pos h1] at h; cases h
  rw [if_neg h1] at h
  by_cases h2 : (tget (c.drop (1 + (get (c.drop 1)).2.1))).2 ≠ 0
  · rw [if_pos h2] at h; cases h
  rw [if_neg h2] at h
  simp only [ne_eq, Decidable.not_not] at h1 h2
  obtain ⟨p1, p2⟩ := get_put_back h1
  obtain ⟨t1, t2⟩ := tget_back (l := (tget (c.drop (1 + (get (c.drop 1)).2.1))).1) (Prod.ext rfl h2)
  injection h with h
  subst h
  refine ⟨rfl, ?_, t1⟩
  unfold rest
  rw [if_pos rfl]
  simp only
  rw [p1, t2]
  have hc : cp ⟨1, ((tget (c.drop (1 + (get (c.drop 1)).2.1))).1.headD Sp.zero).t, (((c.getD 0 0).toNat - if 8 ≤ (c.getD 0 0).toNat then 8 else 0 : Nat) : Int), ((get (c.drop 1)).1 : Nat), decide (8 ≤ (c.getD 0 0).toNat), (tget (c.drop (1 + (get (c.drop 1)).2.1))).1⟩ = (c.getD 0 0).toNat := by
    unfold cp
    simp only [Int.toNat_natCast, decide_eq_true_eq]
    split <;> omega
  rw [hc, UInt8.ofNat_toNat, ← List.drop_drop, List.take_append_drop]
  exact cons_drop h0
theorem getC_back {k : Nat} {c : List UInt8} {r : R} (hk : k ≠ 1) (h : getC k c = some r) : r.kind = (k : Int) ∧ rest r = c ∧ r.sp = [] := by
  unfold getC at h
  by_cases h0 : (get c).2.2 ≠ 0 ∨ c.length ≠ (get c).2.1 + (if k = 4 then 1 else 0)
  · rw [if_pos h0] at h; cases h
  rw [if_neg h0] at h
  simp only [ne_eq, not_or, Decidable.not_not] at h0
  obtain ⟨p1, p2⟩ := get_put_back h0.1
  injection h with h
  subst h
  refine ⟨rfl, ?_, rfl⟩
  unfold rest
  rw [if_neg (by simp only; omega)]
  simp only
  rw [p1]
  by_cases h4 : k = 4
  · subst h4
    rw [if_pos rfl] at h0
    simp only [if_true]
    rw [if_pos (by omega)]
    have hd : c.drop (get c).2.1 = [UInt8.ofNat ((c.getD (get c).2.1 0).toNat : Int).toNat] := by
      have hl : (get c).2.1 < c.length := by omega
      rw [List.drop_eq_getElem_cons hl, List.drop_eq_nil_of_le (by omega), Int.toNat_natCast, UInt8.ofNat_toNat, List.getD_eq_getElem?_getD, List.getElem?_eq_getElem hl]
      rfl
    rw [← hd, List.take_append_drop]
  · rw [if_neg (by omega)]
    rw [if_neg h4] at h0
    rw [List.append_nil, List.take_of_length_le (by omega)]
theorem getK_back {k : Nat} {c : List UInt8} {r : R} (h : getK k c = some r) : r.kind = (k : Int) ∧ bytes r = UInt8.ofNat k :: c ∧ (isT r.sp = true ∨ r.sp = []) := by
  unfold getK at h
  by_cases h1 : k = 1
  · subst h1
    rw [if_pos rfl] at h
    obtain ⟨e1, e2, e3⟩ := getS_back h
    refine ⟨e1, ?_, .inl e3⟩
    rw [bytes_rest, e1, e2]; rfl
  · rw [if_neg h1] at h
    by_cases h2 : 2 ≤ k ∧ k ≤ 5
    · rw [if_pos h2] at h
      obtain ⟨e1, e2, e3⟩ := getC_back h1 h
      refine ⟨e1, ?_, .inr e3⟩
      rw [bytes_rest, e1, e2]; simp
    · rw [if_neg h2] at h; cases h
theorem getK_bytes (r : R) (h : may r = true) : getK r.kind.toNat (rest r) = some r := by
  obtain ⟨h1, h2, ⟨hk, h3, h4, h5⟩ | ⟨hk, h3, h4, h5, h6, h7⟩⟩ := (may_iff r).1 h
  · obtain ⟨c1, c2, c3⟩ := cp_small r h2
    have hb : rest r = UInt8.ofNat (cp r) :: (put r.tick ++ tput r.sp) := by unfold rest; rw [if_pos hk]
    have e1 : ((rest r).getD 0 0).toNat = cp r := by rw [hb]; simp only [List.getD_cons_zero]; exact u8_small _ (by omega)
    have e2 : (rest r).drop 1 = put r.tick ++ tput r.sp := by rw [hb]; rfl
    have e3 : get ((rest r).drop 1) = (r.tick.toNat, (put r.tick).length, 0) := by rw [e2]; exact put_num _ h3 _
    have e4 : (rest r).drop (1 + (put r.tick).length) = tput r.sp := by rw [← List.drop_drop, e2, List.drop_left]
    unfold getK
    rw [if_pos (by omega)]
    unfold getS
    rw [if_neg (by rw [hb]; simp), e3]
    simp only
    rw [e4, tget_tput h4, e1]
    simp only [ne_eq, not_true_eq_false, if_false, Option.some.injEq]
    have hcp : cp r = r.cls.toNat + if r.pin then 8 else 0 := rfl
    refine R.ext' hk.symm h5 ?_ ?_ ?_ rfl
    · simp only
      cases hp : r.pin <;> simp only [hp, if_true, if_false, Bool.false_eq_true] at hcp
      · rw [if_neg (by omega)]; omega
      · rw [if_pos (by omega)]; omega
    · simp only; omega
    · simp only
      rw [Bool.eq_iff_iff, decide_eq_true_eq]
      exact c3
  · have hb : rest r = put r.id ++ (if r.kind = 4 then [UInt8.ofNat r.cls.toNat] else []) := by unfold rest; rw [if_neg hk]
    have e2 : get (rest r) = (r.id.toNat, (put r.id).length, 0) := by rw [hb]; exact put_num _ (by omega) _
    unfold getK
    rw [if_neg (by omega), if_pos (by omega)]
    unfold getC
    rw [e2]
    simp only
    by_cases h4k : r.kind = 4
    · have e3 : (rest r).length = (put r.id).length + 1 := by rw [hb, if_pos h4k]; simp
      have e4 : (rest r).getD (put r.id).length 0 = UInt8.ofNat r.cls.toNat := by
        rw [hb, if_pos h4k, List.getD_eq_getElem?_getD, List.getElem?_append_right (Nat.le_refl _)]
        simp
      have hk4 : r.kind.toNat = 4 := by omega
      rw [e4, u8_small _ (by omega)]
      simp only [hk4, ne_eq, not_true_eq_false, false_or, if_true]
      rw [if_neg (by omega)]
      refine congrArg some (R.ext' ?_ ?_ ?_ h5.symm h6.symm h7.symm)
      · simp only; omega
      · simp only; omega
      · simp only; omega
    · have e3 : (rest r).length = (put r.id).length := by rw [hb, if_neg h4k]; simp
      rw [if_neg (show r.kind.toNat ≠ 4 by omega)]
      simp only [ne_eq, not_true_eq_false, false_or]
      rw [if_neg (by omega), if_neg (show r.kind.toNat ≠ 4 by omega)]
      refine congrArg some (R.ext' ?_ ?_ ?_ h5.symm h6.symm h7.symm)
      · simp only; omega
      · simp only; omega
      · simp only; omega
/-- what the developers' Get answers is the document's -/
theorem rget_none {k : UInt8} {c : List UInt8} (h : getK k.toNat c = none) : rget (k :: c) = (zero, 12) := by
  unfold rget
  rw [if_neg (by simp)]
  by_cases h1 : rput (parse (k :: c)) = k :: c
  · exfalso
    have hr : right (parse (k :: c)) = true := (rput_pos _).1 (by rw [h1]; simp)
    have hm := ((right_iff _).1 hr).1
    rw [rput_yes hr, bytes_rest] at h1
    injection h1 with h1 h2
    have h3 := getK_bytes _ hm
    have h4 := ((may_fits _).1 hm).1
    have h5 : (parse (k :: c)).kind.toNat = k.toNat := by have h9 := congrArg UInt8.toNat h1; rwa [u8_small _ (by omega)] at h9
    rw [h2, h5, h] at h3
    cases h3
  · rw [if_neg h1]
theorem rget_some {k : UInt8} {c : List UInt8} {r : R} (h : getK k.toNat c = some r) : rget (k :: c) = if right r then (r, 0) else (zero, 12) := by
  obtain ⟨e1, e2, -⟩ := getK_back h
  rw [UInt8.ofNat_toNat] at e2
  by_cases hr : right r = true
  · rw [if_pos hr, ← e2, ← rput_yes hr]
    exact rget_put hr
  · rw [if_neg hr]
    unfold rget
    rw [if_neg (by simp)]
    by_cases h1 : rput (parse (k :: c)) = k :: c
    · exfalso
      have hr2 : right (parse (k :: c)) = true := (rput_pos _).1 (by rw [h1]; simp)
      have hm := ((right_iff _).1 hr2).1
      have h3 := h1
      rw [rput_yes hr2, bytes_rest] at h1
      injection h1 with h1 h2
      have h4 := getK_bytes _ hm
      have h5 := ((may_fits _).1 hm).1
      have h6 : (parse (k :: c)).kind.toNat = k.toNat := by have h9 := congrArg UInt8.toNat h1; rwa [u8_small _ (by omega)] at h9
      rw [h2, h6, h] at h4
      injection h4 with h4
      rw [h4] at hr
      exact hr hr2
    · rw [if_neg h1]
end Go.Proofs.YtdfeccmcefcpbaaDoor.Rc
