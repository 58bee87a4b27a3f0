/-
  Layer 6: turntableref06.Same and SameIds: what they answer, of any items, and of any numbers. Assumed: that these lie in memory.
-/
import Derived.Test.YtkhlgjkbkpbhiaaVicB
import Derived.Deep.Slices
import Derived.Deep.Fields
import Derived.BigQuiet

namespace Go.Proofs.Ytkhlgjkbkpbhiaa
open Go.RowKit
set_option maxRecDepth 100000

/-- '==' of two items -/
theorem eq_it (w : World) (x y : Plain.It) : (binOp .eql 24 (itV x) (itV y)).run Try.prog w = .ok (.bool (decide (x = y))) w := by
  obtain ⟨xi, xc, xt, xs, xp⟩ := x
  obtain ⟨yi, yc, yt, ys, yp⟩ := y
  rw [run_eql_struct]
  have e : decide ((⟨xi, xc, xt, xs, xp⟩ : Plain.It) = ⟨yi, yc, yt, ys, yp⟩) = decide (xi = yi ∧ xc = yc ∧ xt = yt ∧ xs = ys ∧ xp = yp) := by rw [decide_eq_decide]; simp
  rw [e]
  go_simp
  repeat' split
  all_goals simp_all
theorem neq_it (w : World) (x y : Plain.It) : (binOp .neq 24 (itV x) (itV y)).run Try.prog w = .ok (.bool (!decide (x = y))) w := by
  have h := eq_it w x y
  rw [run_eql_struct] at h
  rw [run_neq_struct]
  revert h
  generalize (Op.equalIn 10000 24 (itV x) (itV y)).run Try.prog w = r
  cases r with
  | ok b w' =>
    intro h
    simp only [Result.andThen, Result.ok.injEq, Value.bool.injEq] at h ⊢
    rw [h.1, h.2]
    exact ⟨rfl, rfl⟩
  | _ => intro h; simp [Result.andThen] at h
theorem at_num {w : World} {A : Option Addr} {l : List Int} (h : Lies w A (nums l)) (k : Nat) (hk : k < l.length) :
    ∃ ad, A = some ad ∧ ad.block < w.heap.size ∧ ∀ u, Below w.heap.size w u → u.cell? (ad.add k) = some (.int .i64 l[k]) := by
  obtain ⟨ad, rfl, hadb, hc⟩ := h.at_ (k := k) (by rw [nums_length]; exact hk)
  refine ⟨ad, rfl, hadb, fun u hu => (hu.cell (by rw [addr_block]; exact hadb)).trans ?_⟩
  rw [hc]; simp [nums]

set_option maxHeartbeats 2000000 in
theorem same_any (A B : Option Addr) (n m ca cb : Nat) (a b : List Plain.It) (w : World) (hn : a.length = n) (hm : b.length = m) (hca : n ≤ ca) (hcb : m ≤ cb) (_hma : ca ≤ maxLen) (_hmb : cb ≤ maxLen) (hA : Lies w A (flatI a)) (hB : Lies w B (flatI b)) :
    Calls Try.prog 17 #[.slice A n ca, .slice B m cb] w fun e w' => e = .returned (.bool (decide (a = b))) ∧ Below w.heap.size w w' := by
  unfold maxLen at _hma _hmb
  by_cases hnm : n = m
  rotate_left
  · have HE := Lib.hid (show decide (a = b) = false by rw [decide_eq_false_iff_not]; intro h; subst h; omega)
    clear hn hm hA hB
    go_enter Try.func17, Try.ntmps17
    go_wp2
    go_ret
    exact ⟨by rw [HE.out]; rfl, Below.refl _ _⟩
  subst hnm
  have HNA := Lib.hid hn
  have HNB := Lib.hid hm
  have HA := Lib.hid hA
  have HB := Lib.hid hB
  clear hn hm hA hB
  go_enter Try.func17, Try.ntmps17
  go_wp2
  go_loopw [5] (fun i wr => ∃ k : Nat, i = .int .i64 k ∧ k ≤ n ∧ a.take k = b.take k ∧ Below w.heap.size w wr) (fun i _ => n - (intOf i).toNat)
  case atStart => exact ⟨0, rfl, Nat.zero_le _, by simp, Below.refl _ _⟩
  case round =>
    obtain ⟨k, rfl, hk, htk, hbr⟩ := hrel
    have HTK := Lib.hid htk
    clear htk
    by_cases hlt : k < n
    · have hka : k < a.length := by rw [HNA.out]; exact hlt
      have hkb : k < b.length := by rw [HNB.out]; exact hlt
      obtain ⟨ad, rfl, hadb, hcl⟩ := at_item HA.out k hka
      obtain ⟨bd, rfl, hbdb, hclb⟩ := at_item HB.out k hkb
      obtain ⟨x0, x1, x2, x3, x4⟩ := hcl wr hbr
      obtain ⟨y0, y1, y2, y3, y4⟩ := hclb wr hbr
      have hne := fun W => neq_it W a[k] b[k]
      have HT1 := Lib.hid (show a[k] = b[k] → a.take (k + 1) = b.take (k + 1) by
        intro h; rw [List.take_succ_eq_append_getElem hka, List.take_succ_eq_append_getElem hkb, HTK.out, h])
      have HT2 := Lib.hid (show a[k] ≠ b[k] → a ≠ b by
        intro h h2; subst h2; exact h rfl)
      clear hcl hclb
      generalize a[k] = x at *
      generalize b[k] = y at *
      obtain ⟨D, hD⟩ : ∃ D, decide (x = y) = D := ⟨_, rfl⟩
      rw [hD] at hne
      have HD := Lib.hid hD
      clear hD
      have HXY := Lib.hid (show D = true → x = y from fun h => by have := HD.out; rw [h] at this; exact of_decide_eq_true this)
      have HXN := Lib.hid (show D = false → x ≠ y from fun h => by have := HD.out; rw [h] at this; exact of_decide_eq_false this)
      obtain ⟨xi, xc, xt, xs, xp⟩ := x
      obtain ⟨yi, yc, yt, ys, yp⟩ := y
      simp only [itV] at *
      clear HD
      rcases D with _ | _
      · have HF := Lib.hid (show decide (a = b) = false by rw [decide_eq_false_iff_not]; exact HT2.out (HXN.out rfl))
        go_wp2
        go_quiet (fail)
        go_wp2
        go_ret
        exact ⟨by rw [HF.out]; rfl, below_many hbr _⟩
      · have HT := Lib.hid (HT1.out (HXY.out rfl))
        go_wp2
        go_quiet (fail)
        go_wp2
        go_roundw
        case rel => exact ⟨k + 1, by go_num, by omega, HT.out, below_many hbr _⟩
        case measure => simp [intOf]; omega
    · obtain rfl : k = n := by omega
      have HF := Lib.hid (show decide (a = b) = true by
        have := HTK.out
        rw [List.take_of_length_le (by rw [HNA.out]; omega), List.take_of_length_le (by rw [HNB.out]; omega)] at this
        simp [this])
      go_wp2
      go_ret
      exact ⟨by rw [HF.out]; rfl, hbr⟩

set_option maxHeartbeats 2000000 in
theorem sameIds_any (A B : Option Addr) (n m ca cb : Nat) (a b : List Int) (w : World) (hn : a.length = n) (hm : b.length = m) (hca : n ≤ ca) (hcb : m ≤ cb) (_hma : ca ≤ maxLen) (_hmb : cb ≤ maxLen) (hA : Lies w A (nums a)) (hB : Lies w B (nums b)) :
    Calls Try.prog 20 #[.slice A n ca, .slice B m cb] w fun e w' => e = .returned (.bool (decide (a = b))) ∧ Below w.heap.size w w' := by
  unfold maxLen at _hma _hmb
  by_cases hnm : n = m
  rotate_left
  · have HE := Lib.hid (show decide (a = b) = false by rw [decide_eq_false_iff_not]; intro h; subst h; omega)
    clear hn hm hA hB
    go_enter Try.func20, Try.ntmps20
    go_wp2
    go_ret
    exact ⟨by rw [HE.out]; rfl, Below.refl _ _⟩
  subst hnm
  have HNA := Lib.hid hn
  have HNB := Lib.hid hm
  have HA := Lib.hid hA
  have HB := Lib.hid hB
  clear hn hm hA hB
  go_enter Try.func20, Try.ntmps20
  go_wp2
  go_loopw [5] (fun i wr => ∃ k : Nat, i = .int .i64 k ∧ k ≤ n ∧ a.take k = b.take k ∧ Below w.heap.size w wr) (fun i _ => n - (intOf i).toNat)
  case atStart => exact ⟨0, rfl, Nat.zero_le _, by simp, Below.refl _ _⟩
  case round =>
    obtain ⟨k, rfl, hk, htk, hbr⟩ := hrel
    have HTK := Lib.hid htk
    clear htk
    by_cases hlt : k < n
    · have hka : k < a.length := by rw [HNA.out]; exact hlt
      have hkb : k < b.length := by rw [HNB.out]; exact hlt
      obtain ⟨ad, rfl, hadb, hcl⟩ := at_num HA.out k hka
      obtain ⟨bd, rfl, hbdb, hclb⟩ := at_num HB.out k hkb
      obtain x0 := hcl wr hbr
      obtain y0 := hclb wr hbr
      have HT1 := Lib.hid (show a[k] = b[k] → a.take (k + 1) = b.take (k + 1) by
        intro h; rw [List.take_succ_eq_append_getElem hka, List.take_succ_eq_append_getElem hkb, HTK.out, h])
      have HT2 := Lib.hid (show a[k] ≠ b[k] → a ≠ b by
        intro h h2; subst h2; exact h rfl)
      clear hcl hclb
      generalize a[k] = x at *
      generalize b[k] = y at *
      obtain ⟨D, hD⟩ : ∃ D, decide (x = y) = D := ⟨_, rfl⟩
      have HD := Lib.hid hD
      clear hD
      have HXY := Lib.hid (show D = true → x = y from fun h => by have := HD.out; rw [h] at this; exact of_decide_eq_true this)
      have HXN := Lib.hid (show D = false → x ≠ y from fun h => by have := HD.out; rw [h] at this; exact of_decide_eq_false this)
      clear HD
      rcases D with _ | _
      · have qn : ¬ x = y := HXN.out rfl
        have qb : (x == y) = false := beq_eq_false_iff_ne.2 qn
        have qc : (x != y) = true := by simp [bne, qb]
        have HF := Lib.hid (show decide (a = b) = false by rw [decide_eq_false_iff_not]; exact HT2.out (HXN.out rfl))
        go_wp2
        go_quiet (fail)
        go_wp2
        go_ret
        exact ⟨by rw [HF.out]; rfl, below_many hbr _⟩
      · have HT := Lib.hid (HT1.out (HXY.out rfl))
        obtain rfl : x = y := HXY.out rfl
        go_wp2
        go_quiet (fail)
        go_wp2
        go_roundw
        case rel => exact ⟨k + 1, by go_num, by omega, HT.out, below_many hbr _⟩
        case measure => simp [intOf]; omega
    · obtain rfl : k = n := by omega
      have HF := Lib.hid (show decide (a = b) = true by
        have := HTK.out
        rw [List.take_of_length_le (by rw [HNA.out]; omega), List.take_of_length_le (by rw [HNB.out]; omega)] at this
        simp [this])
      go_wp2
      go_ret
      exact ⟨by rw [HF.out]; rfl, hbr⟩

/-- all of order.Victims, in new memory -/
theorem victims_new (A : Option Addr) (n cap : Nat) (l : List Plain.It) (x b : Int) (w : World) (hn : l.length = n) (hm : n ≤ 1000) (hA : Lies w A (flatI l)) :
    Calls Try.prog 9 #[.slice A n cap, .int .i64 x, .int .i64 b] w fun e w' => ∃ v, e = .returned (.tuple #[v, .bool (Plain.fits l x b)]) ∧ GivesF w w' ((Plain.gone l x b).map (·.id)) v := by
  unfold Plain.gone
  cases h : Plain.fits l x b with
  | false =>
    refine (victims_no A n cap l x b w hn hm hA h).mono ?_
    rintro e w' ⟨rfl, hb⟩
    exact ⟨_, rfl, GivesF.nil hb⟩
  | true => rw [if_pos rfl]; exact victims_yes A n cap l x b w hn hm hA h
/-- all of order.Victims -/
theorem victims_any (A : Option Addr) (n cap : Nat) (l : List Plain.It) (x b : Int) (w : World) (hn : l.length = n) (hm : n ≤ 1000) (hA : Lies w A (flatI l)) :
    Calls Try.prog 9 #[.slice A n cap, .int .i64 x, .int .i64 b] w fun e w' => ∃ v, e = .returned (.tuple #[v, .bool (Plain.fits l x b)]) ∧ GivesN w w' ((Plain.gone l x b).map (·.id)) v := by
  exact (victims_new A n cap l x b w hn hm hA).mono fun _ _ ⟨v, he, h⟩ => ⟨v, he, h.n⟩
end Go.Proofs.Ytkhlgjkbkpbhiaa
