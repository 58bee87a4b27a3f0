/-
  Layer 5: turntableref05's SameTexts and SameBrief: what they answer, of any texts and briefs. Nothing is assumed but that the texts lie in memory.
-/
import Derived.Test.YtmmkmhphnhanfaaGreatDoorTrO
import Derived.Deep.QuietTactic
import Derived.BigQuiet

namespace Go.Proofs.YtmmkmhphnhanfaaGreatDoor
open Go.RowKit
set_option maxRecDepth 100000

/-- the k-th text's cell, in every later world -/
theorem at_text {w : World} {A : Option Addr} {l : List (List UInt8)} (h : Lies w A (strs l)) (k : Nat) (hk : k < l.length) :
    ∃ ad, A = some ad ∧ ad.block < w.heap.size ∧ ∀ u, Below w.heap.size w u → u.cell? (ad.add k) = some (.string (str l[k])) := by
  obtain ⟨ad, rfl, hadb, hc⟩ := h.at_ (k := k) (by rw [strs_length]; exact hk)
  refine ⟨ad, rfl, hadb, fun u hu => ?_⟩
  rw [hu.cell (by rw [addr_block]; exact hadb), hc]
  simp [strs]
theorem neq_texts (W : World) (a b : List UInt8) : (binOp .neq 9 (.string (str a)) (.string (str b))).run Tryz.prog W = .ok (.bool (!decide (a = b))) W := by
  have h : ((str a).toList == (str b).toList) = decide (a = b) := beq_str a b
  rw [binOp_string_neq, h]; rfl

set_option maxHeartbeats 2000000 in
theorem sameT_any (A B : Option Addr) (n m ca cb : Nat) (a b : List (List UInt8)) (w : World) (hn : a.length = n) (hm : b.length = m) (hca : n ≤ ca) (hcb : m ≤ cb) (_hma : ca ≤ maxLen) (_hmb : cb ≤ maxLen) (hA : Lies w A (strs a)) (hB : Lies w B (strs b)) :
    Calls Tryz.prog 37 #[.slice A n ca, .slice B m cb] w fun e w' => e = .returned (.bool (decide (a = b))) ∧ Below w.heap.size w w' := by
  unfold maxLen at _hma _hmb
  by_cases hnm : n = m
  rotate_left
  · have HE := Lib.hid (show decide (a = b) = false by rw [decide_eq_false_iff_not]; intro h; subst h; omega)
    clear hn hm hA hB
    go_enter Tryz.func37, Tryz.ntmps37
    go_wp2
    go_ret
    exact ⟨by rw [HE.out]; rfl, Below.refl _ _⟩
  subst hnm
  have HNA := Lib.hid hn
  have HNB := Lib.hid hm
  have HA := Lib.hid hA
  have HB := Lib.hid hB
  clear hn hm hA hB
  go_enter Tryz.func37, Tryz.ntmps37
  go_wp2
  go_loopw [5] (fun i wr => ∃ k : Nat, i = .int .i64 k ∧ k ≤ n ∧ a.take k = b.take k ∧ Below w.heap.size w wr) (fun i _ => n - (intOf i).toNat)
  case atStart => exact ⟨0, rfl, Nat.zero_le _, by simp, Below.refl _ _⟩
  case round =>
    obtain ⟨k, rfl, hk, htk, hbr⟩ := hrel
    have HTK := Lib.hid htk
    clear htk
    by_cases hlt : k < n
    · have hka : k < a.length := by rw [HNA.out]; exact hlt
      have hkb : k < b.length := by rw [HNB.out]; exact hlt
      obtain ⟨ad, rfl, hadb, hcl⟩ := at_text HA.out k hka
      obtain ⟨bd, rfl, hbdb, hclb⟩ := at_text HB.out k hkb
      have x0 := hcl wr hbr
      have y0 := hclb wr hbr
      have hne := beq_str a[k] b[k]
      have HT1 := Lib.hid (show a[k] = b[k] → a.take (k + 1) = b.take (k + 1) by
        intro h; rw [List.take_succ_eq_append_getElem hka, List.take_succ_eq_append_getElem hkb, HTK.out, h])
      have HT2 := Lib.hid (show a[k] ≠ b[k] → a ≠ b by
        intro h h2; subst h2; exact h rfl)
      clear hcl hclb
      generalize a[k] = x at *
      generalize b[k] = y at *
      obtain ⟨D, hD⟩ : ∃ D, decide (x = y) = D := ⟨_, rfl⟩
      rw [hD] at hne
      have HD := Lib.hid hD
      clear hD
      have HXY := Lib.hid (show D = true → x = y from fun h => by have := HD.out; rw [h] at this; exact of_decide_eq_true this)
      have HXN := Lib.hid (show D = false → x ≠ y from fun h => by have := HD.out; rw [h] at this; exact of_decide_eq_false this)
      generalize str x = X at *
      generalize str y = Y at *
      clear HD
      rcases D with _ | _
      · have HF := Lib.hid (show decide (a = b) = false by rw [decide_eq_false_iff_not]; exact HT2.out (HXN.out rfl))
        go_wp2
        go_quiet (fail)
        go_wp2
        go_ret
        exact ⟨by rw [HF.out]; rfl, below_many hbr _⟩
      · have HT := Lib.hid (HT1.out (HXY.out rfl))
        go_wp2
        go_quiet (fail)
        go_wp2
        go_roundw
        case rel => exact ⟨k + 1, by go_num, by omega, HT.out, below_many hbr _⟩
        case measure => simp [intOf]; omega
    · obtain rfl : k = n := by omega
      have HF := Lib.hid (show decide (a = b) = true by
        have := HTK.out
        rw [List.take_of_length_le (by rw [HNA.out]; omega), List.take_of_length_le (by rw [HNB.out]; omega)] at this
        simp [this])
      go_wp2
      go_ret
      exact ⟨by rw [HF.out]; rfl, hbr⟩
end Go.Proofs.YtmmkmhphnhanfaaGreatDoor

namespace Go.Proofs.YtmmkmhphnhanfaaGreatDoor
open Go.RowKit
set_option maxRecDepth 100000

set_option maxHeartbeats 4000000 in
theorem sameB_any (a b : Plain.Br) (A B : Option Addr) (ca cb : Nat) (w : World) (hca : a.sv.length ≤ ca) (hcb : b.sv.length ≤ cb) (hma : ca ≤ maxLen) (hmb : cb ≤ maxLen) (hA : Lies w A (strs a.sv)) (hB : Lies w B (strs b.sv)) :
    Calls Tryz.prog 19 #[.agg #[.int .i64 a.id, .int .i64 a.lo, .int .i64 a.hi, .int .i64 (a.many : Int), .slice A a.sv.length ca], .agg #[.int .i64 b.id, .int .i64 b.lo, .int .i64 b.hi, .int .i64 (b.many : Int), .slice B b.sv.length cb]] w fun e w' => e = .returned (.bool (decide (a = b))) ∧ Below w.heap.size w w' := by
  have HD := Lib.hid (show decide (a = b) = (decide (a.id = b.id) && (decide (a.lo = b.lo) && (decide (a.hi = b.hi) && (decide (a.many = b.many) && decide (a.sv = b.sv))))) by
    obtain ⟨a0, a1, a2, a3, a4⟩ := a
    obtain ⟨b0, b1, b2, b3, b4⟩ := b
    rw [Bool.eq_iff_iff]
    simp [Plain.Br.mk.injEq])
  generalize decide (a = b) = D at *
  obtain ⟨a0, a1, a2, a3, a4⟩ := a
  obtain ⟨b0, b1, b2, b3, b4⟩ := b
  simp only at *
  have HT := Lib.hid (fun (u : World) (h : Below w.heap.size w u) => sameT_any A B a4.length b4.length ca cb a4 b4 u rfl rfl hca hcb hma hmb (hA.below h) (hB.below h))
  have HTT := Lib.hid (show ∃ E, decide (a4 = b4) = E from ⟨_, rfl⟩)
  obtain ⟨E, hE⟩ := HTT.out
  rw [hE] at HT HD
  clear HTT hE hA hB hca hcb
  generalize a4.length = na at *
  generalize b4.length = nb at *
  by_cases h0 : a0 = b0
  rotate_left
  · have q : (a0 == b0) = false := beq_eq_false_iff_ne.2 h0
    have hF : D = false := by rw [HD.out]; simp [h0]
    subst hF
    clear h0
    go_enter Tryz.func19, Tryz.ntmps19
    go_wp2
    go_ret
    exact ⟨rfl, by go_grown⟩
  subst h0
  by_cases h1 : a1 = b1
  rotate_left
  · have q : (a1 == b1) = false := beq_eq_false_iff_ne.2 h1
    have hF : D = false := by rw [HD.out]; simp [h1]
    subst hF
    clear h1
    go_enter Tryz.func19, Tryz.ntmps19
    go_wp2
    go_ret
    exact ⟨rfl, by go_grown⟩
  subst h1
  by_cases h2 : a2 = b2
  rotate_left
  · have q : (a2 == b2) = false := beq_eq_false_iff_ne.2 h2
    have hF : D = false := by rw [HD.out]; simp [h2]
    subst hF
    clear h2
    go_enter Tryz.func19, Tryz.ntmps19
    go_wp2
    go_ret
    exact ⟨rfl, by go_grown⟩
  subst h2
  by_cases h3 : a3 = b3
  rotate_left
  · have q : ((a3 : Int) == (b3 : Int)) = false := beq_eq_false_iff_ne.2 (by omega)
    have hF : D = false := by rw [HD.out]; simp [h3]
    subst hF
    clear h3
    go_enter Tryz.func19, Tryz.ntmps19
    go_wp2
    go_ret
    exact ⟨rfl, by go_grown⟩
  subst h3
  have hF : D = E := by rw [HD.out]; simp
  subst hF
  go_enter Tryz.func19, Tryz.ntmps19
  have c1 : Below w.heap.size w ((w.alloc (.cells #[.int .i64 a0, .int .i64 a1, .int .i64 a2, .int .i64 (a3 : Int), .slice A na ca] 35)).alloc (.cells #[.int .i64 a0, .int .i64 a1, .int .i64 a2, .int .i64 (a3 : Int), .slice B nb cb] 35)) := ((Below.refl _ _).alloc (Nat.le_refl _) _).alloc (by simp) _
  go_wp2_with fail
  refine (HT.out _ c1).mono ?_
  rintro e w2 ⟨rfl, d2⟩
  go_wp2
  go_ret
  exact ⟨rfl, c1.trans (d2.mono c1.size)⟩
end Go.Proofs.YtmmkmhphnhanfaaGreatDoor
