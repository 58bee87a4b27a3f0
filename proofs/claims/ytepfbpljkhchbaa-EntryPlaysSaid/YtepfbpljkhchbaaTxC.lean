/-
  Texts in memory, cells of them; '==' of texts; turntableref05.SameTexts: what it answers, of any texts. Was in SpanA, CrcC, TrV and TrT. Assumed: that these lie in memory.
-/
import Derived.Test.YtepfbpljkhchbaaBase
import Derived.Deep.QuietTactic
import Derived.BigQuiet

namespace Go.Proofs.Ytepfbpljkhchbaa
open Go.RowKit
set_option maxRecDepth 100000

def strs (ss : List (List UInt8)) : List Value := ss.map fun s => .string (str s)
theorem strs_length (ss : List (List UInt8)) : (strs ss).length = ss.length := by simp [strs]
theorem strs_one (ss : List (List UInt8)) : ∀ u ∈ strs ss, u.oneCell' = true := by
  intro u hu
  obtain ⟨s, _, rfl⟩ := List.mem_map.1 hu
  rfl
theorem strs_snoc (ss : List (List UInt8)) (s : List UInt8) : strs (ss ++ [s]) = strs ss ++ [.string (str s)] := by simp [strs]
theorem str_toList (l : List UInt8) : (str l).toList = l := by unfold str; exact ByteArray.toList_mk l
theorem beq_str (a b : List UInt8) : ((str a).toList == (str b).toList) = decide (a = b) := by rw [str_toList, str_toList]; rw [Bool.eq_iff_iff]; simp
/-- the k-th text's cell, in every later world -/
theorem at_text {w : World} {A : Option Addr} {l : List (List UInt8)} (h : Lies w A (strs l)) (k : Nat) (hk : k < l.length) :
    ∃ ad, A = some ad ∧ ad.block < w.heap.size ∧ ∀ u, Below w.heap.size w u → u.cell? (ad.add k) = some (.string (str l[k])) := by
  obtain ⟨ad, rfl, hadb, hc⟩ := h.at_ (k := k) (by rw [strs_length]; exact hk)
  refine ⟨ad, rfl, hadb, fun u hu => ?_⟩
  rw [hu.cell (by rw [addr_block]; exact hadb), hc]
  simp [strs]
theorem neq_texts (W : World) (a b : List UInt8) : (binOp .neq 9 (.string (str a)) (.string (str b))).run Try.prog W = .ok (.bool (!decide (a = b))) W := by
  have h : ((str a).toList == (str b).toList) = decide (a = b) := beq_str a b
  rw [binOp_string_neq, h]; rfl

set_option maxHeartbeats 2000000 in
theorem sameT_any (A B : Option Addr) (n m ca cb : Nat) (a b : List (List UInt8)) (w : World) (hn : a.length = n) (hm : b.length = m) (hca : n ≤ ca) (hcb : m ≤ cb) (_hma : ca ≤ maxLen) (_hmb : cb ≤ maxLen) (hA : Lies w A (strs a)) (hB : Lies w B (strs b)) :
    Calls Try.prog 59 #[.slice A n ca, .slice B m cb] w fun e w' => e = .returned (.bool (decide (a = b))) ∧ Below w.heap.size w w' := by
  unfold maxLen at _hma _hmb
  by_cases hnm : n = m
  rotate_left
  · have HE := Lib.hid (show decide (a = b) = false by rw [decide_eq_false_iff_not]; intro h; subst h; omega)
    clear hn hm hA hB
    go_enter Try.func59, Try.ntmps59
    go_wp2
    go_ret
    exact ⟨by rw [HE.out]; rfl, Below.refl _ _⟩
  subst hnm
  have HNA := Lib.hid hn
  have HNB := Lib.hid hm
  have HA := Lib.hid hA
  have HB := Lib.hid hB
  clear hn hm hA hB
  go_enter Try.func59, Try.ntmps59
  go_wp2
  go_loopw [5] (fun i wr => ∃ k : Nat, i = .int .i64 k ∧ k ≤ n ∧ a.take k = b.take k ∧ Below w.heap.size w wr) (fun i _ => n - (intOf i).toNat)
  case atStart => exact ⟨0, rfl, Nat.zero_le _, by simp, Below.refl _ _⟩
  case round =>
    obtain ⟨k, rfl, hk, htk, hbr⟩ := hrel
    have HTK := Lib.hid htk
    clear htk
    by_cases hlt : k < n
    · have hka : k < a.length := by rw [HNA.out]; exact hlt
      have hkb : k < b.length := by rw [HNB.out]; exact hlt
      obtain ⟨ad, rfl, hadb, hcl⟩ := at_text HA.out k hka
      obtain ⟨bd, rfl, hbdb, hclb⟩ := at_text HB.out k hkb
      have x0 := hcl wr hbr
      have y0 := hclb wr hbr
      have hne := beq_str a[k] b[k]
      have HT1 := Lib.hid (show a[k] = b[k] → a.take (k + 1) = b.take (k + 1) by
        intro h; rw [List.take_succ_eq_append_getElem hka, List.take_succ_eq_append_getElem hkb, HTK.out, h])
      have HT2 := Lib.hid (show a[k] ≠ b[k] → a ≠ b by
        intro h h2; subst h2; exact h rfl)
      clear hcl hclb
      generalize a[k] = x at *
      generalize b[k] = y at *
      obtain ⟨D, hD⟩ : ∃ D, decide (x = y) = D := ⟨_, rfl⟩
      rw [hD] at hne
      have HD := Lib.hid hD
      clear hD
      have HXY := Lib.hid (show D = true → x = y from fun h => by have := HD.out; rw [h] at this; exact of_decide_eq_true this)
      have HXN := Lib.hid (show D = false → x ≠ y from fun h => by have := HD.out; rw [h] at this; exact of_decide_eq_false this)
      generalize str x = X at *
      generalize str y = Y at *
      clear HD
      rcases D with _ | _
      · have HF := Lib.hid (show decide (a = b) = false by rw [decide_eq_false_iff_not]; exact HT2.out (HXN.out rfl))
        go_wp2
        go_quiet (fail)
        go_wp2
        go_ret
        exact ⟨by rw [HF.out]; rfl, below_many hbr _⟩
      · have HT := Lib.hid (HT1.out (HXY.out rfl))
        go_wp2
        go_quiet (fail)
        go_wp2
        go_roundw
        case rel => exact ⟨k + 1, by go_num, by omega, HT.out, below_many hbr _⟩
        case measure => simp [intOf]; omega
    · obtain rfl : k = n := by omega
      have HF := Lib.hid (show decide (a = b) = true by
        have := HTK.out
        rw [List.take_of_length_le (by rw [HNA.out]; omega), List.take_of_length_le (by rw [HNB.out]; omega)] at this
        simp [this])
      go_wp2
      go_ret
      exact ⟨by rw [HF.out]; rfl, hbr⟩
end Go.Proofs.Ytepfbpljkhchbaa
