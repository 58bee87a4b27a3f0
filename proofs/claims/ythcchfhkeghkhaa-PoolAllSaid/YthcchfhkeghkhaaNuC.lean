/-
  Numbers in a row: their cells; what hands them back; turntableref06.SameIds (out of ItC). Nothing is assumed but that they lie in memory.
-/
import Derived.Test.YthcchfhkeghkhaaGen
import Derived.BigRegion
import Derived.WalkKit
import Derived.Deep.LoopGhost
import Derived.Laws.BitsLemmas
import Derived.Deep.Slices
import Derived.Deep.Fields
import Derived.BigQuiet

namespace Go.Proofs.Ythcchfhkeghkhaa
open Go.RowKit
set_option maxRecDepth 100000

def nums (ids : List Int) : List Value := ids.map fun i => .int .i64 i
theorem nums_length (ids : List Int) : (nums ids).length = ids.length := by simp [nums]
theorem nums_snoc (ids : List Int) (i : Int) : nums (ids ++ [i]) = nums ids ++ [.int .i64 i] := by simp [nums]
theorem infoL : (Try.prog.info? 2).map (fun i => (i.zero, i.size, i.bytes)) = some (some (.int .i64 0), 1, 8) := by kernel_rfl
/-- a slice of numbers that was handed back -/
def GivesN (w w' : World) (ids : List Int) (v : Value) : Prop := ∃ A cap, v = .slice A ids.length cap ∧ ids.length ≤ cap ∧ cap ≤ maxLen ∧ Lies w' A (nums ids) ∧ Below w.heap.size w w'
theorem GivesN.nil {w w' : World} (h : Below w.heap.size w w') : GivesN w w' [] (.slice none 0 0) := ⟨none, 0, rfl, Nat.le_refl _, Nat.zero_le _, .inl rfl, h⟩
theorem GivesN.own {w w' : World} {l : List Int} {v : Value} {B : Nat} (ho : w'.ownsRow B 2 1 v l.length (nums l)) (h : Below w.heap.size w w') : GivesN w w' l v := by
  rcases ho.2 with ⟨rfl, h0⟩ | ⟨g, cap, cur, rfl, hb, hg, h1, h2, h3⟩
  · have : l = [] := List.eq_nil_of_length_eq_zero h0
    subst this
    exact GivesN.nil h
  · exact ⟨_, cap, rfl, h1, h2, .inr ⟨_, rfl, (ho.lt g rfl).2, ho.cells (g := g) rfl⟩, h⟩

/-- the same, in new memory -/
def GivesF (w w' : World) (ids : List Int) (v : Value) : Prop := ∃ A cap, v = .slice A ids.length cap ∧ ids.length ≤ cap ∧ cap ≤ maxLen ∧ Lies w' A (nums ids) ∧ Below w.heap.size w w' ∧ ∀ ad, A = some ad → w.heap.size ≤ ad.block
theorem GivesF.nil {w w' : World} (h : Below w.heap.size w w') : GivesF w w' [] (.slice none 0 0) := ⟨none, 0, rfl, Nat.le_refl _, Nat.zero_le _, .inl rfl, h, fun _ e => by cases e⟩
theorem GivesF.own {w w' : World} {l : List Int} {v : Value} (ho : w'.ownsRow w.heap.size 2 1 v l.length (nums l)) (h : Below w.heap.size w w') : GivesF w w' l v := by
  rcases ho.2 with ⟨rfl, h0⟩ | ⟨g, cap, cur, rfl, hb, hg, h1, h2, h3⟩
  · have : l = [] := List.eq_nil_of_length_eq_zero h0
    subst this
    exact GivesF.nil h
  · exact ⟨_, cap, rfl, h1, h2, .inr ⟨_, rfl, (ho.lt g rfl).2, ho.cells (g := g) rfl⟩, h, fun ad e => by cases e; exact hb⟩
theorem GivesF.n {w w' : World} {l : List Int} {v : Value} (h : GivesF w w' l v) : GivesN w w' l v := by
  obtain ⟨A, cap, h1, h2, h3, h4, h5, _⟩ := h
  exact ⟨A, cap, h1, h2, h3, h4, h5⟩

theorem at_num {w : World} {A : Option Addr} {l : List Int} (h : Lies w A (nums l)) (k : Nat) (hk : k < l.length) :
    ∃ ad, A = some ad ∧ ad.block < w.heap.size ∧ ∀ u, Below w.heap.size w u → u.cell? (ad.add k) = some (.int .i64 l[k]) := by
  obtain ⟨ad, rfl, hadb, hc⟩ := h.at_ (k := k) (by rw [nums_length]; exact hk)
  refine ⟨ad, rfl, hadb, fun u hu => (hu.cell (by rw [addr_block]; exact hadb)).trans ?_⟩
  rw [hc]; simp [nums]

set_option maxHeartbeats 2000000 in
theorem sameIds_any (A B : Option Addr) (n m ca cb : Nat) (a b : List Int) (w : World) (hn : a.length = n) (hm : b.length = m) (hca : n ≤ ca) (hcb : m ≤ cb) (_hma : ca ≤ maxLen) (_hmb : cb ≤ maxLen) (hA : Lies w A (nums a)) (hB : Lies w B (nums b)) :
    Calls Try.prog 22 #[.slice A n ca, .slice B m cb] w fun e w' => e = .returned (.bool (decide (a = b))) ∧ Below w.heap.size w w' := by
  unfold maxLen at _hma _hmb
  by_cases hnm : n = m
  rotate_left
  · have HE := Lib.hid (show decide (a = b) = false by rw [decide_eq_false_iff_not]; intro h; subst h; omega)
    clear hn hm hA hB
    go_enter Try.func22, Try.ntmps22
    go_wp2
    go_ret
    exact ⟨by rw [HE.out]; rfl, Below.refl _ _⟩
  subst hnm
  have HNA := Lib.hid hn
  have HNB := Lib.hid hm
  have HA := Lib.hid hA
  have HB := Lib.hid hB
  clear hn hm hA hB
  go_enter Try.func22, Try.ntmps22
  go_wp2
  go_loopw [5] (fun i wr => ∃ k : Nat, i = .int .i64 k ∧ k ≤ n ∧ a.take k = b.take k ∧ Below w.heap.size w wr) (fun i _ => n - (intOf i).toNat)
  case atStart => exact ⟨0, rfl, Nat.zero_le _, by simp, Below.refl _ _⟩
  case round =>
    obtain ⟨k, rfl, hk, htk, hbr⟩ := hrel
    have HTK := Lib.hid htk
    clear htk
    by_cases hlt : k < n
    · have hka : k < a.length := by rw [HNA.out]; exact hlt
      have hkb : k < b.length := by rw [HNB.out]; exact hlt
      obtain ⟨ad, rfl, hadb, hcl⟩ := at_num HA.out k hka
      obtain ⟨bd, rfl, hbdb, hclb⟩ := at_num HB.out k hkb
      obtain x0 := hcl wr hbr
      obtain y0 := hclb wr hbr
      have HT1 := Lib.hid (show a[k] = b[k] → a.take (k + 1) = b.take (k + 1) by
        intro h; rw [List.take_succ_eq_append_getElem hka, List.take_succ_eq_append_getElem hkb, HTK.out, h])
      have HT2 := Lib.hid (show a[k] ≠ b[k] → a ≠ b by
        intro h h2; subst h2; exact h rfl)
      clear hcl hclb
      generalize a[k] = x at *
      generalize b[k] = y at *
      obtain ⟨D, hD⟩ : ∃ D, decide (x = y) = D := ⟨_, rfl⟩
      have HD := Lib.hid hD
      clear hD
      have HXY := Lib.hid (show D = true → x = y from fun h => by have := HD.out; rw [h] at this; exact of_decide_eq_true this)
      have HXN := Lib.hid (show D = false → x ≠ y from fun h => by have := HD.out; rw [h] at this; exact of_decide_eq_false this)
      clear HD
      rcases D with _ | _
      · have qn : ¬ x = y := HXN.out rfl
        have qb : (x == y) = false := beq_eq_false_iff_ne.2 qn
        have qc : (x != y) = true := by simp [bne, qb]
        have HF := Lib.hid (show decide (a = b) = false by rw [decide_eq_false_iff_not]; exact HT2.out (HXN.out rfl))
        go_wp2
        go_quiet (fail)
        go_wp2
        go_ret
        exact ⟨by rw [HF.out]; rfl, below_many hbr _⟩
      · have HT := Lib.hid (HT1.out (HXY.out rfl))
        obtain rfl : x = y := HXY.out rfl
        go_wp2
        go_quiet (fail)
        go_wp2
        go_roundw
        case rel => exact ⟨k + 1, by go_num, by omega, HT.out, below_many hbr _⟩
        case measure => simp [intOf]; omega
    · obtain rfl : k = n := by omega
      have HF := Lib.hid (show decide (a = b) = true by
        have := HTK.out
        rw [List.take_of_length_le (by rw [HNA.out]; omega), List.take_of_length_le (by rw [HNB.out]; omega)] at this
        simp [this])
      go_wp2
      go_ret
      exact ⟨by rw [HF.out]; rfl, hbr⟩

end Go.Proofs.Ythcchfhkeghkhaa
