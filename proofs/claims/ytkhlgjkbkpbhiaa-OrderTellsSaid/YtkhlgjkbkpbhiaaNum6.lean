/-
  Layer 6: turntablelaw06.numbered: the same items, each with a number of its own, in memory of one's own. Assumed: that the items lie in memory, and that there are at most a thousand.
-/
import Derived.Test.YtkhlgjkbkpbhiaaOpI

namespace Go.Proofs.Ytkhlgjkbkpbhiaa
open Go.RowKit
set_option maxRecDepth 100000

namespace Plain
def numbF : Nat → List It → List It
  | _, [] => []
  | j, x :: r => { x with id := (j : Int) } :: numbF (j + 1) r
/-- each with its own number -/
def numb (l : List It) : List It := numbF 1 l
theorem numbF_length : ∀ (j : Nat) (l : List It), (numbF j l).length = l.length
  | _, [] => rfl
  | j, x :: r => by simp [numbF, numbF_length (j + 1) r]
theorem numbF_append : ∀ (j : Nat) (a b : List It), numbF j (a ++ b) = numbF j a ++ numbF (j + a.length) b
  | _, [], _ => by simp [numbF]
  | j, x :: r, b => by simp [numbF, numbF_append (j + 1) r b, Nat.add_assoc, Nat.add_comm 1]
theorem numb_length (l : List It) : (numb l).length = l.length := numbF_length 1 l
theorem numb_snoc (l : List It) (x : It) : numb (l ++ [x]) = numb l ++ [{ x with id := ((l.length + 1 : Nat) : Int) }] := by
  unfold numb
  rw [numbF_append]
  simp [numbF, Nat.add_comm]
end Plain

theorem flatI_set0 (a : List Plain.It) (y : Plain.It) (b : List Plain.It) (i : Int) : (flatI (a ++ y :: b)).set (a.length * 5) (.int .i64 i) = flatI (a ++ { y with id := i } :: b) := by
  rw [flatI_append, flatI_append, List.set_append_right _ _ (by rw [flatI_length]; omega), flatI_length, Nat.sub_self]
  rfl
theorem flatI_set4 (a : List Plain.It) (y : Plain.It) (b : List Plain.It) (p : Bool) : (flatI (a ++ y :: b)).set (a.length * 5 + 4) (.bool p) = flatI (a ++ { y with pin := p } :: b) := by
  rw [flatI_append, flatI_append, List.set_append_right _ _ (by rw [flatI_length]; omega), flatI_length, Nat.add_sub_cancel_left]
  rfl

theorem addr0 (g j : Nat) : (⟨g, 0, none⟩ : Addr).add j = ⟨g, j, none⟩ := by unfold Addr.add; split <;> simp_all

set_option maxHeartbeats 4000000 in
theorem numbered_any (A : Option Addr) (n cap : Nat) (l : List Plain.It) (w : World) (hn : l.length = n) (hm : n ≤ 1000) (hA : Lies w A (flatI l)) :
    Calls Try.prog 21 #[.slice A n cap] w fun e w' => ∃ v, e = .returned v ∧ w'.ownsRow w.heap.size 24 5 v n (flatI (Plain.numb l)) ∧ Below w.heap.size w w' := by
  obtain ⟨i0, hi, hz0, hz1, hz2⟩ := info_parts infoIt
  have hH : (w.alloc (.cells #[] 24)).ownsRow w.heap.size 24 5 (.slice (some ⟨w.heap.size, 0, none⟩) 0 0) 0 [] :=
    ⟨by simp, .inr ⟨w.heap.size, 0, #[], rfl, Nat.le_refl _, heap_alloc_new w _, Nat.le_refl _, Nat.zero_le _, by simp, by simp⟩⟩
  have HH := Lib.hid hH
  have HA := Lib.hid hA
  have HN := Lib.hid hn
  have HFL := Lib.hid (show (flatI l).length = n * 5 by rw [flatI_length, hn])
  have HF1 := Lib.hid (flatI_one l)
  obtain ⟨F, hF⟩ : ∃ F, flatI l = F := ⟨_, rfl⟩
  have HF := Lib.hid hF
  rw [hF] at HFL HF1 HA
  clear hH hA hn hF
  go_enter Try.func21, Try.ntmps21
  go_wp2_with (at_builtin; refine wpList_appK rfl _ _ 22 rfl w.heap.size 24 i0 (.agg #[.int .i64 0, .int .i64 0, .int .i64 0, .int .i64 0, .bool false]) 5 40 Try.underlying22 hi hz0 hz1 hz2 rfl (by omega) (.slice (some ⟨w.heap.size, 0, none⟩) 0 0) 0 [] rfl HH.out A n cap F rfl HFL.out (HA.out.keep (by simp) fun p hp => World.cell?_alloc_lt w _ p hp) HF1.out (by unfold maxLen; omega) (by omega) (by simp) ?_; intro v1 w1 hown1 hg1 _)
  rw [Nat.zero_add, List.nil_append] at hown1
  have c1 : Below w.heap.size w w1 := ((Below.refl w.heap.size w).alloc (Nat.le_refl _) (.cells #[] 24)).grown hg1 (by simp) (fun g e => by cases e; exact Nat.le_refl _)
  rw [← HF.out] at hown1
  have HO1 := Lib.hid hown1
  clear hg1 hown1
  rcases HO1.out.2 with ⟨rfl, h0⟩ | ⟨g, cap1, cur, rfl, hbg, hgh, hl1, hm1, hcs, htk⟩
  · subst h0
    have hl0 : l = [] := List.eq_nil_of_length_eq_zero HN.out
    go_wp2
    refine wp_loop_rounds 1 ?_
    rw [rounds_succ]
    go_wp2
    go_ret
    exact ⟨_, rfl, by have := HO1.out; rw [hl0] at this ⊢; exact this, c1⟩
  clear hgh hcs htk
  unfold maxLen at hm1
  go_wp2
  go_loopg [4] n (fun kx s4 wr => ∃ k : Nat, s4 = .int .i64 k ∧ k ≤ n ∧ n - k ≤ kx ∧ Aside (wr.ownsRow w.heap.size 24 5 (.slice (some ⟨g, 0, none⟩) n cap1) n (flatI (Plain.numb (l.take k) ++ l.drop k))) ∧ Below w.heap.size w wr)
  case atStart => exact ⟨0, rfl, Nat.zero_le _, by omega, HO1.out, c1⟩
  case round =>
    clear HO1 c1
    obtain ⟨k, rfl, hk, hkx, HO, hbr⟩ := hrel
    by_cases hlt : k < n
    · have hltz : (k : Int) < (n : Int) := by omega
      have hkl : k < l.length := by rw [HN.out]; exact hlt
      have hpl : (Plain.numb (l.take k)).length = k := by rw [Plain.numb_length, List.length_take]; omega
      have hd : l.drop k = l[k] :: l.drop (k + 1) := by rw [List.drop_eq_getElem_cons hkl]
      have hst : (flatI (Plain.numb (l.take k) ++ l.drop k)).set (k * 5) (.int .i64 ((k + 1 : Nat) : Int)) = flatI (Plain.numb (l.take (k + 1)) ++ l.drop (k + 1)) := by
        rw [hd]
        have := flatI_set0 (Plain.numb (l.take k)) l[k] (l.drop (k + 1)) ((k + 1 : Nat) : Int)
        rw [hpl] at this
        rw [this, List.take_succ_eq_append_getElem hkl, Plain.numb_snoc, List.length_take, Nat.min_eq_left (by omega), List.append_assoc]
        rfl
      have hc0 : wr.cell? ⟨g, k * 5, none⟩ = some (.int .i64 l[k].id) := by
        have := HO.out.cells (g := g) rfl (k * 5) (.int .i64 l[k].id) (by
          have h1 := flatI_at (Plain.numb (l.take k) ++ l.drop k) k 0 l[k] (by rw [List.getElem?_append_right (by omega), hpl, Nat.sub_self, hd]; rfl) (by omega)
          simpa [itCells] using h1)
        rwa [addr0] at this
      have hf0 : wr.frozen? ⟨g, k * 5, none⟩ = false := by
        rcases HO.out.2 with ⟨h, _⟩ | ⟨g', cap', cur', h, _, hgh', _⟩
        · cases h
        · have eg : g = g' := by injection h with h1; injection h1 with h1; injection h1
          subst eg
          simp [World.frozen?, hgh']
      have HO2 := Lib.hid (HO.out.stored (k * 5) (.int .i64 ((k + 1 : Nat) : Int)))
      rw [hst] at HO2
      have wk : IntKind.i64.wrap ((k : Int) + 1) = ((k + 1 : Nat) : Int) := by rw [IntKind.wrap_i64]; omega
      have hb2 : Below w.heap.size w (wr.setCell ⟨g, k * 5, none⟩ (.int .i64 ((k + 1 : Nat) : Int))) := hbr.trans ⟨rfl, rfl, rfl, by simp, fun i hi => Below.heap_setCell wr ⟨g, k * 5, none⟩ _ i (by simp; omega)⟩
      have HB2 := Lib.hid hb2
      clear hst hd hb2 HO
      go_wp2
      go_roundg (n - (k + 1))
      case measure => omega
      case rel => exact ⟨k + 1, by go_num, by omega, Nat.le_refl _, by exact HO2.out.1, by exact HB2.out⟩
    · obtain rfl : k = n := by omega
      have hltz : ¬ (k : Int) < (k : Int) := by omega
      have hall : Plain.numb (l.take k) ++ l.drop k = Plain.numb l := by rw [List.take_of_length_le (by rw [HN.out]; omega), List.drop_eq_nil_of_le (by rw [HN.out]; omega), List.append_nil]
      go_wp2
      go_ret
      exact ⟨_, rfl, by have := HO.out; rw [hall] at this; exact this, hbr⟩
end Go.Proofs.Ytkhlgjkbkpbhiaa
