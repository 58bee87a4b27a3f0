/-
  Layer 6: order.inTurn: an iterator that tells those that may go, as they are to go, until it is left. Nothing is assumed but that the items lie in memory, and that there are at most a thousand.
-/
import Derived.Test.YtkhlgjkbkpbhiaaOrd
import Derived.RangeFuncBox
import Derived.RangeFuncLeaves
import Derived.RangeFuncCalls
import Derived.RangeFuncWrites
import Derived.Shelf.Abstract
import Derived.WalkKit
import Derived.OwnWalkIn
import Derived.TacticsInMore
import Derived.LoopNIn
import Derived.LoopIn
import Derived.Maps.AppendAt

namespace Go.Proofs.Ytkhlgjkbkpbhiaa
open Go.RowKit Go.Shelf
set_option maxRecDepth 100000
attribute [local go_sem] Oper.semAt_some

/-- a right item -/
abbrev RIt := {x : Plain.It // x.right = true}
/-- items that lie in memory stay as they are -/
def KeepsT (X Y : World) : Prop := X.heap.size ≤ Y.heap.size ∧ ∀ (g : Nat) (cs : Array Value) (m : Nat × Nat), X.heap[g]? = some (.cells cs 24 m) → Y.heap[g]? = some (.cells cs 24 m)
theorem KeepsT.refl (X : World) : KeepsT X X := ⟨Nat.le_refl _, fun _ _ _ h => h⟩
theorem KeepsT.trans {X Y Z : World} (h : KeepsT X Y) (k : KeepsT Y Z) : KeepsT X Z := ⟨Nat.le_trans h.1 k.1, fun g cs m hg => k.2 g cs m (h.2 g cs m hg)⟩
theorem KeepsT.lies {X Y : World} {A : Option Addr} {xs : List Value} (h : KeepsT X Y) (hA : Lies X A xs) (hT : TypedI X A) : Lies Y A xs ∧ TypedI Y A := by
  rcases hT with rfl | ⟨g, cs, m, rfl, hg⟩
  · rcases hA with h0 | ⟨ad, e, _⟩
    · exact ⟨.inl h0, .inl rfl⟩
    · cases e
  · have hg2 := h.2 g cs m hg
    refine ⟨?_, .inr ⟨g, cs, m, rfl, hg2⟩⟩
    rcases hA with h0 | ⟨ad, e, hb, hc⟩
    · exact .inl h0
    · injection e with e
      subst e
      refine .inr ⟨_, rfl, Nat.lt_of_lt_of_le hb h.1, fun j u hu => ?_⟩
      have h1 := hc j u hu
      have e2 : (⟨g, 0, none⟩ : Addr).add j = ⟨g, j, none⟩ := by unfold Addr.add; split <;> simp_all
      rw [e2] at h1 ⊢
      simp only [World.cell?, hg] at h1
      simp only [World.cell?, hg2]
      exact h1
theorem TypedI.below {X Y : World} {A : Option Addr} (h : TypedI X A) (hb : Below X.heap.size X Y) : TypedI Y A := by
  rcases h with rfl | ⟨g, cs, m, rfl, hg⟩
  · exact .inl rfl
  · exact .inr ⟨g, cs, m, rfl, (hb.block g (Array.getElem?_eq_some_iff.1 hg).1).trans hg⟩
theorem below_grownBy {X Y : World} (h : Below X.heap.size X Y) : X.grownBy Y none := ⟨h.os, h.tape, h.output, h.size, fun k hk _ => h.block k hk⟩

set_option maxHeartbeats 4000000 in
theorem turn1_in (n : Nat) (hn : 1 ≤ n) (l Bn : Nat) (A : Option Addr) (m cap : Nat) (ls : List Plain.It) (J Jx : List RIt → World → Prop) (w0 W : World) (hJ : AbidesFrom W.heap.size J)
    (hY : ∀ pre (x : RIt) W1, J pre W1 → pre.length < (Plain.inOrder ls).length → YieldAt Fence.wide (n - 1) Try.prog l #[itV x.1] W1 fun e W' =>
      (e = .returned (.bool true) ∧ J (pre ++ [x]) W' ∧ KeepsT W1 W') ∨ (e = .returned (.bool false) ∧ Jx (pre ++ [x]) W'))
    (hml : ls.length = m) (hm : m ≤ 1000) (hBn : W.cell? ⟨Bn, 0, none⟩ = some (.slice A m cap)) (hA : Lies w0 A (flatI ls)) (hW : Below w0.heap.size w0 W) (h0 : J [] W) :
    CallsIn Fence.wide n Try.prog 27 #[.func (.yield l) #[] #[], .pointer (some ⟨Bn, 0, none⟩)] W fun e W' => (∃ v, e = .returned v) ∧
      ((∃ ys, ys.map (·.1) = Plain.inOrder ls ∧ J ys W') ∨ (∃ pre, (∃ r, pre.map (·.1) ++ r = Plain.inOrder ls) ∧ Jx pre W')) := by
  have HSO := Lib.hid (osort_any A m cap ls W hml hm (hA.below hW))
  have hlen := Plain.inOrder_length ls
  obtain ⟨ys, hys⟩ : ∃ ys : List RIt, ys.map (·.1) = Plain.inOrder ls := ⟨(Plain.inOrder ls).attachWith (fun x => x.right = true) (fun x hx => (Plain.inOrder_right hx).2.1), by simp⟩
  have hyl : ys.length = (Plain.inOrder ls).length := by rw [← hys, List.length_map]
  generalize Plain.inOrder ls = IO at *
  obtain ⟨q, hq⟩ : ∃ q, IO.length = q := ⟨_, rfl⟩
  rw [hq] at hY hyl hlen
  have hq1 : q ≤ 1000 := by omega
  have HQ := Lib.hid hq
  have HYS := Lib.hid hys
  have HYL := Lib.hid hyl
  have HJ := Lib.hid hJ
  have HY := Lib.hid hY
  have HW0 := Lib.hid h0
  have hf18 : Fence.wide.fn 18 := trivial
  clear hml hA hJ hY h0 hys hyl hq hlen
  refine callsIn_of_wp Try.func27 rfl trivial ?_ rfl
  simp only [Try.ntmps27, List.size_toArray, List.length_cons, List.length_nil, Nat.reduceAdd, Nat.reduceSub, Array.replicate_succ, Array.replicate_zero, List.push_toArray, List.append_toArray, List.nil_append, List.cons_append]
  gi_wp2_with (gi_at_call 18; refine (callsIn_wide.2 HSO.out).mono ?_; rintro e w1 ⟨v1, rfl, A2, cap2, rfl, hl2, hm2, hL2, hb2, hT2⟩)
  rw [HQ.out] at hl2 ⊢
  have HL2 := Lib.hid hL2
  have HT2 := Lib.hid hT2
  have HJ1 := Lib.hid (HJ.out _ _ _ none HW0.out (below_grownBy hb2) (fun r e => by cases e))
  clear hL2 hT2
  gi_wp2
  gi_loopw [8] (fun i wr => ∃ k : Nat, i = .int .i64 k ∧ k ≤ q ∧ J (ys.take k) wr ∧ Lies wr A2 (flatI IO) ∧ TypedI wr A2) (fun i _ => q - (intOf i).toNat)
  case atStart => exact ⟨0, rfl, Nat.zero_le _, HJ1.out, HL2.out, HT2.out⟩
  case round =>
    obtain ⟨k, rfl, hk, hJk, hLk, hTk⟩ := hrel
    have HJK := Lib.hid hJk
    have HLK := Lib.hid hLk
    have HTK := Lib.hid hTk
    clear hJk hLk hTk
    by_cases hlt : k < q
    · have hkl : k < IO.length := by rw [HQ.out]; exact hlt
      have hky : k < ys.length := by rw [HYL.out]; exact hlt
      obtain ⟨ad, rfl, hadb, hc⟩ := at_item HLK.out k hkl
      obtain ⟨x0, x1, x2, x3, x4⟩ := hc wr (Below.refl _ _)
      have he : ys[k].1 = IO[k] := by simp [← HYS.out]
      have HYK := Lib.hid (fun (u : World) (h : J (ys.take k) u) => HY.out _ ys[k] u h (by rw [List.length_take]; omega))
      have HTS := Lib.hid (show ys.take (k + 1) = ys.take k ++ [ys[k]] from List.take_succ_eq_append_getElem hky)
      have HPR := Lib.hid (show ∃ r, (ys.take k ++ [ys[k]]).map (·.1) ++ r = IO by rw [← List.take_succ_eq_append_getElem hky, ← HYS.out, List.map_take]; exact ⟨_, List.take_append_drop _ _⟩)
      rw [← he] at x0 x1 x2 x3 x4
      clear hc he
      generalize ys[k] = y at *
      obtain ⟨⟨xi, xc, xt, xs, xp⟩, hyr⟩ := y
      simp only [itV] at *
      have HJ2 := Lib.hid (HJ.out _ _ _ none HJK.out (World.grownBy_alloc wr (.cells #[.int .i64 xi, .int .i64 xc, .int .i64 xt, .int .i64 xs, .bool xp] 24) none) (fun r e => by cases e))
      have HB2 := Lib.hid (show Below wr.heap.size wr (wr.alloc (.cells #[.int .i64 xi, .int .i64 xc, .int .i64 xt, .int .i64 xs, .bool xp] 24)) from (Below.refl _ _).alloc (Nat.le_refl _) _)
      gi_wp2
      obtain ⟨fn, tmps, assign, body, hy, hR⟩ := HYK.out _ HJ2.out
      rw [hy]
      gi_wp2
      refine hR.mono ?_
      rintro e W4 (⟨rfl, hJ4, hk4⟩ | ⟨rfl, hJx4⟩)
      · have HJ4 := Lib.hid hJ4
        have HL4 := Lib.hid (hk4.lies (HLK.out.below HB2.out) (HTK.out.below HB2.out))
        clear hJ4
        gi_wp2
        go_roundw
        case rel => exact ⟨k + 1, by go_num, by omega, by rw [HTS.out]; exact HJ4.out, HL4.out.1, HL4.out.2⟩
        case measure => simp [intOf]; omega
      · have HJX := Lib.hid hJx4
        clear hJx4
        gi_wp2
        refine bodyPost_ret (results_none rfl _ _ _) rfl ?_
        exact ⟨⟨_, rfl⟩, .inr ⟨_, HPR.out, HJX.out⟩⟩
    · obtain rfl : k = q := by omega
      have hall : ys.take k = ys := List.take_of_length_le (by rw [HYL.out]; omega)
      gi_wp2
      go_end0
      exact ⟨⟨_, rfl⟩, .inl ⟨ys, HYS.out, by rw [← hall]; exact HJK.out⟩⟩

set_option maxHeartbeats 1000000 in
theorem turn_in (F : Fence) (n : Nat) (h23 : F.fn 23) (hro : F.round = none) (A : Option Addr) (m cap : Nat) (w : World) :
    CallsIn F n Try.prog 23 #[.slice A m cap] w fun e w' => e = .returned (.func (.func 27) #[] #[.pointer (some ⟨w.heap.size, 0, none⟩)]) ∧ w' = w.alloc (.cells #[.slice A m cap] 22) := by
  refine callsIn_of_wp Try.func23 rfl h23 ?_ hro
  simp only [Try.ntmps23, List.size_toArray, List.length_cons, List.length_nil, Nat.reduceAdd, Nat.reduceSub, Array.replicate_succ, Array.replicate_zero, List.push_toArray, List.append_toArray, List.nil_append, List.cons_append]
  gi_wp2
  go_ret
  exact ⟨rfl, rfl⟩
theorem turn_stops (n : Nat) (hn : 1 ≤ n) (Bn : Nat) (A : Option Addr) (m cap : Nat) (ls : List Plain.It) (w0 w : World) (hml : ls.length = m) (hm : m ≤ 1000) (hBn : w.cell? ⟨Bn, 0, none⟩ = some (.slice A m cap)) (hlt : Bn < w.heap.size) (hA : Lies w0 A (flatI ls)) (hW : Below w0.heap.size w0 w) :
    SeqStopsK Fence.wide n Try.prog 27 #[.pointer (some ⟨Bn, 0, none⟩)] (fun x : RIt => #[itV x.1]) KeepsT (fun ys => ys.map (·.1) = Plain.inOrder ls) (fun pre => ∃ r, pre.map (·.1) ++ r = Plain.inOrder ls) (Plain.inOrder ls).length w := fun l J Jx W hb hJ _ hY h0 =>
  turn1_in n hn l Bn A m cap ls J Jx w0 W hJ hY hml hm ((hb.cell (p := ⟨Bn, 0, none⟩) hlt).trans hBn) hA (hW.trans (hb.mono hW.size)) h0
end Go.Proofs.Ytkhlgjkbkpbhiaa
