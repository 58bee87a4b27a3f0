/-
  Layer 13: more that the laws' texts share: what is got of bytes that are cut, and of such with a byte behind them; Get where its error is known. Nothing is assumed but that a type has its handle.
-/
import Derived.Test.YtdfeccmcefcpbaaDoorL13S

namespace Go.Proofs.YtdfeccmcefcpbaaDoor
open Go.RowKit
set_option maxRecDepth 100000

theorem cut13 {q : Rc.R} (h : Rc.right q = true) (k : Nat) (hk : k < (Rc.rput q).length) : (Rc.rget ((Rc.rput q).take k)).2 = if k = 0 then 11 else 12 := by
  obtain ⟨h1, -, h3⟩ := Rc.rget_code ((Rc.rput q).take k)
  by_cases h0 : k = 0
  · rw [if_pos h0, h3, h0]; rfl
  · rw [if_neg h0]
    rcases h1 with h1 | h1 | h1
    · exfalso
      obtain ⟨b1, b2⟩ := Rc.rget_back h1
      have := Rc.rput_free h b1 ((Rc.rput q).drop k) (by rw [b2, List.take_append_drop])
      have hl := congrArg List.length this
      rw [List.length_drop, List.length_nil] at hl
      omega
    · have := h3.1 h1
      have hl := congrArg List.length this
      rw [List.length_take, List.length_nil] at hl
      omega
    · exact h1
theorem more13 {q : Rc.R} (h : Rc.right q = true) (c : UInt8) : (Rc.rget (Rc.rput q ++ [c])).2 = 12 := by
  obtain ⟨h1, -, h3⟩ := Rc.rget_code (Rc.rput q ++ [c])
  rcases h1 with h1 | h1 | h1
  · exfalso
    obtain ⟨b1, b2⟩ := Rc.rget_back h1
    have := Rc.rput_free b1 h [c] b2
    cases this
  · have := h3.1 h1
    simp at this
  · exact h1
theorem get_code13 (A : Option Addr) (n cap : Nat) (x : List UInt8) (w : World) (c : Nat) (hH : Handle w) (hn : x.length = n) (hc : n ≤ cap) (hm : cap ≤ maxLen) (hf : n ≤ 1099511627776) (hA : Lies w A (cells x)) (hcode : (Rc.rget x).2 = c) :
    Calls Tryd.prog 12 #[.slice A n cap] w fun e w' => ∃ (v0 v1 v2 v3 : Int) (v4 : Bool) (A5 : Option Addr) (n5 c5 : Nat), e = .returned (.tuple #[.agg #[.int .i64 v0, .int .i64 v1, .int .i64 v2, .int .i64 v3, .bool v4, .slice A5 n5 c5], .int .i64 (c : Int)]) ∧ Below w.heap.size w w' := by
  rw [← hcode]
  refine (dget13_any A n cap x w hH hn hc hm hf hA).mono ?_
  rintro e w' ⟨A5, c5, rfl, -, -, -, -, hb⟩
  exact ⟨_, _, _, _, _, A5, _, c5, rfl, hb⟩
theorem slice_hi13 (A : Option Addr) (n cap k : Nat) (W : World) (h1 : k ≤ n) (h2 : n ≤ cap) : (Instr.sliceAt 25 (.slice A n cap) none (some (.int .i64 (k : Int))) none).run Tryd.prog W = .ok (.slice A k cap) W := by
  have h : ¬ cap < k := by omega
  have h3 : k ≤ cap := by omega
  go_simp
/-- Put, of a record that came in: its bytes, behind a variable -/
theorem put13_any (q : Rc.R) (A : Option Addr) (n cap : Nat) (w : World) (P : List UInt8) (m : Nat) (hP : Rc.rput q = P) (hPm : P.length = m) (hn : q.sp.length = n) (hm : n ≤ maxLen) (hB : Lies w A (flat q.sp)) (hS : Fine q.sp) :
    Calls Tryd.prog 16 #[recV q A n cap] w fun e w' => ∃ A2 c2, e = .returned (.slice A2 m c2) ∧ m ≤ c2 ∧ c2 ≤ maxLen ∧ Lies w' A2 (cells P) ∧ Below w.heap.size w w' := by
  subst hP hPm
  refine (dput13_any q A n cap w hn hm hB hS).mono ?_
  rintro e w' ⟨v, rfl, ho, hb⟩
  obtain ⟨A2, c2, rfl, h1, h2, -, h3⟩ := own_form ho
  exact ⟨A2, c2, rfl, h1, h2, h3, hb⟩
end Go.Proofs.YtdfeccmcefcpbaaDoor
