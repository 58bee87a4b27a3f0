/-
  Layer 8: steps of the laws' open orders: slices that are handed out, the document's Get in one form. Nothing is assumed.
-/
import Derived.Test.YtjmjinplihlhcaaDoorHd8
import Derived.Test.YtjmjinplihlhcaaDoorRf8
namespace Go.Proofs.YtjmjinplihlhcaaDoor
open Go.RowKit
set_option maxRecDepth 100000

theorem eqs8 (W : World) (s : ByteArray) : (binOp .eql 9 (.string s) (.string s)).run Tryd.prog W = .ok (.bool true) W := by
  go_simp
theorem eqb8 (W : World) (r : Bool) : (binOp .eql 4 (.bool r) (.bool r)).run Tryd.prog W = .ok (.bool true) W := by
  go_simp
theorem soft_lies {w : World} {ρ : Operand → Value} {o : Oper} {x : Operand} {T : List UInt8} {n : Nat} {S : ByteArray} (h : (Fact.lies T n).φ (ρ x) w) (hn : T.length = n) (hS : str T = S) (ho : o.op = .convert 22 9 x) : softUpon Tryd.prog w (Fact.is (.string S)) ((execOp ρ o).run Tryd.prog w) := by
  subst hS
  obtain ⟨A, c, e, h⟩ := h
  exact soft_conv e (conv_at h n c hn) ho
theorem lies_is {w : World} {T : List UInt8} {n : Nat} : ∀ (e : Ending) (w' : World), (∃ A c, e = .returned (.slice A n c) ∧ Lies w' A (cells T) ∧ Below w.heap.size w w') → ∃ v, e = .returned v ∧ (Fact.lies T n).φ v w' ∧ Below w.heap.size w w' := fun _ _ ⟨A, c, he, h, hb⟩ => ⟨_, he, ⟨A, c, rfl, h⟩, hb⟩
theorem soft_call0 {P : Program} {w : World} {F : Fact} {ρ : Operand → Value} {o : Oper} {f : FuncId} {ats : Array TypeId} {R : Ending → World → Prop}
    (hf : ∀ f, ρ (.func f) = .func (.func f) #[] #[]) (hc : Calls P f #[] w R) (ho : o.op = .call { callee := .value (.func f), args := #[], argTypes := ats })
    (hfn : (P.funcs[f]?).map (fun fn => (fn.name == "runtime.NumGoroutine", fn.body.isNone)) = some (false, false)) (hR : ∀ e w', R e w' → ∃ v, e = .returned v ∧ F.φ v w' ∧ Below w.heap.size w w') : softUpon P w F ((execOp ρ o).run P w) := by
  have e : (execOp ρ o).run P w = .ok (.enter f #[]) w := by
    simp [execOp, ho, resolve, invoke, hf, Deferred.ofValue, go_sem, enters hfn]
  rw [e]
  exact ⟨rfl, hc.mono hR⟩
/-- Put, whatever comes in -/
theorem cput_lies (q p : Int) (A : Option Addr) (cap n L : Nat) (bs : List UInt8) (w : World) (hn : bs.length = n) (hL : (Ce.put q p bs).length = L) (hA : Lies w A (cells bs)) (hT : Tab w) :
    Calls Tryd.prog 11 #[.int .i64 q, .int .i64 p, .slice A n cap] w fun e w' => ∃ A' c, e = .returned (.slice A' L c) ∧ Lies w' A' (cells (Ce.put q p bs)) ∧ Below w.heap.size w w' := by
  subst hL
  refine (put_walk q p A cap n bs w hn hA hT).mono ?_
  rintro e w' ⟨hb, ⟨h, g, h1, h2, h3⟩ | ⟨h, h1⟩⟩
  · rw [Ce.put_length, if_pos (by rw [hn]; exact h)]
    exact ⟨_, _, h1, h3.liesAll, hb⟩
  · rw [Ce.put_no (by rw [hn]; exact h)]
    exact ⟨_, _, h1, Lies.nil, hb⟩
theorem got_if (q p : Int) (s : List UInt8) (OK : Bool) (h : Ce.ok q p s = OK) : (if OK = true then Ce.nb s else []) = Ce.got q p s := by
  subst h; rfl
/-- the document's Get, with what it says in one form -/
theorem rget_flag (q p : Int) (A : Option Addr) (cap n : Nat) (s : List UInt8) (w : World) (OK : Bool) (hn : s.length = n) (hc : n ≤ cap) (ho : Ce.ok q p s = OK) (hA : Lies w A (cells s)) :
    Calls Tryd.prog 10 #[.slice A n cap, .int .i64 q, .int .i64 p] w fun e w' => ∃ A' c, e = .returned (.tuple #[.slice A' (Ce.got q p s).length c, .bool OK]) ∧ Lies w' A' (cells (Ce.got q p s)) ∧ Below w.heap.size w w' := by
  refine (rget_walk q p A cap n s w hn hc hA).mono ?_
  rintro e w' ⟨hb, ⟨h, v, h1, h2⟩ | ⟨h, h1⟩⟩
  · obtain ⟨A', c, rfl, -, -, -, hl⟩ := own_form h2
    have hg : Ce.got q p s = Ce.nb s := by unfold Ce.got; rw [if_pos h]
    rw [hg]
    rw [ho] at h; subst h
    exact ⟨A', c, h1, hl, hb⟩
  · have hg : Ce.got q p s = [] := by unfold Ce.got; rw [if_neg (by rw [h]; simp)]
    rw [hg]
    rw [ho] at h; subst h
    exact ⟨none, 0, h1, Lies.nil, hb⟩
end Go.Proofs.YtjmjinplihlhcaaDoor
