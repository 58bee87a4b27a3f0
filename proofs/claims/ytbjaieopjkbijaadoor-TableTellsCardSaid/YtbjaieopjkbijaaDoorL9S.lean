/-
  Layer 9: steps of the laws' open orders: tables that are loaded, sectors that are handed out, texts that are compared. Nothing is assumed.
-/
import Derived.Test.YtbjaieopjkbijaaDoorOpT

namespace Go.Proofs.YtbjaieopjkbijaaDoor
open Go.RowKit
set_option maxRecDepth 100000

theorem eqs9 (W : World) (s : ByteArray) : (binOp .eql 9 (.string s) (.string s)).run Tryd.prog W = .ok (.bool true) W := by
  go_simp
theorem eqb9 (W : World) (r : Bool) : (binOp .eql 4 (.bool r) (.bool r)).run Tryd.prog W = .ok (.bool true) W := by
  go_simp
theorem eqt9 (W : World) (a b : List UInt8) (R : Bool) (h : decide (a = b) = R) : (binOp .eql 9 (.string (str a)) (.string (str b))).run Tryd.prog W = .ok (.bool R) W := by
  rw [← h, ← beq_str]
  generalize str a = x
  generalize str b = y
  go_simp
theorem net9 (W : World) (a b : List UInt8) (h : a ≠ b) : (binOp .neq 9 (.string (str a)) (.string (str b))).run Tryd.prog W = .ok (.bool true) W := by
  have e := beq_str a b
  rw [decide_eq_false h] at e
  generalize str a = x at *
  generalize str b = y at *
  go_simp
theorem soft_lies {w : World} {ρ : Operand → Value} {o : Oper} {x : Operand} {T : List UInt8} {n : Nat} {S : ByteArray} (h : (Fact.lies T n).φ (ρ x) w) (hn : T.length = n) (hS : str T = S) (ho : o.op = .convert 25 9 x) : softUpon Tryd.prog w (Fact.is (.string S)) ((execOp ρ o).run Tryd.prog w) := by
  subst hS
  obtain ⟨A, c, e, h⟩ := h
  exact soft_conv e (conv_at h n c hn) ho
theorem lies_is {w : World} {T : List UInt8} {n : Nat} : ∀ (e : Ending) (w' : World), (∃ A c, e = .returned (.slice A n c) ∧ Lies w' A (cells T) ∧ Below w.heap.size w w') → ∃ v, e = .returned v ∧ (Fact.lies T n).φ v w' ∧ Below w.heap.size w w' := fun _ _ ⟨A, c, he, h, hb⟩ => ⟨_, he, ⟨A, c, rfl, h⟩, hb⟩
/-- a slice of places that was handed back -/
def Fact.places (l : List Nat) (n : Nat) : Fact := ⟨fun v w => ∃ A c, v = .slice A n c ∧ n ≤ c ∧ Lies w A (nums l), fun _ _ _ ⟨A, c, e, h0, h⟩ hb => ⟨A, c, e, h0, h.below hb⟩⟩
theorem places_is {w : World} {l : List Nat} {n : Nat} : ∀ (e : Ending) (w' : World), (∃ A c, e = .returned (.slice A n c) ∧ n ≤ c ∧ Lies w' A (nums l) ∧ Below w.heap.size w w') → ∃ v, e = .returned v ∧ (Fact.places l n).φ v w' ∧ Below w.heap.size w w' := fun _ _ ⟨A, c, he, h0, h, hb⟩ => ⟨_, he, ⟨A, c, rfl, h0, h⟩, hb⟩
theorem load_tab (W : World) (b : Nat) (g o : Int) (A : Option Addr) (n c : Nat) (h : Blk W b #[.int .i64 g, .int .i64 o, .slice A n c] 24) : (Instr.loadAt 24 (.pointer (some ⟨b, 0, none⟩))).run Tryd.prog W = .ok (tabV g o A n c) W := by
  obtain ⟨h0, h1, h2⟩ := h.three
  go_simp
theorem zeroT_build {w : World} {ρ : Operand → Value} {o : Oper} (ho : o.op = .build 24 #[]) : softUpon Tryd.prog w (Fact.is (tabV 0 0 none 0 0)) ((execOp ρ o).run Tryd.prog w) := by
  have e : (execOp ρ o).run Tryd.prog w = .ok (.value (tabV 0 0 none 0 0)) w := by
    simp [execOp, ho]
    go_simp
  rw [e]
  exact ⟨rfl, Below.refl _ _⟩
theorem soft_index {P : Program} {w : World} {ρ : Operand → Value} {o : Oper} {x y : Operand} {t : TypeId} {vx vy u : Value} (hx : ρ x = vx) (hy : ρ y = vy) (hr : (Instr.indexAt t vx vy).run P w = .ok u w) (ho : o.op = .indexAddr t x y) : softUpon P w (Fact.is u) ((execOp ρ o).run P w) := by
  have e : (execOp ρ o).run P w = .ok (.value u) w := by
    simp [execOp, ho, hx, hy, hr]
  rw [e]
  exact ⟨rfl, Below.refl _ _⟩
end Go.Proofs.YtbjaieopjkbijaaDoor
