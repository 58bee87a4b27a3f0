/-
  Layer 15: what the laws want of package query: its three functions answer as the document says, and memory only grows; rows of numbers in open orders. Nothing is assumed here.
-/
import Derived.Test.YtcoedohfggeaiaaQyC
import Derived.Test.YtcoedohfggeaiaaQyD
import Derived.Test.YtcoedohfggeaiaaOpQ

namespace Go.Proofs.Ytcoedohfggeaiaa
open Go.RowKit Go.Maps En Qy
set_option maxRecDepth 100000

structure QueryOk : Prop where
  fits : ∀ (e : E) (A : Option Addr) (n c : Nat) (a : Qy.A) (w : World), e.sv.length = n → Svs w e.sv A c →
    Calls Try.prog 13 #[.agg (enA e (.slice A n c)), .agg (askA a)] w fun x w' => x = .returned (.bool (fits e a)) ∧ Below w.heap.size w w'
  run : ∀ (A : Option Addr) (n cap : Nat) (ts : List Ent) (a : Qy.A) (w : World), Ents w A n cap ts →
    Calls Try.prog 16 #[.slice A n cap, .agg (askA a)] w fun e w' => ∃ v, e = .returned v ∧ w'.ownsRow w.heap.size 2 1 v (run (ts.map Ent.e) a).length (nums (run (ts.map Ent.e) a)) ∧ Below w.heap.size w w'
  next : ∀ (A : Option Addr) (n cap : Nat) (ts : List Ent) (a : Qy.A) (w : World), Ents w A n cap ts →
    Calls Try.prog 11 #[.slice A n cap, .agg (askA a)] w fun e w' => e = .returned (.tuple #[.agg (askA (next (ts.map Ent.e) a)), .bool (more (ts.map Ent.e) a)]) ∧ Below w.heap.size w w'

/-- numbers that lie in memory -/
def Fact.num15 (ids : List Int) : Fact := ⟨fun v w => ∃ A c, v = .slice A ids.length c ∧ ids.length ≤ c ∧ c ≤ maxLen ∧ Lies w A (nums ids), fun _ _ _ ⟨A, c, e, h1, h2, h⟩ hb => ⟨A, c, e, h1, h2, h.below hb⟩⟩
theorem num15_of {w : World} {L : List Int} : ∀ (e : Ending) (w' : World), (∃ v, e = .returned v ∧ w'.ownsRow w.heap.size 2 1 v L.length (nums L) ∧ Below w.heap.size w w') → ∃ v, e = .returned v ∧ (Fact.num15 L).φ v w' ∧ Below w.heap.size w w' := fun e w' ⟨v, h1, h2, h3⟩ => by
  obtain ⟨A, c, rfl, h4, h5, h6⟩ := row_lies h2
  exact ⟨_, h1, ⟨A, c, rfl, h4, h5, h6⟩, h3⟩
theorem soft_two15 {w : World} {ρ : Operand → Value} {o : Oper} {a b : Int} (hc : ∀ v, ρ (.const v) = v) (ho : o.op = .buildSlice 38 2 #[(0, .const (.int .i64 a)), (1, .const (.int .i64 b))]) : softUpon Try.prog w (Fact.num15 [a, b]) ((execOp ρ o).run Try.prog w) := by
  have e : (execOp ρ o).run Try.prog w = .ok (.value (.slice (some ⟨w.heap.size, 0, none⟩) 2 2)) (w.alloc (.cells #[.int .i64 a, .int .i64 b] 2)) := by
    simp only [execOp, ho]
    go_simp
  rw [e]
  exact ⟨⟨_, _, rfl, Nat.le_refl _, by unfold maxLen; simp, Lies.new w #[.int .i64 a, .int .i64 b] _⟩, (Below.refl _ _).alloc (Nat.le_refl _) _⟩
theorem soft_one15 {w : World} {ρ : Operand → Value} {o : Oper} {a : Int} (hc : ∀ v, ρ (.const v) = v) (ho : o.op = .buildSlice 38 1 #[(0, .const (.int .i64 a))]) : softUpon Try.prog w (Fact.num15 [a]) ((execOp ρ o).run Try.prog w) := by
  have e : (execOp ρ o).run Try.prog w = .ok (.value (.slice (some ⟨w.heap.size, 0, none⟩) 1 1)) (w.alloc (.cells #[.int .i64 a] 2)) := by
    simp only [execOp, ho]
    go_simp
  rw [e]
  exact ⟨⟨_, _, rfl, Nat.le_refl _, by unfold maxLen; simp, Lies.new w #[.int .i64 a] _⟩, (Below.refl _ _).alloc (Nat.le_refl _) _⟩
theorem soft_len15 {w : World} {ρ : Operand → Value} {o : Oper} {x : Operand} {L : List Int} {n : Int} (hx : (Fact.num15 L).φ (ρ x) w) (hn : (L.length : Int) = n) (ho : o.op = .call { callee := .builtin .len, args := #[x], argTypes := #[38] }) : softUpon Try.prog w (Fact.is (.int .i64 n)) ((execOp ρ o).run Try.prog w) := by
  obtain ⟨A, c, e, -⟩ := hx
  subst hn
  have e : (execOp ρ o).run Try.prog w = .ok (.value (.int .i64 (L.length : Int))) w := by
    simp only [execOp, ho]
    simp [e, go_sem]
  rw [e]
  exact ⟨rfl, Below.refl _ _⟩
theorem soft_same15 {w : World} {ρ : Operand → Value} {o : Oper} {x y : Operand} {ats : Array TypeId} {a b : List Int} {D : Bool}
    (hf : ∀ f, ρ (.func f) = .func (.func f) #[] #[]) (hx : (Fact.num15 a).φ (ρ x) w) (hy : (Fact.num15 b).φ (ρ y) w) (hD : decide (a = b) = D) (ho : o.op = .call { callee := .value (.func 15), args := #[x, y], argTypes := ats }) : softUpon Try.prog w (Fact.is (.bool D)) ((execOp ρ o).run Try.prog w) := by
  obtain ⟨A, c, hx, h1, h2, h3⟩ := hx
  obtain ⟨B, d, hy, k1, k2, k3⟩ := hy
  subst hD
  exact soft_call2 hf hx hy (sameIds_any A B _ _ c d a b w rfl rfl h1 k1 h2 k2 h3 k3) ho (by kernel_rfl) below_is
theorem eql_q64 (W : World) (a b : Int) (r : Bool) (h : (a == b) = r) : (binOp .eql 2 (.int .i64 a) (.int .i64 b)).run Try.prog W = .ok (.bool r) W := by
  subst h; go_simp
theorem eql_qint (W : World) (a b : Int) (r : Bool) (h : (a == b) = r) : (binOp .eql 3 (.int .i64 a) (.int .i64 b)).run Try.prog W = .ok (.bool r) W := by
  subst h; go_simp
theorem run_loadQl (W : World) (a : Addr) (z : Int) (h : W.cell? a = some (.int .i64 z)) : (Instr.loadAt 2 (.pointer (some a))).run Try.prog W = .ok (.int .i64 z) W := by
  go_simp
theorem eq_ask (W : World) (a : Qy.A) : (binOp .eql 31 (.agg (askA a)) (.agg (askA a))).run Try.prog W = .ok (.bool true) W := by
  unfold askA
  rw [run_eql_struct]
  go_simp
theorem soft_eqAsk {w : World} {ρ : Operand → Value} {o : Oper} {x y : Operand} {xs : Array Value} {a : Qy.A} {yt : TypeId} (hxs : askA a = xs) (hx : ρ x = .agg xs) (hy : ρ y = .agg xs) (ho : o.op = .binOp .eql 31 x y yt) : softUpon Try.prog w (Fact.is (.bool true)) ((execOp ρ o).run Try.prog w) := by
  subst hxs
  have e : (execOp ρ o).run Try.prog w = .ok (.value (.bool true)) w := by
    have hg := run_eqGuard_agg (P := Try.prog) w .eql 31 x y (askA a) (askA a) (by kernel_rfl)
    simp [execOp, ho, hx, hy, hg, eq_ask w a]
  rw [e]
  exact ⟨rfl, Below.refl _ _⟩
/-- a row that was just made -/
theorem Ents.new (w : World) (ts : List Ent) (h3 : ts.length ≤ 1000) (hs : ∀ t ∈ ts, Svs w t.e.sv t.A t.cap) : Ents (w.alloc (.cells (flatEn ts).toArray 29)) (some ⟨w.heap.size, 0, none⟩) ts.length ts.length ts :=
  ⟨rfl, h3, Nat.le_refl _, by unfold maxLen; omega, by simpa using Lies.new w (flatEn ts).toArray 29, fun t ht => (hs t ht).below ((Below.refl _ _).alloc (Nat.le_refl _) _)⟩
end Go.Proofs.Ytcoedohfggeaiaa
