/-
  Stores into blocks and maps as the last operation of a statement whose order is open; what lies outside some blocks; a map trimmed to its size, and kept with its block. Was in DvA (Lat) and Dvs. Nothing is assumed.
-/
import Derived.Test.YthcchfhkeghkhaaGen
import Derived.Maps.OwnSet
import Derived.Maps.RangeWalk
import Derived.Maps.Ext

namespace Go.Proofs.Ythcchfhkeghkhaa
open Go.RowKit Go.Maps
set_option maxRecDepth 100000

theorem late_store {P : Program} {W w' : World} {a : Act} {o : Oper} {x y : Operand} {t : TypeId} {K : Act → World → Prop} {Q : Exit → Act → World → Prop} (ho : o.op = .store t x y) (hr : (Instr.storeAt t (a.eval x) (a.eval y)).run P W = .ok () w') (hK : K (a.put o.dst undef) w') : o.wp P a W K Q := by
  unfold Oper.wp
  simp [execOp, ho, hr, Result.andThen]
  exact hK
theorem late_mapUpdate {P : Program} {W w' : World} {a : Act} {o : Oper} {m x y : Operand} {t : TypeId} {K : Act → World → Prop} {Q : Exit → Act → World → Prop} (ho : o.op = .mapUpdate t m x y) (hr : (Instr.mapUpdate t (a.eval m) (a.eval x) (a.eval y)).run P W = .ok () w') (hK : K (a.put o.dst undef) w') : o.wp P a W K Q := by
  unfold Oper.wp
  simp [execOp, ho, hr, Result.andThen]
  exact hK
theorem soft_lookup {P : Program} {w : World} {ρ : Operand → Value} {o : Oper} {x y : Operand} {t : TypeId} {ok : Bool} {vx vy u : Value} (hx : ρ x = vx) (hy : ρ y = vy) (hr : (Instr.lookup t vx vy ok).run P w = .ok u w) (ho : o.op = .lookup t x y ok) : softUpon P w (Fact.is u) ((execOp ρ o).run P w) := by
  have e : (execOp ρ o).run P w = .ok (.value u) w := by
    simp [execOp, ho, hx, hy, hr]
  rw [e]
  exact ⟨rfl, Below.refl _ _⟩
theorem soft_index {P : Program} {w : World} {ρ : Operand → Value} {o : Oper} {x y : Operand} {t : TypeId} {vx vy u : Value} (hx : ρ x = vx) (hy : ρ y = vy) (hr : (Instr.indexAt t vx vy).run P w = .ok u w) (ho : o.op = .indexAddr t x y) : softUpon P w (Fact.is u) ((execOp ρ o).run P w) := by
  have e : (execOp ρ o).run P w = .ok (.value u) w := by
    simp [execOp, ho, hx, hy, hr]
  rw [e]
  exact ⟨rfl, Below.refl _ _⟩

/-- what is there lies in none of these blocks -/
def Off (S : List Nat) (A : Option Addr) (xs : List Value) : Prop := xs = [] ∨ ∀ ad, A = some ad → ad.block ∉ S
theorem Lies.kept {w w' : World} {A : Option Addr} {xs : List Value} {S : List Nat} (h : Lies w A xs) (ho : Off S A xs) (k : Kept S w w') : Lies w' A xs := by
  rcases h with h | ⟨ad, e, hb, hc⟩
  · exact .inl h
  · rcases ho with h | ho
    · exact .inl h
    · exact .inr ⟨ad, e, Nat.lt_of_lt_of_le hb k.size, fun j u hu => (World.cell?_of_block (by rw [addr_block]; exact k.block _ hb (ho ad e))).trans (hc j u hu)⟩
theorem Off.mono {S S' : List Nat} {A : Option Addr} {xs : List Value} (h : Off S A xs) (hs : ∀ k ∈ S', k ∈ S) : Off S' A xs := h.imp id fun h ad e hm => h ad e (hs _ hm)
theorem Off.of {S : List Nat} {A : Option Addr} {xs : List Value} {w : World} (h : Lies w A xs) (hs : ∀ k ∈ S, w.heap.size ≤ k) : Off S A xs := by
  rcases h with h | ⟨ad, e, hb, hc⟩
  · exact .inl h
  · refine .inr fun ad' e' hm => ?_
    rw [e] at e'
    injection e' with e'
    subst e'
    have := hs _ hm
    omega
theorem ownsMap_trim {H : Type} {P : Program} {k : TypeId} {R : Value → Option (DataW H × List MemPlace)} {w : World} {b m n : Nat} {D : DataW H} (h : w.ownsMap P k R b m D) (hs : Maps.size D ≤ n) : w.ownsMap P k R b n D := by
  obtain ⟨es, clock, hb, F, _, rfl⟩ := h
  have : Maps.size (DataW.map ((es.toList.map (WideElems.rg P k R)).foldr DataW.insert [])) = es.size := by simp [Maps.size, length_sorted]
  exact ⟨es, clock, hb, F, by omega, rfl⟩
theorem ownsMap_block {H : Type} {P : Program} {k : TypeId} {R : Value → Option (DataW H × List MemPlace)} {w w' : World} {b n : Nat} {D : DataW H} (h : w.ownsMap P k R b n D) (e : w'.heap[b]? = w.heap[b]?) : w'.ownsMap P k R b n D := by
  obtain ⟨es, clock, hb, r⟩ := h
  exact ⟨es, clock, e.trans hb, r⟩

end Go.Proofs.Ythcchfhkeghkhaa
