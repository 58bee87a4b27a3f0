/-
  TbO: Layer 9: places, at the question of Order and at that of Free; Free: what they answer, of any table. Assumed: that the extents lie in memory.
  TbS: Layer 9: Order's comparing: what it answers, of any two places of a table that lies in memory. Nothing else is assumed.
-/
import Derived.Test.YtgicjdlpkphfnaaTabU
import Derived.BigQuiet

namespace Go.Proofs.Ytgicjdlpkphfnaa
open Go.RowKit
set_option maxRecDepth 100000

theorem infoInt : (Try.prog.info? 3).map (fun i => (i.zero, i.size, i.bytes)) = some (some (.int .i64 0), 1, 8) := by kernel_rfl
theorem own_base {w : World} {B B' size n : Nat} {e : TypeId} {v : Value} {xs : List Value} (h : w.ownsRow B e size v n xs) (hb : B' ≤ B) : w.ownsRow B' e size v n xs := by
  refine ⟨h.1, ?_⟩
  rcases h.2 with h | ⟨g, cap, cur, h1, h2, h3⟩
  · exact .inl h
  · exact .inr ⟨g, cap, cur, h1, Nat.le_trans hb h2, h3⟩
/-- places that were handed back: memory of one's own -/
def MadeI (w : World) (l : List Nat) (e : Ending) (w' : World) : Prop := ∃ v, e = .returned v ∧ w'.ownsRow w.heap.size 3 1 v l.length (nums9 l) ∧ Below w.heap.size w w'

end Go.Proofs.Ytgicjdlpkphfnaa

namespace Go.Proofs.Ytgicjdlpkphfnaa
open Go.RowKit
set_option maxRecDepth 100000

def cmpQ (a b : Int) : Int := if a < b then -1 else if b < a then 1 else 0
theorem at_num {w : World} {A : Option Addr} {l : List Nat} (h : Lies w A (nums9 l)) (k : Nat) (hk : k < l.length) : ∃ ad, A = some ad ∧ ad.block < w.heap.size ∧ ∀ u, Below w.heap.size w u → u.cell? (ad.add k) = some (.int .i64 (l[k] : Int)) := by
  obtain ⟨ad, rfl, hb, hc⟩ := h.at_ (k := k) (by unfold nums9; rw [List.length_map]; exact hk)
  refine ⟨ad, rfl, hb, fun u hu => (hu.cell (by rw [addr_block]; exact hb)).trans (hc.trans ?_)⟩
  simp [nums9]
theorem own_fresh {w : World} {B n size c : Nat} {e : TypeId} {A : Option Addr} {xs : List Value} (h : w.ownsRow B e size (.slice A n c) n xs) : ∀ ad, A = some ad → B ≤ ad.block := fun ad ha => by
  rcases h.2 with ⟨h1, -⟩ | ⟨g, cap, cur, h1, h2, -⟩
  · injection h1 with h1; rw [ha] at h1; cases h1
  · injection h1 with h1
    rw [ha] at h1
    injection h1 with h1
    subst h1
    exact h2
end Go.Proofs.Ytgicjdlpkphfnaa
