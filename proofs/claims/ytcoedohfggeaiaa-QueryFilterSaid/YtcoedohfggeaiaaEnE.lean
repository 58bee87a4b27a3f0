/-
  Layer 14: Pin, Class, Move of the developers' index: what they answer, of any index. Assumed: that the index lies in memory.
-/
import Derived.Test.YtcoedohfggeaiaaEnD

namespace Go.Proofs.Ytcoedohfggeaiaa
open Go.RowKit Go.Maps En
set_option maxRecDepth 100000

section
variable {R : List Nat} {w : World} {x b : Nat} {p : Int → Nat} {m : List E}
theorem mine_upd (i : Int) (f : E → E) (hf : ∀ x, (f x).id = x.id) : ∀ k ∈ mine x b p (En.upd m i f), k ∈ mine x b p m := fun k hk => by
  rcases mem_mine.1 hk with h6 | h6 | ⟨e, he, e6⟩
  · exact mem_mine.2 (.inl h6)
  · exact mem_mine.2 (.inr (.inl h6))
  · obtain ⟨e0, h0, rfl⟩ := List.mem_map.1 he
    refine mem_mine.2 (.inr (.inr ⟨e0, h0, ?_⟩))
    have e7 : (if e0.id = i then f e0 else e0).id = e0.id := by
      split
      · exact hf e0
      · rfl
    rw [← e6]
    exact (congrArg p e7).symm

/-- what Pin, Class and Move do -/
def pinU (is : Bool) (y : E) : E := { y with pin := is }
def classU (cl : Int) (y : E) : E := { y with cl := cl }
def moveU (sq pl sz : Int) (y : E) : E := { y with seq := sq, pl := pl, sz := sz }

end
end Go.Proofs.Ytcoedohfggeaiaa
