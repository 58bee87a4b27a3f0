/-
  Layer 14: New, Many, Get, Del of the developers' index: what they answer, of any index. Assumed: that the index lies in memory.
-/
import Derived.Test.YtcoedohfggeaiaaEnC
import Derived.Carry
import Derived.BigRegion

namespace Go.Proofs.Ytcoedohfggeaiaa
open Go.RowKit Go.Maps En
set_option maxRecDepth 100000

section
variable {R : List Nat} {w : World} {x b : Nat} {p : Int → Nat} {m : List E}
/-- what Get gives: the entry, or a zero one -/
def got14 (m : List E) (i : Int) : E := (En.get m i).getD E.zero

end
end Go.Proofs.Ytcoedohfggeaiaa
