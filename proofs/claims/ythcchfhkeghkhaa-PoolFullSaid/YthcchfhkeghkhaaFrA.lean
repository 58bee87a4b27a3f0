/-
  Layer 12: frame.fits, Size and Put, and the document's Size and Put: what they answer, for every argument. Assumed: that the bytes lie in memory.
-/
import Derived.Test.YthcchfhkeghkhaaSpanA
import Derived.Test.YthcchfhkeghkhaaRef1
import Derived.Test.YthcchfhkeghkhaaGen
import Derived.Test.YthcchfhkeghkhaaMath12

namespace Go.Proofs.Ythcchfhkeghkhaa
open Go.RowKit
set_option maxRecDepth 100000

theorem made_nil {w w' : World} (h : Below w.heap.size w w') : Made w [] (.returned (.slice none 0 0)) w' := ⟨_, rfl, World.ownsRow_nil _ _ _ _, h⟩

end Go.Proofs.Ythcchfhkeghkhaa
