/-
  BatAs: Layer 4: errors.As of a batch.fault, at a target of the type *batch.fault: it finds the fault itself. Assumed: errors.errorType is what its own text lays (its one cell).
  BatEr: Layer 4: errors.Is of a batch.fault, and batch.errno: which of api's errors a fault wraps. Nothing is assumed.
-/
import Derived.Test.YthcchfhkeghkhaaSpAs
import Derived.Test.YthcchfhkeghkhaaSpanR
import Derived.Test.YthcchfhkeghkhaaVint

namespace Go.Proofs.Ythcchfhkeghkhaa
open Go.RowKit Go.Extern.Stop Go.Stop Go.Extern
set_option maxRecDepth 100000

end Go.Proofs.Ythcchfhkeghkhaa

namespace Go.Proofs.Ythcchfhkeghkhaa
open Go.RowKit Go.Extern.Stop Go.Stop Go.Extern
set_option maxRecDepth 100000

end Go.Proofs.Ythcchfhkeghkhaa
