/-
  BatAs: Layer 4: errors.As of a batch.fault, at a target of the type *batch.fault: it finds the fault itself. Assumed: errors.errorType is what its own text lays (its one cell).
  BatEr: Layer 4: errors.Is of a batch.fault, and batch.errno: which of api's errors a fault wraps. Nothing is assumed.
-/
import Derived.Test.YtdfeccmcefcpbaaDoorSpAs
import Derived.Test.YtdfeccmcefcpbaaDoorSpanR
import Derived.Test.YtdfeccmcefcpbaaDoorVint

namespace Go.Proofs.YtdfeccmcefcpbaaDoor
open Go.RowKit Go.Extern.Stop Go.Stop Go.Extern
set_option maxRecDepth 100000

end Go.Proofs.YtdfeccmcefcpbaaDoor

namespace Go.Proofs.YtdfeccmcefcpbaaDoor
open Go.RowKit Go.Extern.Stop Go.Stop Go.Extern
set_option maxRecDepth 100000

end Go.Proofs.YtdfeccmcefcpbaaDoor
