/-
  Layer 8, the document's answer (turntableref08): what its Right, Room, Put and Get answer, of any numbers and bytes. Assumed: that the bytes lie in memory.
-/
import Derived.Test.YtgicjdlpkphfnaaCel

namespace Go.Proofs.Ytgicjdlpkphfnaa
open Go.RowKit
set_option maxRecDepth 100000

/-- what the document's Get hands back: bytes of its own, or none -/
def GivesR (w : World) (ok : Bool) (b : List UInt8) (e : Ending) (w' : World) : Prop :=
  Below w.heap.size w w' ∧ ((ok = true ∧ ∃ v, e = .returned (.tuple #[v, .bool true]) ∧ w'.ownsRow w.heap.size 5 1 v b.length (cells b)) ∨ (ok = false ∧ e = .returned (.tuple #[.slice none 0 0, .bool false])))

end Go.Proofs.Ytgicjdlpkphfnaa
