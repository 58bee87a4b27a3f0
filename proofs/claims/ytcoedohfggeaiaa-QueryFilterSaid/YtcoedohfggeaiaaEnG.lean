/-
  Layer 14: how entries are compared (entry.byTick, byPlace), what fits (isAny, In's): what these answer, of entries in blocks of their own, and that memory only grows by it; the library's sorting of pointers to them. Nothing is assumed but that there are at most a million.
-/
import Derived.Test.YtcoedohfggeaiaaEnD
import Derived.BigQuiet

namespace Go.Proofs.Ytcoedohfggeaiaa
open Go.RowKit Go.Maps En
set_option maxRecDepth 100000

def orN2 (a b : Int) : Int := if a = 0 then b else a
def cmpT (y z : E) : Int := orN2 (Plain.cmpN y.tick z.tick) (Plain.cmpN y.id z.id)
def cmpQ (y z : E) : Int := orN2 (Plain.cmpN y.pl z.pl) (Plain.cmpN y.id z.id)
/-- two numbers in a block of their own -/
def Fact.two14 (a b : Int) : Fact := ⟨fun v w => ∃ g, v = .slice (some ⟨g, 0, none⟩) 2 2 ∧ Blk w g #[.int .i64 a, .int .i64 b] 3, fun _ _ _ ⟨g, e, h⟩ hb => ⟨g, e, (hb.block g h.lt).trans h⟩⟩
end Go.Proofs.Ytcoedohfggeaiaa

