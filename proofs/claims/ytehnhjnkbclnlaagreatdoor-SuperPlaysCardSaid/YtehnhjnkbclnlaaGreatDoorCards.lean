/-
  DERIVED. GIVEN WITH THE SEED: THE CARDS: each row of YtehnhjnkbclnlaaGreatDoorRows.lean that lists a variable, with what it lists TIED to the program's text (the seventh form; the later family's looks); each row that meets fmt, with fmt's text TOLD by the authors' own Lean function (tested against real Go, not proved from fmt's source: count such statements apart). THE CARD IS WHAT COUNTS. Prove the row's statement (the work); the ties are given (YtehnhjnkbclnlaaGreatDoorTie.lean); close each card by the builder's one call (the guide's Derived/Test/ToyasCard.lean, 'card_holds'). Laid BY PROGRAM, IN A SANDBOX (cutbox-door.mjs). By AI agents, Wed Nov 11 2026. No macro, syntax, notation, axiom, sorry.
-/
import Derived.Test.YtehnhjnkbclnlaaGreatDoorRows
import GoSem.ClaimSeven
namespace Go.Proofs.YtehnhjnkbclnlaaGreatDoor
namespace Rows

/-- THE TIED CARD OF 'turntablelaw10.SuperPlays'. -/
def superPlaysCard : Claim7 := { stood := { row := superPlaysRow, standIns := [], harness := (true, "5960f74efd68a878cd4f2857bf078cd8cd0ae3ac4d0a0de3abddd680f4e02404"), looks := false }, kinds := [], alts := [], laidByText := true, laidKinds := [.data], laidTests := true, laidLooks := .later }
def SuperPlaysCardSaid : Prop := Claim7.holds Tryz.pinned (.plain (OpenSpec.ofChange superPlaysSpec)) superPlaysCard

/-- THE SECOND FORM's CARD OF 'turntablelaw10.SuperPlays'. -/
def superPlaysUptoCard : Claim7 := { stood := { row := superPlaysUptoRow, standIns := [], harness := (true, "5960f74efd68a878cd4f2857bf078cd8cd0ae3ac4d0a0de3abddd680f4e02404"), looks := false }, kinds := [], alts := [], laidByText := true, laidKinds := [.data], laidTests := true, laidLooks := .later }
def SuperPlaysUptoCardSaid : Prop := Claim7.holds Tryz.pinned (.plain (OpenSpec.upto superPlaysSpec)) superPlaysUptoCard
end Rows
end Go.Proofs.YtehnhjnkbclnlaaGreatDoor
