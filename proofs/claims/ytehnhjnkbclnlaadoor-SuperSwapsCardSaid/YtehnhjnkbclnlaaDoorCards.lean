/-
  DERIVED. GIVEN WITH THE SEED: THE CARDS: each row of YtehnhjnkbclnlaaDoorRows.lean that lists a variable, with what it lists TIED to the program's text (the seventh form; the later family's looks); each row that meets fmt, with fmt's text TOLD by the authors' own Lean function (tested against real Go, not proved from fmt's source: count such statements apart). THE CARD IS WHAT COUNTS. Prove the row's statement (the work); the ties are given (YtehnhjnkbclnlaaDoorTie.lean); close each card by the builder's one call (the guide's Derived/Test/ToyasCard.lean, 'card_holds'). Laid BY PROGRAM, IN A SANDBOX (cutbox-door.mjs). By AI agents, Wed Nov 11 2026. No macro, syntax, notation, axiom, sorry.
-/
import Derived.Test.YtehnhjnkbclnlaaDoorRows
import GoSem.ClaimSeven
namespace Go.Proofs.YtehnhjnkbclnlaaDoor
namespace Rows

/-- THE TIED CARD OF 'turntablelaw10.SuperSwaps'. -/
def superSwapsCard : Claim7 := { stood := { row := superSwapsRow, standIns := [], harness := (true, "017f03c0dd6ec62c26c5aeacc0672ba74f6ec1cd701bdb35a28ea9a36cf5fae1"), looks := false }, kinds := [], alts := [], laidByText := true, laidKinds := [.data], laidTests := true, laidLooks := .later }
def SuperSwapsCardSaid : Prop := Claim7.holds Tryd.pinned (.plain (OpenSpec.ofChange superSwapsSpec)) superSwapsCard

/-- THE TIED CARD OF 'turntablelaw10.SuperBarrier'. -/
def superBarrierCard : Claim7 := { stood := { row := superBarrierRow, standIns := [], harness := (true, "017f03c0dd6ec62c26c5aeacc0672ba74f6ec1cd701bdb35a28ea9a36cf5fae1"), looks := false }, kinds := [], alts := [], laidByText := true, laidKinds := [.data], laidTests := true, laidLooks := .later }
def SuperBarrierCardSaid : Prop := Claim7.holds Tryd.pinned (.plain (OpenSpec.ofChange superBarrierSpec)) superBarrierCard

/-- THE TIED CARD OF 'turntablelaw10.SuperGreater'. -/
def superGreaterCard : Claim7 := { stood := { row := superGreaterRow, standIns := [], harness := (true, "017f03c0dd6ec62c26c5aeacc0672ba74f6ec1cd701bdb35a28ea9a36cf5fae1"), looks := false }, kinds := [], alts := [], laidByText := true, laidKinds := [.data], laidTests := true, laidLooks := .later }
def SuperGreaterCardSaid : Prop := Claim7.holds Tryd.pinned (.plain (OpenSpec.ofChange superGreaterSpec)) superGreaterCard

/-- THE TIED CARD OF 'turntablelaw10.SuperNone'. -/
def superNoneCard : Claim7 := { stood := { row := superNoneRow, standIns := [], harness := (true, "017f03c0dd6ec62c26c5aeacc0672ba74f6ec1cd701bdb35a28ea9a36cf5fae1"), looks := false }, kinds := [], alts := [], laidByText := true, laidKinds := [.data], laidTests := true, laidLooks := .later }
def SuperNoneCardSaid : Prop := Claim7.holds Tryd.pinned (.plain (OpenSpec.ofChange superNoneSpec)) superNoneCard

/-- THE SECOND FORM's CARD OF 'turntablelaw10.SuperSwaps'. -/
def superSwapsUptoCard : Claim7 := { stood := { row := superSwapsUptoRow, standIns := [], harness := (true, "017f03c0dd6ec62c26c5aeacc0672ba74f6ec1cd701bdb35a28ea9a36cf5fae1"), looks := false }, kinds := [], alts := [], laidByText := true, laidKinds := [.data], laidTests := true, laidLooks := .later }
def SuperSwapsUptoCardSaid : Prop := Claim7.holds Tryd.pinned (.plain (OpenSpec.upto superSwapsSpec)) superSwapsUptoCard

/-- THE SECOND FORM's CARD OF 'turntablelaw10.SuperBarrier'. -/
def superBarrierUptoCard : Claim7 := { stood := { row := superBarrierUptoRow, standIns := [], harness := (true, "017f03c0dd6ec62c26c5aeacc0672ba74f6ec1cd701bdb35a28ea9a36cf5fae1"), looks := false }, kinds := [], alts := [], laidByText := true, laidKinds := [.data], laidTests := true, laidLooks := .later }
def SuperBarrierUptoCardSaid : Prop := Claim7.holds Tryd.pinned (.plain (OpenSpec.upto superBarrierSpec)) superBarrierUptoCard

/-- THE SECOND FORM's CARD OF 'turntablelaw10.SuperGreater'. -/
def superGreaterUptoCard : Claim7 := { stood := { row := superGreaterUptoRow, standIns := [], harness := (true, "017f03c0dd6ec62c26c5aeacc0672ba74f6ec1cd701bdb35a28ea9a36cf5fae1"), looks := false }, kinds := [], alts := [], laidByText := true, laidKinds := [.data], laidTests := true, laidLooks := .later }
def SuperGreaterUptoCardSaid : Prop := Claim7.holds Tryd.pinned (.plain (OpenSpec.upto superGreaterSpec)) superGreaterUptoCard

/-- THE SECOND FORM's CARD OF 'turntablelaw10.SuperNone'. -/
def superNoneUptoCard : Claim7 := { stood := { row := superNoneUptoRow, standIns := [], harness := (true, "017f03c0dd6ec62c26c5aeacc0672ba74f6ec1cd701bdb35a28ea9a36cf5fae1"), looks := false }, kinds := [], alts := [], laidByText := true, laidKinds := [.data], laidTests := true, laidLooks := .later }
def SuperNoneUptoCardSaid : Prop := Claim7.holds Tryd.pinned (.plain (OpenSpec.upto superNoneSpec)) superNoneUptoCard
end Rows
end Go.Proofs.YtehnhjnkbclnlaaDoor
