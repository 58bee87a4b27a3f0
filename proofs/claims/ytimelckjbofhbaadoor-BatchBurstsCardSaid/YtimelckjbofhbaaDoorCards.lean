/-
  DERIVED. GIVEN WITH THE SEED: THE CARDS: each row of YtimelckjbofhbaaDoorRows.lean that lists a variable, with what it lists TIED to the program's text (the seventh form; the later family's looks); each row that meets fmt, with fmt's text TOLD by the authors' own Lean function (tested against real Go, not proved from fmt's source: count such statements apart). THE CARD IS WHAT COUNTS. Prove the row's statement (the work); the ties are given (YtimelckjbofhbaaDoorTie.lean); close each card by the builder's one call (the guide's Derived/Test/ToyasCard.lean, 'card_holds'). Laid BY PROGRAM, IN A SANDBOX (cutbox-door.mjs). By AI agents, Wed Nov 11 2026. No macro, syntax, notation, axiom, sorry.
-/
import Derived.Test.YtimelckjbofhbaaDoorRows
import GoSem.ClaimSeven
namespace Go.Proofs.YtimelckjbofhbaaDoor
namespace Rows

/-- THE TIED CARD OF 'turntablelaw04.BatchTells'. -/
def batchTellsCard : Claim7 := { stood := { row := batchTellsRow, standIns := [], harness := (true, "c79d2c6a867cf5fc7ae354abf336461601ee427054f0e7aebc31f1c8ed4abb81"), looks := true }, kinds := [], alts := [], laidByText := true, laidKinds := [.handle, .data], laidTests := true, laidLooks := .later }
def BatchTellsCardSaid : Prop := Claim7.holds Tryd.pinned (.plain (OpenSpec.ofChange batchTellsSpec)) batchTellsCard

/-- THE TIED CARD OF 'turntablelaw04.BatchBodies'. -/
def batchBodiesCard : Claim7 := { stood := { row := batchBodiesRow, standIns := [], harness := (true, "c79d2c6a867cf5fc7ae354abf336461601ee427054f0e7aebc31f1c8ed4abb81"), looks := true }, kinds := [], alts := [], laidByText := true, laidKinds := [.handle, .data], laidTests := true, laidLooks := .later }
def BatchBodiesCardSaid : Prop := Claim7.holds Tryd.pinned (.plain (OpenSpec.ofChange batchBodiesSpec)) batchBodiesCard

/-- THE TIED CARD OF 'turntablelaw04.BatchBack'. -/
def batchBackCard : Claim7 := { stood := { row := batchBackRow, standIns := [], harness := (true, "c79d2c6a867cf5fc7ae354abf336461601ee427054f0e7aebc31f1c8ed4abb81"), looks := true }, kinds := [], alts := [], laidByText := true, laidKinds := [.handle, .data], laidTests := true, laidLooks := .later }
def BatchBackCardSaid : Prop := Claim7.holds Tryd.pinned (.plain (OpenSpec.ofChange batchBackSpec)) batchBackCard

/-- THE TIED CARD OF 'turntablelaw04.BatchBursts'. -/
def batchBurstsCard : Claim7 := { stood := { row := batchBurstsRow, standIns := [], harness := (true, "c79d2c6a867cf5fc7ae354abf336461601ee427054f0e7aebc31f1c8ed4abb81"), looks := true }, kinds := [], alts := [], laidByText := true, laidKinds := [.handle, .data], laidTests := true, laidLooks := .later }
def BatchBurstsCardSaid : Prop := Claim7.holds Tryd.pinned (.plain (OpenSpec.ofChange batchBurstsSpec)) batchBurstsCard

/-- THE TIED CARD OF 'turntablelaw04.BatchWrong'. -/
def batchWrongCard : Claim7 := { stood := { row := batchWrongRow, standIns := [], harness := (true, "c79d2c6a867cf5fc7ae354abf336461601ee427054f0e7aebc31f1c8ed4abb81"), looks := true }, kinds := [], alts := [], laidByText := true, laidKinds := [.handle, .data], laidTests := true, laidLooks := .later }
def BatchWrongCardSaid : Prop := Claim7.holds Tryd.pinned (.plain (OpenSpec.ofChange batchWrongSpec)) batchWrongCard

/-- THE TIED CARD OF 'turntablelaw04.BatchUnlike'. -/
def batchUnlikeCard : Claim7 := { stood := { row := batchUnlikeRow, standIns := [], harness := (true, "c79d2c6a867cf5fc7ae354abf336461601ee427054f0e7aebc31f1c8ed4abb81"), looks := true }, kinds := [], alts := [], laidByText := true, laidKinds := [.handle, .data], laidTests := true, laidLooks := .later }
def BatchUnlikeCardSaid : Prop := Claim7.holds Tryd.pinned (.plain (OpenSpec.ofChange batchUnlikeSpec)) batchUnlikeCard

/-- THE SECOND FORM's CARD OF 'turntablelaw04.BatchTells'. -/
def batchTellsUptoCard : Claim7 := { stood := { row := batchTellsUptoRow, standIns := [], harness := (true, "c79d2c6a867cf5fc7ae354abf336461601ee427054f0e7aebc31f1c8ed4abb81"), looks := true }, kinds := [], alts := [], laidByText := true, laidKinds := [.handle, .data], laidTests := true, laidLooks := .later }
def BatchTellsUptoCardSaid : Prop := Claim7.holds Tryd.pinned (.plain (OpenSpec.upto batchTellsSpec)) batchTellsUptoCard

/-- THE SECOND FORM's CARD OF 'turntablelaw04.BatchBodies'. -/
def batchBodiesUptoCard : Claim7 := { stood := { row := batchBodiesUptoRow, standIns := [], harness := (true, "c79d2c6a867cf5fc7ae354abf336461601ee427054f0e7aebc31f1c8ed4abb81"), looks := true }, kinds := [], alts := [], laidByText := true, laidKinds := [.handle, .data], laidTests := true, laidLooks := .later }
def BatchBodiesUptoCardSaid : Prop := Claim7.holds Tryd.pinned (.plain (OpenSpec.upto batchBodiesSpec)) batchBodiesUptoCard

/-- THE SECOND FORM's CARD OF 'turntablelaw04.BatchBack'. -/
def batchBackUptoCard : Claim7 := { stood := { row := batchBackUptoRow, standIns := [], harness := (true, "c79d2c6a867cf5fc7ae354abf336461601ee427054f0e7aebc31f1c8ed4abb81"), looks := true }, kinds := [], alts := [], laidByText := true, laidKinds := [.handle, .data], laidTests := true, laidLooks := .later }
def BatchBackUptoCardSaid : Prop := Claim7.holds Tryd.pinned (.plain (OpenSpec.upto batchBackSpec)) batchBackUptoCard

/-- THE SECOND FORM's CARD OF 'turntablelaw04.BatchBursts'. -/
def batchBurstsUptoCard : Claim7 := { stood := { row := batchBurstsUptoRow, standIns := [], harness := (true, "c79d2c6a867cf5fc7ae354abf336461601ee427054f0e7aebc31f1c8ed4abb81"), looks := true }, kinds := [], alts := [], laidByText := true, laidKinds := [.handle, .data], laidTests := true, laidLooks := .later }
def BatchBurstsUptoCardSaid : Prop := Claim7.holds Tryd.pinned (.plain (OpenSpec.upto batchBurstsSpec)) batchBurstsUptoCard

/-- THE SECOND FORM's CARD OF 'turntablelaw04.BatchWrong'. -/
def batchWrongUptoCard : Claim7 := { stood := { row := batchWrongUptoRow, standIns := [], harness := (true, "c79d2c6a867cf5fc7ae354abf336461601ee427054f0e7aebc31f1c8ed4abb81"), looks := true }, kinds := [], alts := [], laidByText := true, laidKinds := [.handle, .data], laidTests := true, laidLooks := .later }
def BatchWrongUptoCardSaid : Prop := Claim7.holds Tryd.pinned (.plain (OpenSpec.upto batchWrongSpec)) batchWrongUptoCard

/-- THE SECOND FORM's CARD OF 'turntablelaw04.BatchUnlike'. -/
def batchUnlikeUptoCard : Claim7 := { stood := { row := batchUnlikeUptoRow, standIns := [], harness := (true, "c79d2c6a867cf5fc7ae354abf336461601ee427054f0e7aebc31f1c8ed4abb81"), looks := true }, kinds := [], alts := [], laidByText := true, laidKinds := [.handle, .data], laidTests := true, laidLooks := .later }
def BatchUnlikeUptoCardSaid : Prop := Claim7.holds Tryd.pinned (.plain (OpenSpec.upto batchUnlikeSpec)) batchUnlikeUptoCard
end Rows
end Go.Proofs.YtimelckjbofhbaaDoor
