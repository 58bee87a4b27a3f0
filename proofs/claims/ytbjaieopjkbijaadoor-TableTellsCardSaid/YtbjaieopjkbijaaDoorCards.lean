/-
  DERIVED. GIVEN WITH THE SEED: THE CARDS: each row of YtbjaieopjkbijaaDoorRows.lean that lists a variable, with what it lists TIED to the program's text (the seventh form; the later family's looks); each row that meets fmt, with fmt's text TOLD by the authors' own Lean function (tested against real Go, not proved from fmt's source: count such statements apart). THE CARD IS WHAT COUNTS. Prove the row's statement (the work); the ties are given (YtbjaieopjkbijaaDoorTie.lean); close each card by the builder's one call (the guide's Derived/Test/ToyasCard.lean, 'card_holds'). Laid BY PROGRAM, IN A SANDBOX (cutbox-door.mjs). By AI agents, Wed Nov 11 2026. No macro, syntax, notation, axiom, sorry.
-/
import Derived.Test.YtbjaieopjkbijaaDoorRows
import GoSem.ClaimSeven
namespace Go.Proofs.YtbjaieopjkbijaaDoor
namespace Rows

/-- THE TIED CARD OF 'turntablelaw09.TableTells'. -/
def tableTellsCard : Claim7 := { stood := { row := tableTellsRow, standIns := [], harness := (true, "fabf7d68f8f972ec29bb03495d7e5899be5cec432c9da9d27fcb3ac24beb96d6"), looks := false }, kinds := [], alts := [], laidByText := true, laidKinds := [.data], laidTests := true, laidLooks := .later }
def TableTellsCardSaid : Prop := Claim7.holds Tryd.pinned (.plain (OpenSpec.ofChange tableTellsSpec)) tableTellsCard

/-- THE TIED CARD OF 'turntablelaw09.TableBack'. -/
def tableBackCard : Claim7 := { stood := { row := tableBackRow, standIns := [], harness := (true, "fabf7d68f8f972ec29bb03495d7e5899be5cec432c9da9d27fcb3ac24beb96d6"), looks := false }, kinds := [], alts := [], laidByText := true, laidKinds := [.data], laidTests := true, laidLooks := .later }
def TableBackCardSaid : Prop := Claim7.holds Tryd.pinned (.plain (OpenSpec.ofChange tableBackSpec)) tableBackCard

/-- THE TIED CARD OF 'turntablelaw09.TableAll'. -/
def tableAllCard : Claim7 := { stood := { row := tableAllRow, standIns := [], harness := (true, "fabf7d68f8f972ec29bb03495d7e5899be5cec432c9da9d27fcb3ac24beb96d6"), looks := false }, kinds := [], alts := [], laidByText := true, laidKinds := [.data], laidTests := true, laidLooks := .later }
def TableAllCardSaid : Prop := Claim7.holds Tryd.pinned (.plain (OpenSpec.ofChange tableAllSpec)) tableAllCard

/-- THE TIED CARD OF 'turntablelaw09.TableBursts'. -/
def tableBurstsCard : Claim7 := { stood := { row := tableBurstsRow, standIns := [], harness := (true, "fabf7d68f8f972ec29bb03495d7e5899be5cec432c9da9d27fcb3ac24beb96d6"), looks := false }, kinds := [], alts := [], laidByText := true, laidKinds := [.data], laidTests := true, laidLooks := .later }
def TableBurstsCardSaid : Prop := Claim7.holds Tryd.pinned (.plain (OpenSpec.ofChange tableBurstsSpec)) tableBurstsCard

/-- THE TIED CARD OF 'turntablelaw09.TableRefuses'. -/
def tableRefusesCard : Claim7 := { stood := { row := tableRefusesRow, standIns := [], harness := (true, "fabf7d68f8f972ec29bb03495d7e5899be5cec432c9da9d27fcb3ac24beb96d6"), looks := false }, kinds := [], alts := [], laidByText := true, laidKinds := [.data], laidTests := true, laidLooks := .later }
def TableRefusesCardSaid : Prop := Claim7.holds Tryd.pinned (.plain (OpenSpec.ofChange tableRefusesSpec)) tableRefusesCard

/-- THE TIED CARD OF 'turntablelaw09.TableGens'. -/
def tableGensCard : Claim7 := { stood := { row := tableGensRow, standIns := [], harness := (true, "fabf7d68f8f972ec29bb03495d7e5899be5cec432c9da9d27fcb3ac24beb96d6"), looks := false }, kinds := [], alts := [], laidByText := true, laidKinds := [.data], laidTests := true, laidLooks := .later }
def TableGensCardSaid : Prop := Claim7.holds Tryd.pinned (.plain (OpenSpec.ofChange tableGensSpec)) tableGensCard

/-- THE TIED CARD OF 'turntablelaw09.TableChanges'. -/
def tableChangesCard : Claim7 := { stood := { row := tableChangesRow, standIns := [], harness := (true, "fabf7d68f8f972ec29bb03495d7e5899be5cec432c9da9d27fcb3ac24beb96d6"), looks := false }, kinds := [], alts := [], laidByText := true, laidKinds := [.data], laidTests := true, laidLooks := .later }
def TableChangesCardSaid : Prop := Claim7.holds Tryd.pinned (.plain (OpenSpec.ofChange tableChangesSpec)) tableChangesCard

/-- THE SECOND FORM's CARD OF 'turntablelaw09.TableTells'. -/
def tableTellsUptoCard : Claim7 := { stood := { row := tableTellsUptoRow, standIns := [], harness := (true, "fabf7d68f8f972ec29bb03495d7e5899be5cec432c9da9d27fcb3ac24beb96d6"), looks := false }, kinds := [], alts := [], laidByText := true, laidKinds := [.data], laidTests := true, laidLooks := .later }
def TableTellsUptoCardSaid : Prop := Claim7.holds Tryd.pinned (.plain (OpenSpec.upto tableTellsSpec)) tableTellsUptoCard

/-- THE SECOND FORM's CARD OF 'turntablelaw09.TableBack'. -/
def tableBackUptoCard : Claim7 := { stood := { row := tableBackUptoRow, standIns := [], harness := (true, "fabf7d68f8f972ec29bb03495d7e5899be5cec432c9da9d27fcb3ac24beb96d6"), looks := false }, kinds := [], alts := [], laidByText := true, laidKinds := [.data], laidTests := true, laidLooks := .later }
def TableBackUptoCardSaid : Prop := Claim7.holds Tryd.pinned (.plain (OpenSpec.upto tableBackSpec)) tableBackUptoCard

/-- THE SECOND FORM's CARD OF 'turntablelaw09.TableAll'. -/
def tableAllUptoCard : Claim7 := { stood := { row := tableAllUptoRow, standIns := [], harness := (true, "fabf7d68f8f972ec29bb03495d7e5899be5cec432c9da9d27fcb3ac24beb96d6"), looks := false }, kinds := [], alts := [], laidByText := true, laidKinds := [.data], laidTests := true, laidLooks := .later }
def TableAllUptoCardSaid : Prop := Claim7.holds Tryd.pinned (.plain (OpenSpec.upto tableAllSpec)) tableAllUptoCard

/-- THE SECOND FORM's CARD OF 'turntablelaw09.TableBursts'. -/
def tableBurstsUptoCard : Claim7 := { stood := { row := tableBurstsUptoRow, standIns := [], harness := (true, "fabf7d68f8f972ec29bb03495d7e5899be5cec432c9da9d27fcb3ac24beb96d6"), looks := false }, kinds := [], alts := [], laidByText := true, laidKinds := [.data], laidTests := true, laidLooks := .later }
def TableBurstsUptoCardSaid : Prop := Claim7.holds Tryd.pinned (.plain (OpenSpec.upto tableBurstsSpec)) tableBurstsUptoCard

/-- THE SECOND FORM's CARD OF 'turntablelaw09.TableRefuses'. -/
def tableRefusesUptoCard : Claim7 := { stood := { row := tableRefusesUptoRow, standIns := [], harness := (true, "fabf7d68f8f972ec29bb03495d7e5899be5cec432c9da9d27fcb3ac24beb96d6"), looks := false }, kinds := [], alts := [], laidByText := true, laidKinds := [.data], laidTests := true, laidLooks := .later }
def TableRefusesUptoCardSaid : Prop := Claim7.holds Tryd.pinned (.plain (OpenSpec.upto tableRefusesSpec)) tableRefusesUptoCard

/-- THE SECOND FORM's CARD OF 'turntablelaw09.TableGens'. -/
def tableGensUptoCard : Claim7 := { stood := { row := tableGensUptoRow, standIns := [], harness := (true, "fabf7d68f8f972ec29bb03495d7e5899be5cec432c9da9d27fcb3ac24beb96d6"), looks := false }, kinds := [], alts := [], laidByText := true, laidKinds := [.data], laidTests := true, laidLooks := .later }
def TableGensUptoCardSaid : Prop := Claim7.holds Tryd.pinned (.plain (OpenSpec.upto tableGensSpec)) tableGensUptoCard

/-- THE SECOND FORM's CARD OF 'turntablelaw09.TableChanges'. -/
def tableChangesUptoCard : Claim7 := { stood := { row := tableChangesUptoRow, standIns := [], harness := (true, "fabf7d68f8f972ec29bb03495d7e5899be5cec432c9da9d27fcb3ac24beb96d6"), looks := false }, kinds := [], alts := [], laidByText := true, laidKinds := [.data], laidTests := true, laidLooks := .later }
def TableChangesUptoCardSaid : Prop := Claim7.holds Tryd.pinned (.plain (OpenSpec.upto tableChangesSpec)) tableChangesUptoCard
end Rows
end Go.Proofs.YtbjaieopjkbijaaDoor
