/-
  DERIVED. GIVEN WITH THE SEED: THE CARDS: each row of YtjmjinplihlhcaaDoorRows.lean that lists a variable, with what it lists TIED to the program's text (the seventh form; the later family's looks); each row that meets fmt, with fmt's text TOLD by the authors' own Lean function (tested against real Go, not proved from fmt's source: count such statements apart). THE CARD IS WHAT COUNTS. Prove the row's statement (the work); the ties are given (YtjmjinplihlhcaaDoorTie.lean); close each card by the builder's one call (the guide's Derived/Test/ToyasCard.lean, 'card_holds'). Laid BY PROGRAM, IN A SANDBOX (cutbox-door.mjs). By AI agents, Wed Nov 11 2026. No macro, syntax, notation, axiom, sorry.
-/
import Derived.Test.YtjmjinplihlhcaaDoorRows
import GoSem.ClaimSeven
namespace Go.Proofs.YtjmjinplihlhcaaDoor
namespace Rows

/-- THE TIED CARD OF 'turntablelaw08.CellTells'. -/
def cellTellsCard : Claim7 := { stood := { row := cellTellsRow, standIns := [], harness := (true, "1f1c64e5dd23ddff0898bf7cd58e6db1eb0e43274028f9ba8dac70db2adfbad6"), looks := false }, kinds := [], alts := [], laidByText := true, laidKinds := [.data], laidTests := true, laidLooks := .later }
def CellTellsCardSaid : Prop := Claim7.holds Tryd.pinned (.plain (OpenSpec.ofChange cellTellsSpec)) cellTellsCard

/-- THE TIED CARD OF 'turntablelaw08.CellBack'. -/
def cellBackCard : Claim7 := { stood := { row := cellBackRow, standIns := [], harness := (true, "1f1c64e5dd23ddff0898bf7cd58e6db1eb0e43274028f9ba8dac70db2adfbad6"), looks := false }, kinds := [], alts := [], laidByText := true, laidKinds := [.data], laidTests := true, laidLooks := .later }
def CellBackCardSaid : Prop := Claim7.holds Tryd.pinned (.plain (OpenSpec.ofChange cellBackSpec)) cellBackCard

/-- THE TIED CARD OF 'turntablelaw08.CellOther'. -/
def cellOtherCard : Claim7 := { stood := { row := cellOtherRow, standIns := [], harness := (true, "1f1c64e5dd23ddff0898bf7cd58e6db1eb0e43274028f9ba8dac70db2adfbad6"), looks := false }, kinds := [], alts := [], laidByText := true, laidKinds := [.data], laidTests := true, laidLooks := .later }
def CellOtherCardSaid : Prop := Claim7.holds Tryd.pinned (.plain (OpenSpec.ofChange cellOtherSpec)) cellOtherCard

/-- THE TIED CARD OF 'turntablelaw08.CellBursts'. -/
def cellBurstsCard : Claim7 := { stood := { row := cellBurstsRow, standIns := [], harness := (true, "1f1c64e5dd23ddff0898bf7cd58e6db1eb0e43274028f9ba8dac70db2adfbad6"), looks := false }, kinds := [], alts := [], laidByText := true, laidKinds := [.data], laidTests := true, laidLooks := .later }
def CellBurstsCardSaid : Prop := Claim7.holds Tryd.pinned (.plain (OpenSpec.ofChange cellBurstsSpec)) cellBurstsCard

/-- THE TIED CARD OF 'turntablelaw08.CellZero'. -/
def cellZeroCard : Claim7 := { stood := { row := cellZeroRow, standIns := [], harness := (true, "1f1c64e5dd23ddff0898bf7cd58e6db1eb0e43274028f9ba8dac70db2adfbad6"), looks := false }, kinds := [], alts := [], laidByText := true, laidKinds := [.data], laidTests := true, laidLooks := .later }
def CellZeroCardSaid : Prop := Claim7.holds Tryd.pinned (.plain (OpenSpec.ofChange cellZeroSpec)) cellZeroCard

/-- THE SECOND FORM's CARD OF 'turntablelaw08.CellTells'. -/
def cellTellsUptoCard : Claim7 := { stood := { row := cellTellsUptoRow, standIns := [], harness := (true, "1f1c64e5dd23ddff0898bf7cd58e6db1eb0e43274028f9ba8dac70db2adfbad6"), looks := false }, kinds := [], alts := [], laidByText := true, laidKinds := [.data], laidTests := true, laidLooks := .later }
def CellTellsUptoCardSaid : Prop := Claim7.holds Tryd.pinned (.plain (OpenSpec.upto cellTellsSpec)) cellTellsUptoCard

/-- THE SECOND FORM's CARD OF 'turntablelaw08.CellBack'. -/
def cellBackUptoCard : Claim7 := { stood := { row := cellBackUptoRow, standIns := [], harness := (true, "1f1c64e5dd23ddff0898bf7cd58e6db1eb0e43274028f9ba8dac70db2adfbad6"), looks := false }, kinds := [], alts := [], laidByText := true, laidKinds := [.data], laidTests := true, laidLooks := .later }
def CellBackUptoCardSaid : Prop := Claim7.holds Tryd.pinned (.plain (OpenSpec.upto cellBackSpec)) cellBackUptoCard

/-- THE SECOND FORM's CARD OF 'turntablelaw08.CellOther'. -/
def cellOtherUptoCard : Claim7 := { stood := { row := cellOtherUptoRow, standIns := [], harness := (true, "1f1c64e5dd23ddff0898bf7cd58e6db1eb0e43274028f9ba8dac70db2adfbad6"), looks := false }, kinds := [], alts := [], laidByText := true, laidKinds := [.data], laidTests := true, laidLooks := .later }
def CellOtherUptoCardSaid : Prop := Claim7.holds Tryd.pinned (.plain (OpenSpec.upto cellOtherSpec)) cellOtherUptoCard

/-- THE SECOND FORM's CARD OF 'turntablelaw08.CellBursts'. -/
def cellBurstsUptoCard : Claim7 := { stood := { row := cellBurstsUptoRow, standIns := [], harness := (true, "1f1c64e5dd23ddff0898bf7cd58e6db1eb0e43274028f9ba8dac70db2adfbad6"), looks := false }, kinds := [], alts := [], laidByText := true, laidKinds := [.data], laidTests := true, laidLooks := .later }
def CellBurstsUptoCardSaid : Prop := Claim7.holds Tryd.pinned (.plain (OpenSpec.upto cellBurstsSpec)) cellBurstsUptoCard

/-- THE SECOND FORM's CARD OF 'turntablelaw08.CellZero'. -/
def cellZeroUptoCard : Claim7 := { stood := { row := cellZeroUptoRow, standIns := [], harness := (true, "1f1c64e5dd23ddff0898bf7cd58e6db1eb0e43274028f9ba8dac70db2adfbad6"), looks := false }, kinds := [], alts := [], laidByText := true, laidKinds := [.data], laidTests := true, laidLooks := .later }
def CellZeroUptoCardSaid : Prop := Claim7.holds Tryd.pinned (.plain (OpenSpec.upto cellZeroSpec)) cellZeroUptoCard
end Rows
end Go.Proofs.YtjmjinplihlhcaaDoor
