/-
  DERIVED. GIVEN WITH THE SEED: THE CARDS: each row of YtmmkmhphnhanfaaGreatDoorRows.lean that lists a variable, with what it lists TIED to the program's text (the seventh form; the later family's looks); each row that meets fmt, with fmt's text TOLD by the authors' own Lean function (tested against real Go, not proved from fmt's source: count such statements apart). THE CARD IS WHAT COUNTS. Prove the row's statement (the work); the ties are given (YtmmkmhphnhanfaaGreatDoorTie.lean); close each card by the builder's one call (the guide's Derived/Test/ToyasCard.lean, 'card_holds'). Laid BY PROGRAM, IN A SANDBOX (cutbox-door.mjs). By AI agents, Wed Nov 11 2026. No macro, syntax, notation, axiom, sorry.
-/
import Derived.Test.YtmmkmhphnhanfaaGreatDoorRows
import GoSem.ClaimSeven
namespace Go.Proofs.YtmmkmhphnhanfaaGreatDoor
namespace Rows

/-- THE TIED CARD OF 'turntablelaw05.TraceTells'. -/
def traceTellsCard : Claim7 := { stood := { row := traceTellsRow, standIns := [], harness := (true, "2377d408c9ab46e32a138b631bfd2f8047c0011a17e85570c0f5d61853aaaf40"), looks := true }, kinds := [], alts := [], laidByText := true, laidKinds := [.handle], laidTests := true, laidLooks := .later }
def TraceTellsCardSaid : Prop := Claim7.holds Tryz.pinned (.plain (OpenSpec.ofChange traceTellsSpec)) traceTellsCard

/-- THE TIED CARD OF 'turntablelaw05.TraceBack'. -/
def traceBackCard : Claim7 := { stood := { row := traceBackRow, standIns := [], harness := (true, "2377d408c9ab46e32a138b631bfd2f8047c0011a17e85570c0f5d61853aaaf40"), looks := true }, kinds := [], alts := [], laidByText := true, laidKinds := [.handle], laidTests := true, laidLooks := .later }
def TraceBackCardSaid : Prop := Claim7.holds Tryz.pinned (.plain (OpenSpec.ofChange traceBackSpec)) traceBackCard

/-- THE TIED CARD OF 'turntablelaw05.TraceSorted'. -/
def traceSortedCard : Claim7 := { stood := { row := traceSortedRow, standIns := [], harness := (true, "2377d408c9ab46e32a138b631bfd2f8047c0011a17e85570c0f5d61853aaaf40"), looks := true }, kinds := [], alts := [], laidByText := true, laidKinds := [.handle], laidTests := true, laidLooks := .later }
def TraceSortedCardSaid : Prop := Claim7.holds Tryz.pinned (.plain (OpenSpec.ofChange traceSortedSpec)) traceSortedCard

/-- THE TIED CARD OF 'turntablelaw05.TraceBrief'. -/
def traceBriefCard : Claim7 := { stood := { row := traceBriefRow, standIns := [], harness := (true, "2377d408c9ab46e32a138b631bfd2f8047c0011a17e85570c0f5d61853aaaf40"), looks := true }, kinds := [], alts := [], laidByText := true, laidKinds := [.handle], laidTests := true, laidLooks := .later }
def TraceBriefCardSaid : Prop := Claim7.holds Tryz.pinned (.plain (OpenSpec.ofChange traceBriefSpec)) traceBriefCard

/-- THE TIED CARD OF 'turntablelaw05.TraceNone'. -/
def traceNoneCard : Claim7 := { stood := { row := traceNoneRow, standIns := [], harness := (true, "2377d408c9ab46e32a138b631bfd2f8047c0011a17e85570c0f5d61853aaaf40"), looks := true }, kinds := [], alts := [], laidByText := true, laidKinds := [.handle], laidTests := true, laidLooks := .later }
def TraceNoneCardSaid : Prop := Claim7.holds Tryz.pinned (.plain (OpenSpec.ofChange traceNoneSpec)) traceNoneCard

/-- THE TIED CARD OF 'turntablelaw05.TraceMore'. -/
def traceMoreCard : Claim7 := { stood := { row := traceMoreRow, standIns := [], harness := (true, "2377d408c9ab46e32a138b631bfd2f8047c0011a17e85570c0f5d61853aaaf40"), looks := true }, kinds := [], alts := [], laidByText := true, laidKinds := [.handle], laidTests := true, laidLooks := .later }
def TraceMoreCardSaid : Prop := Claim7.holds Tryz.pinned (.plain (OpenSpec.ofChange traceMoreSpec)) traceMoreCard

/-- THE TIED CARD OF 'turntablelaw05.TraceCut'. -/
def traceCutCard : Claim7 := { stood := { row := traceCutRow, standIns := [], harness := (true, "2377d408c9ab46e32a138b631bfd2f8047c0011a17e85570c0f5d61853aaaf40"), looks := true }, kinds := [], alts := [], laidByText := true, laidKinds := [.handle], laidTests := true, laidLooks := .later }
def TraceCutCardSaid : Prop := Claim7.holds Tryz.pinned (.plain (OpenSpec.ofChange traceCutSpec)) traceCutCard

/-- THE SECOND FORM's CARD OF 'turntablelaw05.TraceTells'. -/
def traceTellsUptoCard : Claim7 := { stood := { row := traceTellsUptoRow, standIns := [], harness := (true, "2377d408c9ab46e32a138b631bfd2f8047c0011a17e85570c0f5d61853aaaf40"), looks := true }, kinds := [], alts := [], laidByText := true, laidKinds := [.handle], laidTests := true, laidLooks := .later }
def TraceTellsUptoCardSaid : Prop := Claim7.holds Tryz.pinned (.plain (OpenSpec.upto traceTellsSpec)) traceTellsUptoCard

/-- THE SECOND FORM's CARD OF 'turntablelaw05.TraceBack'. -/
def traceBackUptoCard : Claim7 := { stood := { row := traceBackUptoRow, standIns := [], harness := (true, "2377d408c9ab46e32a138b631bfd2f8047c0011a17e85570c0f5d61853aaaf40"), looks := true }, kinds := [], alts := [], laidByText := true, laidKinds := [.handle], laidTests := true, laidLooks := .later }
def TraceBackUptoCardSaid : Prop := Claim7.holds Tryz.pinned (.plain (OpenSpec.upto traceBackSpec)) traceBackUptoCard

/-- THE SECOND FORM's CARD OF 'turntablelaw05.TraceSorted'. -/
def traceSortedUptoCard : Claim7 := { stood := { row := traceSortedUptoRow, standIns := [], harness := (true, "2377d408c9ab46e32a138b631bfd2f8047c0011a17e85570c0f5d61853aaaf40"), looks := true }, kinds := [], alts := [], laidByText := true, laidKinds := [.handle], laidTests := true, laidLooks := .later }
def TraceSortedUptoCardSaid : Prop := Claim7.holds Tryz.pinned (.plain (OpenSpec.upto traceSortedSpec)) traceSortedUptoCard

/-- THE SECOND FORM's CARD OF 'turntablelaw05.TraceBrief'. -/
def traceBriefUptoCard : Claim7 := { stood := { row := traceBriefUptoRow, standIns := [], harness := (true, "2377d408c9ab46e32a138b631bfd2f8047c0011a17e85570c0f5d61853aaaf40"), looks := true }, kinds := [], alts := [], laidByText := true, laidKinds := [.handle], laidTests := true, laidLooks := .later }
def TraceBriefUptoCardSaid : Prop := Claim7.holds Tryz.pinned (.plain (OpenSpec.upto traceBriefSpec)) traceBriefUptoCard

/-- THE SECOND FORM's CARD OF 'turntablelaw05.TraceNone'. -/
def traceNoneUptoCard : Claim7 := { stood := { row := traceNoneUptoRow, standIns := [], harness := (true, "2377d408c9ab46e32a138b631bfd2f8047c0011a17e85570c0f5d61853aaaf40"), looks := true }, kinds := [], alts := [], laidByText := true, laidKinds := [.handle], laidTests := true, laidLooks := .later }
def TraceNoneUptoCardSaid : Prop := Claim7.holds Tryz.pinned (.plain (OpenSpec.upto traceNoneSpec)) traceNoneUptoCard

/-- THE SECOND FORM's CARD OF 'turntablelaw05.TraceMore'. -/
def traceMoreUptoCard : Claim7 := { stood := { row := traceMoreUptoRow, standIns := [], harness := (true, "2377d408c9ab46e32a138b631bfd2f8047c0011a17e85570c0f5d61853aaaf40"), looks := true }, kinds := [], alts := [], laidByText := true, laidKinds := [.handle], laidTests := true, laidLooks := .later }
def TraceMoreUptoCardSaid : Prop := Claim7.holds Tryz.pinned (.plain (OpenSpec.upto traceMoreSpec)) traceMoreUptoCard

/-- THE SECOND FORM's CARD OF 'turntablelaw05.TraceCut'. -/
def traceCutUptoCard : Claim7 := { stood := { row := traceCutUptoRow, standIns := [], harness := (true, "2377d408c9ab46e32a138b631bfd2f8047c0011a17e85570c0f5d61853aaaf40"), looks := true }, kinds := [], alts := [], laidByText := true, laidKinds := [.handle], laidTests := true, laidLooks := .later }
def TraceCutUptoCardSaid : Prop := Claim7.holds Tryz.pinned (.plain (OpenSpec.upto traceCutSpec)) traceCutUptoCard
end Rows
end Go.Proofs.YtmmkmhphnhanfaaGreatDoor
