/-
  DERIVED. GIVEN WITH THE SEED: THE CARDS: each row of YtdfeccmcefcpbaaDoorRows.lean that lists a variable, with what it lists TIED to the program's text (the seventh form; the later family's looks); each row that meets fmt, with fmt's text TOLD by the authors' own Lean function (tested against real Go, not proved from fmt's source: count such statements apart). THE CARD IS WHAT COUNTS. Prove the row's statement (the work); the ties are given (YtdfeccmcefcpbaaDoorTie.lean); close each card by the builder's one call (the guide's Derived/Test/ToyasCard.lean, 'card_holds'). Laid BY PROGRAM, IN A SANDBOX (cutbox-door.mjs). By AI agents, Wed Nov 11 2026. No macro, syntax, notation, axiom, sorry.
-/
import Derived.Test.YtdfeccmcefcpbaaDoorRows
import GoSem.ClaimSeven
namespace Go.Proofs.YtdfeccmcefcpbaaDoor
namespace Rows

/-- THE TIED CARD OF 'turntablelaw13.RecTells'. -/
def recTellsCard : Claim7 := { stood := { row := recTellsRow, standIns := [], harness := (true, "6914f6d8a0280e21e51e045969e41be4d6fc9c4eb9236bea7a1374a44fa24c40"), looks := true }, kinds := [], alts := [], laidByText := true, laidKinds := [.handle], laidTests := true, laidLooks := .later }
def RecTellsCardSaid : Prop := Claim7.holds Tryd.pinned (.plain (OpenSpec.ofChange recTellsSpec)) recTellsCard

/-- THE TIED CARD OF 'turntablelaw13.RecBack'. -/
def recBackCard : Claim7 := { stood := { row := recBackRow, standIns := [], harness := (true, "6914f6d8a0280e21e51e045969e41be4d6fc9c4eb9236bea7a1374a44fa24c40"), looks := true }, kinds := [], alts := [], laidByText := true, laidKinds := [.handle], laidTests := true, laidLooks := .later }
def RecBackCardSaid : Prop := Claim7.holds Tryd.pinned (.plain (OpenSpec.ofChange recBackSpec)) recBackCard

/-- THE TIED CARD OF 'turntablelaw13.RecCost'. -/
def recCostCard : Claim7 := { stood := { row := recCostRow, standIns := [], harness := (true, "6914f6d8a0280e21e51e045969e41be4d6fc9c4eb9236bea7a1374a44fa24c40"), looks := true }, kinds := [], alts := [], laidByText := true, laidKinds := [.handle], laidTests := true, laidLooks := .later }
def RecCostCardSaid : Prop := Claim7.holds Tryd.pinned (.plain (OpenSpec.ofChange recCostSpec)) recCostCard

/-- THE TIED CARD OF 'turntablelaw13.RecTrace'. -/
def recTraceCard : Claim7 := { stood := { row := recTraceRow, standIns := [], harness := (true, "6914f6d8a0280e21e51e045969e41be4d6fc9c4eb9236bea7a1374a44fa24c40"), looks := true }, kinds := [], alts := [], laidByText := true, laidKinds := [.handle], laidTests := true, laidLooks := .later }
def RecTraceCardSaid : Prop := Claim7.holds Tryd.pinned (.plain (OpenSpec.ofChange recTraceSpec)) recTraceCard

/-- THE TIED CARD OF 'turntablelaw13.RecBare'. -/
def recBareCard : Claim7 := { stood := { row := recBareRow, standIns := [], harness := (true, "6914f6d8a0280e21e51e045969e41be4d6fc9c4eb9236bea7a1374a44fa24c40"), looks := true }, kinds := [], alts := [], laidByText := true, laidKinds := [.handle], laidTests := true, laidLooks := .later }
def RecBareCardSaid : Prop := Claim7.holds Tryd.pinned (.plain (OpenSpec.ofChange recBareSpec)) recBareCard

/-- THE TIED CARD OF 'turntablelaw13.RecUnlike'. -/
def recUnlikeCard : Claim7 := { stood := { row := recUnlikeRow, standIns := [], harness := (true, "6914f6d8a0280e21e51e045969e41be4d6fc9c4eb9236bea7a1374a44fa24c40"), looks := true }, kinds := [], alts := [], laidByText := true, laidKinds := [.handle], laidTests := true, laidLooks := .later }
def RecUnlikeCardSaid : Prop := Claim7.holds Tryd.pinned (.plain (OpenSpec.ofChange recUnlikeSpec)) recUnlikeCard

/-- THE TIED CARD OF 'turntablelaw13.RecCut'. -/
def recCutCard : Claim7 := { stood := { row := recCutRow, standIns := [], harness := (true, "6914f6d8a0280e21e51e045969e41be4d6fc9c4eb9236bea7a1374a44fa24c40"), looks := true }, kinds := [], alts := [], laidByText := true, laidKinds := [.handle], laidTests := true, laidLooks := .later }
def RecCutCardSaid : Prop := Claim7.holds Tryd.pinned (.plain (OpenSpec.ofChange recCutSpec)) recCutCard

/-- THE SECOND FORM's CARD OF 'turntablelaw13.RecTells'. -/
def recTellsUptoCard : Claim7 := { stood := { row := recTellsUptoRow, standIns := [], harness := (true, "6914f6d8a0280e21e51e045969e41be4d6fc9c4eb9236bea7a1374a44fa24c40"), looks := true }, kinds := [], alts := [], laidByText := true, laidKinds := [.handle], laidTests := true, laidLooks := .later }
def RecTellsUptoCardSaid : Prop := Claim7.holds Tryd.pinned (.plain (OpenSpec.upto recTellsSpec)) recTellsUptoCard

/-- THE SECOND FORM's CARD OF 'turntablelaw13.RecBack'. -/
def recBackUptoCard : Claim7 := { stood := { row := recBackUptoRow, standIns := [], harness := (true, "6914f6d8a0280e21e51e045969e41be4d6fc9c4eb9236bea7a1374a44fa24c40"), looks := true }, kinds := [], alts := [], laidByText := true, laidKinds := [.handle], laidTests := true, laidLooks := .later }
def RecBackUptoCardSaid : Prop := Claim7.holds Tryd.pinned (.plain (OpenSpec.upto recBackSpec)) recBackUptoCard

/-- THE SECOND FORM's CARD OF 'turntablelaw13.RecCost'. -/
def recCostUptoCard : Claim7 := { stood := { row := recCostUptoRow, standIns := [], harness := (true, "6914f6d8a0280e21e51e045969e41be4d6fc9c4eb9236bea7a1374a44fa24c40"), looks := true }, kinds := [], alts := [], laidByText := true, laidKinds := [.handle], laidTests := true, laidLooks := .later }
def RecCostUptoCardSaid : Prop := Claim7.holds Tryd.pinned (.plain (OpenSpec.upto recCostSpec)) recCostUptoCard

/-- THE SECOND FORM's CARD OF 'turntablelaw13.RecTrace'. -/
def recTraceUptoCard : Claim7 := { stood := { row := recTraceUptoRow, standIns := [], harness := (true, "6914f6d8a0280e21e51e045969e41be4d6fc9c4eb9236bea7a1374a44fa24c40"), looks := true }, kinds := [], alts := [], laidByText := true, laidKinds := [.handle], laidTests := true, laidLooks := .later }
def RecTraceUptoCardSaid : Prop := Claim7.holds Tryd.pinned (.plain (OpenSpec.upto recTraceSpec)) recTraceUptoCard

/-- THE SECOND FORM's CARD OF 'turntablelaw13.RecBare'. -/
def recBareUptoCard : Claim7 := { stood := { row := recBareUptoRow, standIns := [], harness := (true, "6914f6d8a0280e21e51e045969e41be4d6fc9c4eb9236bea7a1374a44fa24c40"), looks := true }, kinds := [], alts := [], laidByText := true, laidKinds := [.handle], laidTests := true, laidLooks := .later }
def RecBareUptoCardSaid : Prop := Claim7.holds Tryd.pinned (.plain (OpenSpec.upto recBareSpec)) recBareUptoCard

/-- THE SECOND FORM's CARD OF 'turntablelaw13.RecUnlike'. -/
def recUnlikeUptoCard : Claim7 := { stood := { row := recUnlikeUptoRow, standIns := [], harness := (true, "6914f6d8a0280e21e51e045969e41be4d6fc9c4eb9236bea7a1374a44fa24c40"), looks := true }, kinds := [], alts := [], laidByText := true, laidKinds := [.handle], laidTests := true, laidLooks := .later }
def RecUnlikeUptoCardSaid : Prop := Claim7.holds Tryd.pinned (.plain (OpenSpec.upto recUnlikeSpec)) recUnlikeUptoCard

/-- THE SECOND FORM's CARD OF 'turntablelaw13.RecCut'. -/
def recCutUptoCard : Claim7 := { stood := { row := recCutUptoRow, standIns := [], harness := (true, "6914f6d8a0280e21e51e045969e41be4d6fc9c4eb9236bea7a1374a44fa24c40"), looks := true }, kinds := [], alts := [], laidByText := true, laidKinds := [.handle], laidTests := true, laidLooks := .later }
def RecCutUptoCardSaid : Prop := Claim7.holds Tryd.pinned (.plain (OpenSpec.upto recCutSpec)) recCutUptoCard
end Rows
end Go.Proofs.YtdfeccmcefcpbaaDoor
