/-
  DERIVED. GIVEN WITH THE SEED: THE CARDS: each row of YtiipcnldedjkdaaDoorRows.lean that lists a variable, with what it lists TIED to the program's text (the seventh form; the later family's looks); each row that meets fmt, with fmt's text TOLD by the authors' own Lean function (tested against real Go, not proved from fmt's source: count such statements apart). THE CARD IS WHAT COUNTS. Prove the row's statement (the work); the ties are given (YtiipcnldedjkdaaDoorTie.lean); close each card by the builder's one call (the guide's Derived/Test/ToyasCard.lean, 'card_holds'). Laid BY PROGRAM, IN A SANDBOX (cutbox-door.mjs). By AI agents, Wed Nov 11 2026. No macro, syntax, notation, axiom, sorry.
-/
import Derived.Test.YtiipcnldedjkdaaDoorRows
import GoSem.ClaimSeven
namespace Go.Proofs.YtiipcnldedjkdaaDoor
namespace Rows

/-- THE TIED CARD OF 'turntablelaw03.SpanTells'. -/
def spanTellsCard : Claim7 := { stood := { row := spanTellsRow, standIns := [], harness := (true, "907d4271e65d6dbf95b86a80d016bce4f8a4b3fb518005ea9415a920d903bc7d"), looks := true }, kinds := [], alts := [], laidByText := true, laidKinds := [.handle], laidTests := true, laidLooks := .later }
def SpanTellsCardSaid : Prop := Claim7.holds Tryd.pinned (.plain (OpenSpec.ofChange spanTellsSpec)) spanTellsCard

/-- THE TIED CARD OF 'turntablelaw03.SpanBack'. -/
def spanBackCard : Claim7 := { stood := { row := spanBackRow, standIns := [], harness := (true, "907d4271e65d6dbf95b86a80d016bce4f8a4b3fb518005ea9415a920d903bc7d"), looks := true }, kinds := [], alts := [], laidByText := true, laidKinds := [.handle], laidTests := true, laidLooks := .later }
def SpanBackCardSaid : Prop := Claim7.holds Tryd.pinned (.plain (OpenSpec.ofChange spanBackSpec)) spanBackCard

/-- THE TIED CARD OF 'turntablelaw03.SpanCut'. -/
def spanCutCard : Claim7 := { stood := { row := spanCutRow, standIns := [], harness := (true, "907d4271e65d6dbf95b86a80d016bce4f8a4b3fb518005ea9415a920d903bc7d"), looks := true }, kinds := [], alts := [], laidByText := true, laidKinds := [.handle], laidTests := true, laidLooks := .later }
def SpanCutCardSaid : Prop := Claim7.holds Tryd.pinned (.plain (OpenSpec.ofChange spanCutSpec)) spanCutCard

/-- THE TIED CARD OF 'turntablelaw03.SpanOrder'. -/
def spanOrderCard : Claim7 := { stood := { row := spanOrderRow, standIns := [], harness := (true, "907d4271e65d6dbf95b86a80d016bce4f8a4b3fb518005ea9415a920d903bc7d"), looks := true }, kinds := [], alts := [], laidByText := true, laidKinds := [.handle], laidTests := true, laidLooks := .later }
def SpanOrderCardSaid : Prop := Claim7.holds Tryd.pinned (.plain (OpenSpec.ofChange spanOrderSpec)) spanOrderCard

/-- THE TIED CARD OF 'turntablelaw03.SpanBounds'. -/
def spanBoundsCard : Claim7 := { stood := { row := spanBoundsRow, standIns := [], harness := (true, "907d4271e65d6dbf95b86a80d016bce4f8a4b3fb518005ea9415a920d903bc7d"), looks := true }, kinds := [], alts := [], laidByText := true, laidKinds := [.handle], laidTests := true, laidLooks := .later }
def SpanBoundsCardSaid : Prop := Claim7.holds Tryd.pinned (.plain (OpenSpec.ofChange spanBoundsSpec)) spanBoundsCard

/-- THE TIED CARD OF 'turntablelaw03.SpanUnlike'. -/
def spanUnlikeCard : Claim7 := { stood := { row := spanUnlikeRow, standIns := [], harness := (true, "907d4271e65d6dbf95b86a80d016bce4f8a4b3fb518005ea9415a920d903bc7d"), looks := true }, kinds := [], alts := [], laidByText := true, laidKinds := [.handle], laidTests := true, laidLooks := .later }
def SpanUnlikeCardSaid : Prop := Claim7.holds Tryd.pinned (.plain (OpenSpec.ofChange spanUnlikeSpec)) spanUnlikeCard

/-- THE TIED CARD OF 'turntablelaw03.SpanRow'. -/
def spanRowCard : Claim7 := { stood := { row := spanRowRow, standIns := [], harness := (true, "907d4271e65d6dbf95b86a80d016bce4f8a4b3fb518005ea9415a920d903bc7d"), looks := true }, kinds := [], alts := [], laidByText := true, laidKinds := [.handle], laidTests := true, laidLooks := .later }
def SpanRowCardSaid : Prop := Claim7.holds Tryd.pinned (.plain (OpenSpec.ofChange spanRowSpec)) spanRowCard

/-- THE SECOND FORM's CARD OF 'turntablelaw03.SpanTells'. -/
def spanTellsUptoCard : Claim7 := { stood := { row := spanTellsUptoRow, standIns := [], harness := (true, "907d4271e65d6dbf95b86a80d016bce4f8a4b3fb518005ea9415a920d903bc7d"), looks := true }, kinds := [], alts := [], laidByText := true, laidKinds := [.handle], laidTests := true, laidLooks := .later }
def SpanTellsUptoCardSaid : Prop := Claim7.holds Tryd.pinned (.plain (OpenSpec.upto spanTellsSpec)) spanTellsUptoCard

/-- THE SECOND FORM's CARD OF 'turntablelaw03.SpanBack'. -/
def spanBackUptoCard : Claim7 := { stood := { row := spanBackUptoRow, standIns := [], harness := (true, "907d4271e65d6dbf95b86a80d016bce4f8a4b3fb518005ea9415a920d903bc7d"), looks := true }, kinds := [], alts := [], laidByText := true, laidKinds := [.handle], laidTests := true, laidLooks := .later }
def SpanBackUptoCardSaid : Prop := Claim7.holds Tryd.pinned (.plain (OpenSpec.upto spanBackSpec)) spanBackUptoCard

/-- THE SECOND FORM's CARD OF 'turntablelaw03.SpanCut'. -/
def spanCutUptoCard : Claim7 := { stood := { row := spanCutUptoRow, standIns := [], harness := (true, "907d4271e65d6dbf95b86a80d016bce4f8a4b3fb518005ea9415a920d903bc7d"), looks := true }, kinds := [], alts := [], laidByText := true, laidKinds := [.handle], laidTests := true, laidLooks := .later }
def SpanCutUptoCardSaid : Prop := Claim7.holds Tryd.pinned (.plain (OpenSpec.upto spanCutSpec)) spanCutUptoCard

/-- THE SECOND FORM's CARD OF 'turntablelaw03.SpanOrder'. -/
def spanOrderUptoCard : Claim7 := { stood := { row := spanOrderUptoRow, standIns := [], harness := (true, "907d4271e65d6dbf95b86a80d016bce4f8a4b3fb518005ea9415a920d903bc7d"), looks := true }, kinds := [], alts := [], laidByText := true, laidKinds := [.handle], laidTests := true, laidLooks := .later }
def SpanOrderUptoCardSaid : Prop := Claim7.holds Tryd.pinned (.plain (OpenSpec.upto spanOrderSpec)) spanOrderUptoCard

/-- THE SECOND FORM's CARD OF 'turntablelaw03.SpanBounds'. -/
def spanBoundsUptoCard : Claim7 := { stood := { row := spanBoundsUptoRow, standIns := [], harness := (true, "907d4271e65d6dbf95b86a80d016bce4f8a4b3fb518005ea9415a920d903bc7d"), looks := true }, kinds := [], alts := [], laidByText := true, laidKinds := [.handle], laidTests := true, laidLooks := .later }
def SpanBoundsUptoCardSaid : Prop := Claim7.holds Tryd.pinned (.plain (OpenSpec.upto spanBoundsSpec)) spanBoundsUptoCard

/-- THE SECOND FORM's CARD OF 'turntablelaw03.SpanUnlike'. -/
def spanUnlikeUptoCard : Claim7 := { stood := { row := spanUnlikeUptoRow, standIns := [], harness := (true, "907d4271e65d6dbf95b86a80d016bce4f8a4b3fb518005ea9415a920d903bc7d"), looks := true }, kinds := [], alts := [], laidByText := true, laidKinds := [.handle], laidTests := true, laidLooks := .later }
def SpanUnlikeUptoCardSaid : Prop := Claim7.holds Tryd.pinned (.plain (OpenSpec.upto spanUnlikeSpec)) spanUnlikeUptoCard

/-- THE SECOND FORM's CARD OF 'turntablelaw03.SpanRow'. -/
def spanRowUptoCard : Claim7 := { stood := { row := spanRowUptoRow, standIns := [], harness := (true, "907d4271e65d6dbf95b86a80d016bce4f8a4b3fb518005ea9415a920d903bc7d"), looks := true }, kinds := [], alts := [], laidByText := true, laidKinds := [.handle], laidTests := true, laidLooks := .later }
def SpanRowUptoCardSaid : Prop := Claim7.holds Tryd.pinned (.plain (OpenSpec.upto spanRowSpec)) spanRowUptoCard
end Rows
end Go.Proofs.YtiipcnldedjkdaaDoor
