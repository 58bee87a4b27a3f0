/-
  No cell of these rows narrows 'for every input' (looked for: loops, veiled, ifaces, maps, wideKeys, modest, calm, conditions, laid).
  DERIVED. THE GIVEN ROWS OF THIS SEAT. 7 by the template 'for every input the law returns true; each argument reads behind the call as it read before'; 0 by the template 'total and deterministic' (their statements: YtldophaccbakoaaTotals.lean).
  GIVEN WITH THE SEED: the statements are not yours to turn. If you find one false, say at which input.
  Laid BY PROGRAM, IN A SANDBOX (cutbox-rows.mjs): the forced cells as the released guide's own fill.sh prints them over the translation 9063857ab72866c8… (all of the seat's roots in one cut). By AI agents, Wed Nov 11 2026. No macro, syntax, notation, axiom, sorry.
-/
import Derived.Test.YtldophaccbakoaaChecked
import GoSem.Claim
import GoSem.ClaimJoined
import GoSem.ClaimMapViews
import Derived.JoinedTies
import Derived.KernelRfl
namespace Go.Proofs.Ytldophaccbakoaa
/- THE CELL 'sum', in the pinned program and in every row, IS THE sha256 OF THE DUMP (.gsa) THAT YtldophaccbakoaaProg.lean LOADS. Nothing in Lean hashes anything: it is a label: what it is worth is what the hold of that sum in a sandbox is worth. -/
noncomputable def Try.pinned : Pinned := { name := "ytldophaccbakoaa", sum := "9063857ab72866c8a26a0624ed33c6d97189568f2bce9005415bbf29306ff321", checked := Try.checked }
namespace Rows
def none {H : Type} : Left H := { results := [], args := [] }

/-- 'turntablelaw01.VintTells': WHATEVER THE INPUT: true; the input reads as it did. -/
def vintTellsSpec : ChangeSpec := { name := "vintTells", fn := fun _ => fun
  | [d1, d2] => { results := [.lit (.bool true)], args := [d1, d2] }
  | _ => none }
def vintTellsRow : OpenClaim := { program := "ytldophaccbakoaa", sum := "9063857ab72866c8a26a0624ed33c6d97189568f2bce9005415bbf29306ff321", func := "turntable/turntablelaw01.VintTells", spec := "vintTells", inPlace := ["internal/reflectlite.TypeOf"], unfollowed := true, recurses := true, apart := false }
def VintTellsSaid : Prop := vintTellsRow.holds Try.pinned (OpenSpec.ofChange vintTellsSpec)

/-- ITS FALSE NEIGHBOUR: 'it returns false'. Refute it at one input. -/
def vintTellsWrong : ChangeSpec := { name := "vintTells", fn := fun _ => fun
  | [d1, d2] => { results := [.lit (.bool false)], args := [d1, d2] }
  | _ => none }
def VintTellsWrongFalsely : Prop := vintTellsRow.holds Try.pinned (OpenSpec.ofChange vintTellsWrong)

/-- 'turntablelaw01.VintTexts': WHATEVER THE INPUT: true; the input reads as it did. -/
def vintTextsSpec : ChangeSpec := { name := "vintTexts", fn := fun _ => fun
  | [d1, d2] => { results := [.lit (.bool true)], args := [d1, d2] }
  | _ => none }
def vintTextsRow : OpenClaim := { program := "ytldophaccbakoaa", sum := "9063857ab72866c8a26a0624ed33c6d97189568f2bce9005415bbf29306ff321", func := "turntable/turntablelaw01.VintTexts", spec := "vintTexts", inPlace := ["internal/reflectlite.TypeOf"], unfollowed := true, recurses := true, apart := false }
def VintTextsSaid : Prop := vintTextsRow.holds Try.pinned (OpenSpec.ofChange vintTextsSpec)

/-- ITS FALSE NEIGHBOUR: 'it returns false'. Refute it at one input. -/
def vintTextsWrong : ChangeSpec := { name := "vintTexts", fn := fun _ => fun
  | [d1, d2] => { results := [.lit (.bool false)], args := [d1, d2] }
  | _ => none }
def VintTextsWrongFalsely : Prop := vintTextsRow.holds Try.pinned (OpenSpec.ofChange vintTextsWrong)

/-- 'turntablelaw01.VintBack': WHATEVER THE INPUT: true; the input reads as it did. -/
def vintBackSpec : ChangeSpec := { name := "vintBack", fn := fun _ => fun
  | [d1, d2] => { results := [.lit (.bool true)], args := [d1, d2] }
  | _ => none }
def vintBackRow : OpenClaim := { program := "ytldophaccbakoaa", sum := "9063857ab72866c8a26a0624ed33c6d97189568f2bce9005415bbf29306ff321", func := "turntable/turntablelaw01.VintBack", spec := "vintBack", inPlace := ["internal/reflectlite.TypeOf"], unfollowed := true, recurses := true, apart := false }
def VintBackSaid : Prop := vintBackRow.holds Try.pinned (OpenSpec.ofChange vintBackSpec)

/-- ITS FALSE NEIGHBOUR: 'it returns false'. Refute it at one input. -/
def vintBackWrong : ChangeSpec := { name := "vintBack", fn := fun _ => fun
  | [d1, d2] => { results := [.lit (.bool false)], args := [d1, d2] }
  | _ => none }
def VintBackWrongFalsely : Prop := vintBackRow.holds Try.pinned (OpenSpec.ofChange vintBackWrong)

/-- 'turntablelaw01.VintCut': WHATEVER THE INPUT: true; the input reads as it did. -/
def vintCutSpec : ChangeSpec := { name := "vintCut", fn := fun _ => fun
  | [d1, d2, d3] => { results := [.lit (.bool true)], args := [d1, d2, d3] }
  | _ => none }
def vintCutRow : OpenClaim := { program := "ytldophaccbakoaa", sum := "9063857ab72866c8a26a0624ed33c6d97189568f2bce9005415bbf29306ff321", func := "turntable/turntablelaw01.VintCut", spec := "vintCut", inPlace := ["internal/reflectlite.TypeOf"], unfollowed := true, recurses := true, apart := false }
def VintCutSaid : Prop := vintCutRow.holds Try.pinned (OpenSpec.ofChange vintCutSpec)

/-- ITS FALSE NEIGHBOUR: 'it returns false'. Refute it at one input. -/
def vintCutWrong : ChangeSpec := { name := "vintCut", fn := fun _ => fun
  | [d1, d2, d3] => { results := [.lit (.bool false)], args := [d1, d2, d3] }
  | _ => none }
def VintCutWrongFalsely : Prop := vintCutRow.holds Try.pinned (OpenSpec.ofChange vintCutWrong)

/-- 'turntablelaw01.VintOrder': WHATEVER THE INPUT: true; the input reads as it did. -/
def vintOrderSpec : ChangeSpec := { name := "vintOrder", fn := fun _ => fun
  | [d1, d2] => { results := [.lit (.bool true)], args := [d1, d2] }
  | _ => none }
def vintOrderRow : OpenClaim := { program := "ytldophaccbakoaa", sum := "9063857ab72866c8a26a0624ed33c6d97189568f2bce9005415bbf29306ff321", func := "turntable/turntablelaw01.VintOrder", spec := "vintOrder", inPlace := ["internal/reflectlite.TypeOf"], unfollowed := true, recurses := true, apart := false }
def VintOrderSaid : Prop := vintOrderRow.holds Try.pinned (OpenSpec.ofChange vintOrderSpec)

/-- ITS FALSE NEIGHBOUR: 'it returns false'. Refute it at one input. -/
def vintOrderWrong : ChangeSpec := { name := "vintOrder", fn := fun _ => fun
  | [d1, d2] => { results := [.lit (.bool false)], args := [d1, d2] }
  | _ => none }
def VintOrderWrongFalsely : Prop := vintOrderRow.holds Try.pinned (OpenSpec.ofChange vintOrderWrong)

/-- 'turntablelaw01.VintBehind': WHATEVER THE INPUT: true; the input reads as it did. -/
def vintBehindSpec : ChangeSpec := { name := "vintBehind", fn := fun _ => fun
  | [d1, d2, d3] => { results := [.lit (.bool true)], args := [d1, d2, d3] }
  | _ => none }
def vintBehindRow : OpenClaim := { program := "ytldophaccbakoaa", sum := "9063857ab72866c8a26a0624ed33c6d97189568f2bce9005415bbf29306ff321", func := "turntable/turntablelaw01.VintBehind", spec := "vintBehind", inPlace := ["internal/reflectlite.TypeOf"], unfollowed := true, recurses := true, apart := false }
def VintBehindSaid : Prop := vintBehindRow.holds Try.pinned (OpenSpec.ofChange vintBehindSpec)

/-- ITS FALSE NEIGHBOUR: 'it returns false'. Refute it at one input. -/
def vintBehindWrong : ChangeSpec := { name := "vintBehind", fn := fun _ => fun
  | [d1, d2, d3] => { results := [.lit (.bool false)], args := [d1, d2, d3] }
  | _ => none }
def VintBehindWrongFalsely : Prop := vintBehindRow.holds Try.pinned (OpenSpec.ofChange vintBehindWrong)

/-- 'turntablelaw01.VintRow': WHATEVER THE INPUT: true; the input reads as it did. -/
def vintRowSpec : ChangeSpec := { name := "vintRow", fn := fun _ => fun
  | [d1, d2] => { results := [.lit (.bool true)], args := [d1, d2] }
  | _ => none }
def vintRowRow : OpenClaim := { program := "ytldophaccbakoaa", sum := "9063857ab72866c8a26a0624ed33c6d97189568f2bce9005415bbf29306ff321", func := "turntable/turntablelaw01.VintRow", spec := "vintRow", inPlace := ["internal/reflectlite.TypeOf"], unfollowed := true, recurses := true, apart := false }
def VintRowSaid : Prop := vintRowRow.holds Try.pinned (OpenSpec.ofChange vintRowSpec)

/-- ITS FALSE NEIGHBOUR: 'it returns false'. Refute it at one input. -/
def vintRowWrong : ChangeSpec := { name := "vintRow", fn := fun _ => fun
  | [d1, d2] => { results := [.lit (.bool false)], args := [d1, d2] }
  | _ => none }
def VintRowWrongFalsely : Prop := vintRowRow.holds Try.pinned (OpenSpec.ofChange vintRowWrong)

/- THE SECOND FORM. 'bulk': how many values and letters a reading holds, each counted each time it is reached (what is shared counts as often as it is met; a slice's spare places count too). A statement '..UptoSaid' is the law's where the arguments, and the package variables that the reading takes, are together of bulk at most 1048576: NARROWER than '..Said'. Prove '..Said' where nothing that the law and all that it calls make is longer than what came in: it says more and counts as full. Else prove '..UptoSaid'. A law counts once. -/
mutual
def uptoBulk {H : Type} : DataW H → Nat
  | .lit (.string bytes) => bytes.length + 1
  | .lit _ => 1
  | .nil => 1
  | .ptr d => uptoBulk d + 1
  | .slice elems spare => uptoBulkAll elems + uptoBulkAll spare + 1
  | .agg parts => uptoBulkAll parts + 1
  | .iface _ d => uptoBulk d + 1
  | .map entries => uptoBulkEntries entries + 1
  | .held _ => 1
def uptoBulkAll {H : Type} : List (DataW H) → Nat
  | [] => 0
  | d :: r => uptoBulk d + uptoBulkAll r
def uptoBulkEntries {H : Type} : List (Lit × DataW H) → Nat
  | [] => 0
  | x :: r => uptoBulkEntry x + uptoBulkEntries r
def uptoBulkEntry {H : Type} : Lit × DataW H → Nat
  | (.string bytes, d) => bytes.length + uptoBulk d + 1
  | (_, d) => uptoBulk d + 1
 end
def uptoSmall : (H : Type) → List (DataW H) → Bool := fun _ ds => decide (uptoBulkAll ds ≤ 1048576)
def OpenSpec.upto (s : _root_.Go.ChangeSpec) : _root_.Go.OpenSpec := { _root_.Go.OpenSpec.ofChange s with cond := some uptoSmall }

/-- 'turntablelaw01.VintTells', WHERE WHAT IT READS IS OF BULK AT MOST 1048576: true; the input reads as it did. -/
def vintTellsUptoRow : OpenClaim := { program := "ytldophaccbakoaa", sum := "9063857ab72866c8a26a0624ed33c6d97189568f2bce9005415bbf29306ff321", func := "turntable/turntablelaw01.VintTells", spec := "vintTells", inPlace := ["internal/reflectlite.TypeOf"], unfollowed := true, recurses := true, apart := false, narrowed := true }
def VintTellsUptoSaid : Prop := vintTellsUptoRow.holds Try.pinned (OpenSpec.upto vintTellsSpec)

/-- 'turntablelaw01.VintTexts', WHERE WHAT IT READS IS OF BULK AT MOST 1048576: true; the input reads as it did. -/
def vintTextsUptoRow : OpenClaim := { program := "ytldophaccbakoaa", sum := "9063857ab72866c8a26a0624ed33c6d97189568f2bce9005415bbf29306ff321", func := "turntable/turntablelaw01.VintTexts", spec := "vintTexts", inPlace := ["internal/reflectlite.TypeOf"], unfollowed := true, recurses := true, apart := false, narrowed := true }
def VintTextsUptoSaid : Prop := vintTextsUptoRow.holds Try.pinned (OpenSpec.upto vintTextsSpec)

/-- 'turntablelaw01.VintBack', WHERE WHAT IT READS IS OF BULK AT MOST 1048576: true; the input reads as it did. -/
def vintBackUptoRow : OpenClaim := { program := "ytldophaccbakoaa", sum := "9063857ab72866c8a26a0624ed33c6d97189568f2bce9005415bbf29306ff321", func := "turntable/turntablelaw01.VintBack", spec := "vintBack", inPlace := ["internal/reflectlite.TypeOf"], unfollowed := true, recurses := true, apart := false, narrowed := true }
def VintBackUptoSaid : Prop := vintBackUptoRow.holds Try.pinned (OpenSpec.upto vintBackSpec)

/-- 'turntablelaw01.VintCut', WHERE WHAT IT READS IS OF BULK AT MOST 1048576: true; the input reads as it did. -/
def vintCutUptoRow : OpenClaim := { program := "ytldophaccbakoaa", sum := "9063857ab72866c8a26a0624ed33c6d97189568f2bce9005415bbf29306ff321", func := "turntable/turntablelaw01.VintCut", spec := "vintCut", inPlace := ["internal/reflectlite.TypeOf"], unfollowed := true, recurses := true, apart := false, narrowed := true }
def VintCutUptoSaid : Prop := vintCutUptoRow.holds Try.pinned (OpenSpec.upto vintCutSpec)

/-- 'turntablelaw01.VintOrder', WHERE WHAT IT READS IS OF BULK AT MOST 1048576: true; the input reads as it did. -/
def vintOrderUptoRow : OpenClaim := { program := "ytldophaccbakoaa", sum := "9063857ab72866c8a26a0624ed33c6d97189568f2bce9005415bbf29306ff321", func := "turntable/turntablelaw01.VintOrder", spec := "vintOrder", inPlace := ["internal/reflectlite.TypeOf"], unfollowed := true, recurses := true, apart := false, narrowed := true }
def VintOrderUptoSaid : Prop := vintOrderUptoRow.holds Try.pinned (OpenSpec.upto vintOrderSpec)

/-- 'turntablelaw01.VintBehind', WHERE WHAT IT READS IS OF BULK AT MOST 1048576: true; the input reads as it did. -/
def vintBehindUptoRow : OpenClaim := { program := "ytldophaccbakoaa", sum := "9063857ab72866c8a26a0624ed33c6d97189568f2bce9005415bbf29306ff321", func := "turntable/turntablelaw01.VintBehind", spec := "vintBehind", inPlace := ["internal/reflectlite.TypeOf"], unfollowed := true, recurses := true, apart := false, narrowed := true }
def VintBehindUptoSaid : Prop := vintBehindUptoRow.holds Try.pinned (OpenSpec.upto vintBehindSpec)

/-- 'turntablelaw01.VintRow', WHERE WHAT IT READS IS OF BULK AT MOST 1048576: true; the input reads as it did. -/
def vintRowUptoRow : OpenClaim := { program := "ytldophaccbakoaa", sum := "9063857ab72866c8a26a0624ed33c6d97189568f2bce9005415bbf29306ff321", func := "turntable/turntablelaw01.VintRow", spec := "vintRow", inPlace := ["internal/reflectlite.TypeOf"], unfollowed := true, recurses := true, apart := false, narrowed := true }
def VintRowUptoSaid : Prop := vintRowUptoRow.holds Try.pinned (OpenSpec.upto vintRowSpec)

end Rows
end Go.Proofs.Ytldophaccbakoaa
