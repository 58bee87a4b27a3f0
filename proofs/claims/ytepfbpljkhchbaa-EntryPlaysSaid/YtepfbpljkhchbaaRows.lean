/-
  No cell of these rows narrows 'for every input' (looked for: loops, veiled, ifaces, maps, wideKeys, modest, calm, conditions, laid).
  DERIVED. THE GIVEN ROWS OF THIS SEAT. 6 by the template 'for every input the law returns true; each argument reads behind the call as it read before'; 0 by the template 'total and deterministic' (their statements: YtepfbpljkhchbaaTotals.lean).
  GIVEN WITH THE SEED: the statements are not yours to turn. If you find one false, say at which input.
  Laid BY PROGRAM, IN A SANDBOX (cutbox-rows.mjs): the forced cells as the released guide's own fill.sh prints them over the translation a8d5e8368f72bb49… (all of the seat's roots in one cut). By AI agents, Wed Nov 11 2026. No macro, syntax, notation, axiom, sorry.
-/
import Derived.Test.YtepfbpljkhchbaaChecked
import GoSem.Claim
import GoSem.ClaimJoined
import GoSem.ClaimMapViews
import Derived.JoinedTies
import Derived.KernelRfl
namespace Go.Proofs.Ytepfbpljkhchbaa
/- THE CELL 'sum', in the pinned program and in every row, IS THE sha256 OF THE DUMP (.gsa) THAT YtepfbpljkhchbaaProg.lean LOADS. Nothing in Lean hashes anything: it is a label: what it is worth is what the hold of that sum in a sandbox is worth. -/
noncomputable def Try.pinned : Pinned := { name := "ytepfbpljkhchbaa", sum := "a8d5e8368f72bb4932bf8e3e39d5e14562bc15af99daab05b9893f45017a1aa0", checked := Try.checked }
namespace Rows
def none {H : Type} : Left H := { results := [], args := [] }

/-- 'turntablelaw14.EntryPlays': WHATEVER THE INPUT: true; the input reads as it did. -/
def entryPlaysSpec : ChangeSpec := { name := "entryPlays", fn := fun _ => fun
  | [d1, d2] => { results := [.lit (.bool true)], args := [d1, d2] }
  | _ => none }
def entryPlaysRow : OpenClaim := { program := "ytepfbpljkhchbaa", sum := "a8d5e8368f72bb4932bf8e3e39d5e14562bc15af99daab05b9893f45017a1aa0", func := "turntable/turntablelaw14.EntryPlays", spec := "entryPlays", unfollowed := true, recurses := true, apart := false }
def EntryPlaysSaid : Prop := entryPlaysRow.holds Try.pinned (OpenSpec.ofChange entryPlaysSpec)

/-- ITS FALSE NEIGHBOUR: 'it returns false'. Refute it at one input. -/
def entryPlaysWrong : ChangeSpec := { name := "entryPlays", fn := fun _ => fun
  | [d1, d2] => { results := [.lit (.bool false)], args := [d1, d2] }
  | _ => none }
def EntryPlaysWrongFalsely : Prop := entryPlaysRow.holds Try.pinned (OpenSpec.ofChange entryPlaysWrong)

/-- 'turntablelaw14.EntryMap': WHATEVER THE INPUT: true; the input reads as it did. -/
def entryMapSpec : ChangeSpec := { name := "entryMap", fn := fun _ => fun
  | [d1, d2] => { results := [.lit (.bool true)], args := [d1, d2] }
  | _ => none }
def entryMapRow : OpenClaim := { program := "ytepfbpljkhchbaa", sum := "a8d5e8368f72bb4932bf8e3e39d5e14562bc15af99daab05b9893f45017a1aa0", func := "turntable/turntablelaw14.EntryMap", spec := "entryMap", unfollowed := true, recurses := true, apart := false }
def EntryMapSaid : Prop := entryMapRow.holds Try.pinned (OpenSpec.ofChange entryMapSpec)

/-- ITS FALSE NEIGHBOUR: 'it returns false'. Refute it at one input. -/
def entryMapWrong : ChangeSpec := { name := "entryMap", fn := fun _ => fun
  | [d1, d2] => { results := [.lit (.bool false)], args := [d1, d2] }
  | _ => none }
def EntryMapWrongFalsely : Prop := entryMapRow.holds Try.pinned (OpenSpec.ofChange entryMapWrong)

/-- 'turntablelaw14.EntryOrder': WHATEVER THE INPUT: true; the input reads as it did. -/
def entryOrderSpec : ChangeSpec := { name := "entryOrder", fn := fun _ => fun
  | [d] => { results := [.lit (.bool true)], args := [d] }
  | _ => none }
def entryOrderRow : OpenClaim := { program := "ytepfbpljkhchbaa", sum := "a8d5e8368f72bb4932bf8e3e39d5e14562bc15af99daab05b9893f45017a1aa0", func := "turntable/turntablelaw14.EntryOrder", spec := "entryOrder", unfollowed := true, recurses := true, apart := false }
def EntryOrderSaid : Prop := entryOrderRow.holds Try.pinned (OpenSpec.ofChange entryOrderSpec)

/-- ITS FALSE NEIGHBOUR: 'it returns false'. Refute it at one input. -/
def entryOrderWrong : ChangeSpec := { name := "entryOrder", fn := fun _ => fun
  | [d] => { results := [.lit (.bool false)], args := [d] }
  | _ => none }
def EntryOrderWrongFalsely : Prop := entryOrderRow.holds Try.pinned (OpenSpec.ofChange entryOrderWrong)

/-- 'turntablelaw14.EntryStill': WHATEVER THE INPUT: true; the input reads as it did. -/
def entryStillSpec : ChangeSpec := { name := "entryStill", fn := fun _ => fun
  | [d1, d2] => { results := [.lit (.bool true)], args := [d1, d2] }
  | _ => none }
def entryStillRow : OpenClaim := { program := "ytepfbpljkhchbaa", sum := "a8d5e8368f72bb4932bf8e3e39d5e14562bc15af99daab05b9893f45017a1aa0", func := "turntable/turntablelaw14.EntryStill", spec := "entryStill", unfollowed := true, recurses := true, apart := false }
def EntryStillSaid : Prop := entryStillRow.holds Try.pinned (OpenSpec.ofChange entryStillSpec)

/-- ITS FALSE NEIGHBOUR: 'it returns false'. Refute it at one input. -/
def entryStillWrong : ChangeSpec := { name := "entryStill", fn := fun _ => fun
  | [d1, d2] => { results := [.lit (.bool false)], args := [d1, d2] }
  | _ => none }
def EntryStillWrongFalsely : Prop := entryStillRow.holds Try.pinned (OpenSpec.ofChange entryStillWrong)

/-- 'turntablelaw14.EntryParts': WHATEVER THE INPUT: true; the input reads as it did. -/
def entryPartsSpec : ChangeSpec := { name := "entryParts", fn := fun _ => fun
  | [d] => { results := [.lit (.bool true)], args := [d] }
  | _ => none }
def entryPartsRow : OpenClaim := { program := "ytepfbpljkhchbaa", sum := "a8d5e8368f72bb4932bf8e3e39d5e14562bc15af99daab05b9893f45017a1aa0", func := "turntable/turntablelaw14.EntryParts", spec := "entryParts", unfollowed := true, recurses := true, apart := false }
def EntryPartsSaid : Prop := entryPartsRow.holds Try.pinned (OpenSpec.ofChange entryPartsSpec)

/-- ITS FALSE NEIGHBOUR: 'it returns false'. Refute it at one input. -/
def entryPartsWrong : ChangeSpec := { name := "entryParts", fn := fun _ => fun
  | [d] => { results := [.lit (.bool false)], args := [d] }
  | _ => none }
def EntryPartsWrongFalsely : Prop := entryPartsRow.holds Try.pinned (OpenSpec.ofChange entryPartsWrong)

/-- 'turntablelaw14.EntryBack': WHATEVER THE INPUT: true; the input reads as it did. -/
def entryBackSpec : ChangeSpec := { name := "entryBack", fn := fun _ => fun
  | [d1, d2, d3] => { results := [.lit (.bool true)], args := [d1, d2, d3] }
  | _ => none }
def entryBackRow : OpenClaim := { program := "ytepfbpljkhchbaa", sum := "a8d5e8368f72bb4932bf8e3e39d5e14562bc15af99daab05b9893f45017a1aa0", func := "turntable/turntablelaw14.EntryBack", spec := "entryBack", unfollowed := true, recurses := true, apart := false }
def EntryBackSaid : Prop := entryBackRow.holds Try.pinned (OpenSpec.ofChange entryBackSpec)

/-- ITS FALSE NEIGHBOUR: 'it returns false'. Refute it at one input. -/
def entryBackWrong : ChangeSpec := { name := "entryBack", fn := fun _ => fun
  | [d1, d2, d3] => { results := [.lit (.bool false)], args := [d1, d2, d3] }
  | _ => none }
def EntryBackWrongFalsely : Prop := entryBackRow.holds Try.pinned (OpenSpec.ofChange entryBackWrong)

/- THE SECOND FORM. 'bulk': how many values and letters a reading holds, each counted each time it is reached (what is shared counts as often as it is met; a slice's spare places count too). A statement '..UptoSaid' is the law's where the arguments, and the package variables that the reading takes, are together of bulk at most 1048576: NARROWER than '..Said'. Prove '..Said' where nothing that the law and all that it calls make is longer than what came in: it says more and counts as full. Else prove '..UptoSaid'. A law counts once. -/
mutual
def uptoBulk {H : Type} : DataW H → Nat
  | .lit (.string bytes) => bytes.length + 1
  | .lit _ => 1
  | .nil => 1
  | .ptr d => uptoBulk d + 1
  | .slice elems spare => uptoBulkAll elems + uptoBulkAll spare + 1
  | .agg parts => uptoBulkAll parts + 1
  | .iface _ d => uptoBulk d + 1
  | .map entries => uptoBulkEntries entries + 1
  | .held _ => 1
def uptoBulkAll {H : Type} : List (DataW H) → Nat
  | [] => 0
  | d :: r => uptoBulk d + uptoBulkAll r
def uptoBulkEntries {H : Type} : List (Lit × DataW H) → Nat
  | [] => 0
  | x :: r => uptoBulkEntry x + uptoBulkEntries r
def uptoBulkEntry {H : Type} : Lit × DataW H → Nat
  | (.string bytes, d) => bytes.length + uptoBulk d + 1
  | (_, d) => uptoBulk d + 1
 end
def uptoSmall : (H : Type) → List (DataW H) → Bool := fun _ ds => decide (uptoBulkAll ds ≤ 1048576)
def OpenSpec.upto (s : _root_.Go.ChangeSpec) : _root_.Go.OpenSpec := { _root_.Go.OpenSpec.ofChange s with cond := some uptoSmall }

/-- 'turntablelaw14.EntryPlays', WHERE WHAT IT READS IS OF BULK AT MOST 1048576: true; the input reads as it did. -/
def entryPlaysUptoRow : OpenClaim := { program := "ytepfbpljkhchbaa", sum := "a8d5e8368f72bb4932bf8e3e39d5e14562bc15af99daab05b9893f45017a1aa0", func := "turntable/turntablelaw14.EntryPlays", spec := "entryPlays", unfollowed := true, recurses := true, apart := false, narrowed := true }
def EntryPlaysUptoSaid : Prop := entryPlaysUptoRow.holds Try.pinned (OpenSpec.upto entryPlaysSpec)

/-- 'turntablelaw14.EntryMap', WHERE WHAT IT READS IS OF BULK AT MOST 1048576: true; the input reads as it did. -/
def entryMapUptoRow : OpenClaim := { program := "ytepfbpljkhchbaa", sum := "a8d5e8368f72bb4932bf8e3e39d5e14562bc15af99daab05b9893f45017a1aa0", func := "turntable/turntablelaw14.EntryMap", spec := "entryMap", unfollowed := true, recurses := true, apart := false, narrowed := true }
def EntryMapUptoSaid : Prop := entryMapUptoRow.holds Try.pinned (OpenSpec.upto entryMapSpec)

/-- 'turntablelaw14.EntryOrder', WHERE WHAT IT READS IS OF BULK AT MOST 1048576: true; the input reads as it did. -/
def entryOrderUptoRow : OpenClaim := { program := "ytepfbpljkhchbaa", sum := "a8d5e8368f72bb4932bf8e3e39d5e14562bc15af99daab05b9893f45017a1aa0", func := "turntable/turntablelaw14.EntryOrder", spec := "entryOrder", unfollowed := true, recurses := true, apart := false, narrowed := true }
def EntryOrderUptoSaid : Prop := entryOrderUptoRow.holds Try.pinned (OpenSpec.upto entryOrderSpec)

/-- 'turntablelaw14.EntryStill', WHERE WHAT IT READS IS OF BULK AT MOST 1048576: true; the input reads as it did. -/
def entryStillUptoRow : OpenClaim := { program := "ytepfbpljkhchbaa", sum := "a8d5e8368f72bb4932bf8e3e39d5e14562bc15af99daab05b9893f45017a1aa0", func := "turntable/turntablelaw14.EntryStill", spec := "entryStill", unfollowed := true, recurses := true, apart := false, narrowed := true }
def EntryStillUptoSaid : Prop := entryStillUptoRow.holds Try.pinned (OpenSpec.upto entryStillSpec)

/-- 'turntablelaw14.EntryParts', WHERE WHAT IT READS IS OF BULK AT MOST 1048576: true; the input reads as it did. -/
def entryPartsUptoRow : OpenClaim := { program := "ytepfbpljkhchbaa", sum := "a8d5e8368f72bb4932bf8e3e39d5e14562bc15af99daab05b9893f45017a1aa0", func := "turntable/turntablelaw14.EntryParts", spec := "entryParts", unfollowed := true, recurses := true, apart := false, narrowed := true }
def EntryPartsUptoSaid : Prop := entryPartsUptoRow.holds Try.pinned (OpenSpec.upto entryPartsSpec)

/-- 'turntablelaw14.EntryBack', WHERE WHAT IT READS IS OF BULK AT MOST 1048576: true; the input reads as it did. -/
def entryBackUptoRow : OpenClaim := { program := "ytepfbpljkhchbaa", sum := "a8d5e8368f72bb4932bf8e3e39d5e14562bc15af99daab05b9893f45017a1aa0", func := "turntable/turntablelaw14.EntryBack", spec := "entryBack", unfollowed := true, recurses := true, apart := false, narrowed := true }
def EntryBackUptoSaid : Prop := entryBackUptoRow.holds Try.pinned (OpenSpec.upto entryBackSpec)

end Rows
end Go.Proofs.Ytepfbpljkhchbaa
