/-
  No cell of these rows narrows 'for every input' (looked for: loops, veiled, ifaces, maps, wideKeys, modest, calm, conditions, laid).
  DERIVED. THE GIVEN ROWS OF THIS SEAT. 6 by the template 'for every input the law returns true; each argument reads behind the call as it read before'; 0 by the template 'total and deterministic' (their statements: YtldecmodhppjpaaTotals.lean).
  GIVEN WITH THE SEED: the statements are not yours to turn. If you find one false, say at which input.
  Laid BY PROGRAM, IN A SANDBOX (cutbox-rows.mjs): the forced cells as the released guide's own fill.sh prints them over the translation 8ade4d704efa6f51… (all of the seat's roots in one cut). By AI agents, Wed Nov 11 2026. No macro, syntax, notation, axiom, sorry.
-/
import Derived.Test.YtldecmodhppjpaaChecked
import GoSem.Claim
import GoSem.ClaimJoined
import GoSem.ClaimMapViews
import Derived.JoinedTies
import Derived.KernelRfl
namespace Go.Proofs.Ytldecmodhppjpaa
/- THE CELL 'sum', in the pinned program and in every row, IS THE sha256 OF THE DUMP (.gsa) THAT YtldecmodhppjpaaProg.lean LOADS. Nothing in Lean hashes anything: it is a label: what it is worth is what the hold of that sum in a sandbox is worth. -/
noncomputable def Try.pinned : Pinned := { name := "ytldecmodhppjpaa", sum := "8ade4d704efa6f5100b6a766d3e00a92fb673a05e63225972115a2cffb4feaf6", checked := Try.checked }
namespace Rows
def none {H : Type} : Left H := { results := [], args := [] }

/-- 'turntablelaw07.DevPlays': WHATEVER THE INPUT: true; the input reads as it did. -/
def devPlaysSpec : ChangeSpec := { name := "devPlays", fn := fun _ => fun
  | [d1, d2] => { results := [.lit (.bool true)], args := [d1, d2] }
  | _ => none }
def devPlaysRow : OpenClaim := { program := "ytldecmodhppjpaa", sum := "8ade4d704efa6f5100b6a766d3e00a92fb673a05e63225972115a2cffb4feaf6", func := "turntable/turntablelaw07.DevPlays", spec := "devPlays", unfollowed := true, recurses := true, apart := false }
def DevPlaysSaid : Prop := devPlaysRow.holds Try.pinned (OpenSpec.ofChange devPlaysSpec)

/-- ITS FALSE NEIGHBOUR: 'it returns false'. Refute it at one input. -/
def devPlaysWrong : ChangeSpec := { name := "devPlays", fn := fun _ => fun
  | [d1, d2] => { results := [.lit (.bool false)], args := [d1, d2] }
  | _ => none }
def DevPlaysWrongFalsely : Prop := devPlaysRow.holds Try.pinned (OpenSpec.ofChange devPlaysWrong)

/-- 'turntablelaw07.DevKept': WHATEVER THE INPUT: true; the input reads as it did. -/
def devKeptSpec : ChangeSpec := { name := "devKept", fn := fun _ => fun
  | [d1, d2] => { results := [.lit (.bool true)], args := [d1, d2] }
  | _ => none }
def devKeptRow : OpenClaim := { program := "ytldecmodhppjpaa", sum := "8ade4d704efa6f5100b6a766d3e00a92fb673a05e63225972115a2cffb4feaf6", func := "turntable/turntablelaw07.DevKept", spec := "devKept", unfollowed := true, recurses := true, apart := false }
def DevKeptSaid : Prop := devKeptRow.holds Try.pinned (OpenSpec.ofChange devKeptSpec)

/-- ITS FALSE NEIGHBOUR: 'it returns false'. Refute it at one input. -/
def devKeptWrong : ChangeSpec := { name := "devKept", fn := fun _ => fun
  | [d1, d2] => { results := [.lit (.bool false)], args := [d1, d2] }
  | _ => none }
def DevKeptWrongFalsely : Prop := devKeptRow.holds Try.pinned (OpenSpec.ofChange devKeptWrong)

/-- 'turntablelaw07.DevPlace': WHATEVER THE INPUT: true; the input reads as it did. -/
def devPlaceSpec : ChangeSpec := { name := "devPlace", fn := fun _ => fun
  | [d1, d2, d3] => { results := [.lit (.bool true)], args := [d1, d2, d3] }
  | _ => none }
def devPlaceRow : OpenClaim := { program := "ytldecmodhppjpaa", sum := "8ade4d704efa6f5100b6a766d3e00a92fb673a05e63225972115a2cffb4feaf6", func := "turntable/turntablelaw07.DevPlace", spec := "devPlace", unfollowed := true, recurses := true, apart := false }
def DevPlaceSaid : Prop := devPlaceRow.holds Try.pinned (OpenSpec.ofChange devPlaceSpec)

/-- ITS FALSE NEIGHBOUR: 'it returns false'. Refute it at one input. -/
def devPlaceWrong : ChangeSpec := { name := "devPlace", fn := fun _ => fun
  | [d1, d2, d3] => { results := [.lit (.bool false)], args := [d1, d2, d3] }
  | _ => none }
def DevPlaceWrongFalsely : Prop := devPlaceRow.holds Try.pinned (OpenSpec.ofChange devPlaceWrong)

/-- 'turntablelaw07.DevCuts': WHATEVER THE INPUT: true; the input reads as it did. -/
def devCutsSpec : ChangeSpec := { name := "devCuts", fn := fun _ => fun
  | [d1, d2] => { results := [.lit (.bool true)], args := [d1, d2] }
  | _ => none }
def devCutsRow : OpenClaim := { program := "ytldecmodhppjpaa", sum := "8ade4d704efa6f5100b6a766d3e00a92fb673a05e63225972115a2cffb4feaf6", func := "turntable/turntablelaw07.DevCuts", spec := "devCuts", unfollowed := true, recurses := true, apart := false }
def DevCutsSaid : Prop := devCutsRow.holds Try.pinned (OpenSpec.ofChange devCutsSpec)

/-- ITS FALSE NEIGHBOUR: 'it returns false'. Refute it at one input. -/
def devCutsWrong : ChangeSpec := { name := "devCuts", fn := fun _ => fun
  | [d1, d2] => { results := [.lit (.bool false)], args := [d1, d2] }
  | _ => none }
def DevCutsWrongFalsely : Prop := devCutsRow.holds Try.pinned (OpenSpec.ofChange devCutsWrong)

/-- 'turntablelaw07.DevReads': WHATEVER THE INPUT: true; the input reads as it did. -/
def devReadsSpec : ChangeSpec := { name := "devReads", fn := fun _ => fun
  | [d1, d2, d3] => { results := [.lit (.bool true)], args := [d1, d2, d3] }
  | _ => none }
def devReadsRow : OpenClaim := { program := "ytldecmodhppjpaa", sum := "8ade4d704efa6f5100b6a766d3e00a92fb673a05e63225972115a2cffb4feaf6", func := "turntable/turntablelaw07.DevReads", spec := "devReads", unfollowed := true, recurses := true, apart := false }
def DevReadsSaid : Prop := devReadsRow.holds Try.pinned (OpenSpec.ofChange devReadsSpec)

/-- ITS FALSE NEIGHBOUR: 'it returns false'. Refute it at one input. -/
def devReadsWrong : ChangeSpec := { name := "devReads", fn := fun _ => fun
  | [d1, d2, d3] => { results := [.lit (.bool false)], args := [d1, d2, d3] }
  | _ => none }
def DevReadsWrongFalsely : Prop := devReadsRow.holds Try.pinned (OpenSpec.ofChange devReadsWrong)

/-- 'turntablelaw07.DevBoots': WHATEVER THE INPUT: true; the input reads as it did. -/
def devBootsSpec : ChangeSpec := { name := "devBoots", fn := fun _ => fun
  | [d1, d2] => { results := [.lit (.bool true)], args := [d1, d2] }
  | _ => none }
def devBootsRow : OpenClaim := { program := "ytldecmodhppjpaa", sum := "8ade4d704efa6f5100b6a766d3e00a92fb673a05e63225972115a2cffb4feaf6", func := "turntable/turntablelaw07.DevBoots", spec := "devBoots", unfollowed := true, recurses := true, apart := false }
def DevBootsSaid : Prop := devBootsRow.holds Try.pinned (OpenSpec.ofChange devBootsSpec)

/-- ITS FALSE NEIGHBOUR: 'it returns false'. Refute it at one input. -/
def devBootsWrong : ChangeSpec := { name := "devBoots", fn := fun _ => fun
  | [d1, d2] => { results := [.lit (.bool false)], args := [d1, d2] }
  | _ => none }
def DevBootsWrongFalsely : Prop := devBootsRow.holds Try.pinned (OpenSpec.ofChange devBootsWrong)

/- THE SECOND FORM. 'bulk': how many values and letters a reading holds, each counted each time it is reached (what is shared counts as often as it is met; a slice's spare places count too). A statement '..UptoSaid' is the law's where the arguments, and the package variables that the reading takes, are together of bulk at most 1048576: NARROWER than '..Said'. Prove '..Said' where nothing that the law and all that it calls make is longer than what came in: it says more and counts as full. Else prove '..UptoSaid'. A law counts once. -/
mutual
def uptoBulk {H : Type} : DataW H → Nat
  | .lit (.string bytes) => bytes.length + 1
  | .lit _ => 1
  | .nil => 1
  | .ptr d => uptoBulk d + 1
  | .slice elems spare => uptoBulkAll elems + uptoBulkAll spare + 1
  | .agg parts => uptoBulkAll parts + 1
  | .iface _ d => uptoBulk d + 1
  | .map entries => uptoBulkEntries entries + 1
  | .held _ => 1
def uptoBulkAll {H : Type} : List (DataW H) → Nat
  | [] => 0
  | d :: r => uptoBulk d + uptoBulkAll r
def uptoBulkEntries {H : Type} : List (Lit × DataW H) → Nat
  | [] => 0
  | x :: r => uptoBulkEntry x + uptoBulkEntries r
def uptoBulkEntry {H : Type} : Lit × DataW H → Nat
  | (.string bytes, d) => bytes.length + uptoBulk d + 1
  | (_, d) => uptoBulk d + 1
 end
def uptoSmall : (H : Type) → List (DataW H) → Bool := fun _ ds => decide (uptoBulkAll ds ≤ 1048576)
def OpenSpec.upto (s : _root_.Go.ChangeSpec) : _root_.Go.OpenSpec := { _root_.Go.OpenSpec.ofChange s with cond := some uptoSmall }

/-- 'turntablelaw07.DevPlays', WHERE WHAT IT READS IS OF BULK AT MOST 1048576: true; the input reads as it did. -/
def devPlaysUptoRow : OpenClaim := { program := "ytldecmodhppjpaa", sum := "8ade4d704efa6f5100b6a766d3e00a92fb673a05e63225972115a2cffb4feaf6", func := "turntable/turntablelaw07.DevPlays", spec := "devPlays", unfollowed := true, recurses := true, apart := false, narrowed := true }
def DevPlaysUptoSaid : Prop := devPlaysUptoRow.holds Try.pinned (OpenSpec.upto devPlaysSpec)

/-- 'turntablelaw07.DevKept', WHERE WHAT IT READS IS OF BULK AT MOST 1048576: true; the input reads as it did. -/
def devKeptUptoRow : OpenClaim := { program := "ytldecmodhppjpaa", sum := "8ade4d704efa6f5100b6a766d3e00a92fb673a05e63225972115a2cffb4feaf6", func := "turntable/turntablelaw07.DevKept", spec := "devKept", unfollowed := true, recurses := true, apart := false, narrowed := true }
def DevKeptUptoSaid : Prop := devKeptUptoRow.holds Try.pinned (OpenSpec.upto devKeptSpec)

/-- 'turntablelaw07.DevPlace', WHERE WHAT IT READS IS OF BULK AT MOST 1048576: true; the input reads as it did. -/
def devPlaceUptoRow : OpenClaim := { program := "ytldecmodhppjpaa", sum := "8ade4d704efa6f5100b6a766d3e00a92fb673a05e63225972115a2cffb4feaf6", func := "turntable/turntablelaw07.DevPlace", spec := "devPlace", unfollowed := true, recurses := true, apart := false, narrowed := true }
def DevPlaceUptoSaid : Prop := devPlaceUptoRow.holds Try.pinned (OpenSpec.upto devPlaceSpec)

/-- 'turntablelaw07.DevCuts', WHERE WHAT IT READS IS OF BULK AT MOST 1048576: true; the input reads as it did. -/
def devCutsUptoRow : OpenClaim := { program := "ytldecmodhppjpaa", sum := "8ade4d704efa6f5100b6a766d3e00a92fb673a05e63225972115a2cffb4feaf6", func := "turntable/turntablelaw07.DevCuts", spec := "devCuts", unfollowed := true, recurses := true, apart := false, narrowed := true }
def DevCutsUptoSaid : Prop := devCutsUptoRow.holds Try.pinned (OpenSpec.upto devCutsSpec)

/-- 'turntablelaw07.DevReads', WHERE WHAT IT READS IS OF BULK AT MOST 1048576: true; the input reads as it did. -/
def devReadsUptoRow : OpenClaim := { program := "ytldecmodhppjpaa", sum := "8ade4d704efa6f5100b6a766d3e00a92fb673a05e63225972115a2cffb4feaf6", func := "turntable/turntablelaw07.DevReads", spec := "devReads", unfollowed := true, recurses := true, apart := false, narrowed := true }
def DevReadsUptoSaid : Prop := devReadsUptoRow.holds Try.pinned (OpenSpec.upto devReadsSpec)

/-- 'turntablelaw07.DevBoots', WHERE WHAT IT READS IS OF BULK AT MOST 1048576: true; the input reads as it did. -/
def devBootsUptoRow : OpenClaim := { program := "ytldecmodhppjpaa", sum := "8ade4d704efa6f5100b6a766d3e00a92fb673a05e63225972115a2cffb4feaf6", func := "turntable/turntablelaw07.DevBoots", spec := "devBoots", unfollowed := true, recurses := true, apart := false, narrowed := true }
def DevBootsUptoSaid : Prop := devBootsUptoRow.holds Try.pinned (OpenSpec.upto devBootsSpec)

end Rows
end Go.Proofs.Ytldecmodhppjpaa
