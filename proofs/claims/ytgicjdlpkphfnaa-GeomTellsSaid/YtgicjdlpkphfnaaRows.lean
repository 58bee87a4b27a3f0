/-
  No cell of these rows narrows 'for every input' (looked for: loops, veiled, ifaces, maps, wideKeys, modest, calm, conditions, laid).
  DERIVED. THE GIVEN ROWS OF THIS SEAT. 5 by the template 'for every input the law returns true; each argument reads behind the call as it read before'; 0 by the template 'total and deterministic' (their statements: YtgicjdlpkphfnaaTotals.lean).
  GIVEN WITH THE SEED: the statements are not yours to turn. If you find one false, say at which input.
  Laid BY PROGRAM, IN A SANDBOX (cutbox-rows.mjs): the forced cells as the released guide's own fill.sh prints them over the translation 3cec40b4e9f773ac… (all of the seat's roots in one cut). By AI agents, Wed Nov 11 2026. No macro, syntax, notation, axiom, sorry.
-/
import Derived.Test.YtgicjdlpkphfnaaChecked
import GoSem.Claim
import GoSem.ClaimJoined
import GoSem.ClaimMapViews
import Derived.JoinedTies
import Derived.KernelRfl
namespace Go.Proofs.Ytgicjdlpkphfnaa
/- THE CELL 'sum', in the pinned program and in every row, IS THE sha256 OF THE DUMP (.gsa) THAT YtgicjdlpkphfnaaProg.lean LOADS. Nothing in Lean hashes anything: it is a label: what it is worth is what the hold of that sum in a sandbox is worth. -/
noncomputable def Try.pinned : Pinned := { name := "ytgicjdlpkphfnaa", sum := "3cec40b4e9f773ac88f8850cb212fcece80cadcd1c5d51523acecdbf5df598e1", checked := Try.checked }
namespace Rows
def none {H : Type} : Left H := { results := [], args := [] }

/-- 'turntablelaw17.GeomTells': WHATEVER THE INPUT: true; the input reads as it did. -/
def geomTellsSpec : ChangeSpec := { name := "geomTells", fn := fun _ => fun
  | [d1, d2] => { results := [.lit (.bool true)], args := [d1, d2] }
  | _ => none }
def geomTellsRow : OpenClaim := { program := "ytgicjdlpkphfnaa", sum := "3cec40b4e9f773ac88f8850cb212fcece80cadcd1c5d51523acecdbf5df598e1", func := "turntable/turntablelaw17.GeomTells", spec := "geomTells", apart := false }
def GeomTellsSaid : Prop := geomTellsRow.holds Try.pinned (OpenSpec.ofChange geomTellsSpec)

/-- ITS FALSE NEIGHBOUR: 'it returns false'. Refute it at one input. -/
def geomTellsWrong : ChangeSpec := { name := "geomTells", fn := fun _ => fun
  | [d1, d2] => { results := [.lit (.bool false)], args := [d1, d2] }
  | _ => none }
def GeomTellsWrongFalsely : Prop := geomTellsRow.holds Try.pinned (OpenSpec.ofChange geomTellsWrong)

/-- 'turntablelaw17.GeomApart': WHATEVER THE INPUT: true; the input reads as it did. -/
def geomApartSpec : ChangeSpec := { name := "geomApart", fn := fun _ => fun
  | [d1, d2, d3] => { results := [.lit (.bool true)], args := [d1, d2, d3] }
  | _ => none }
def geomApartRow : OpenClaim := { program := "ytgicjdlpkphfnaa", sum := "3cec40b4e9f773ac88f8850cb212fcece80cadcd1c5d51523acecdbf5df598e1", func := "turntable/turntablelaw17.GeomApart", spec := "geomApart", apart := false }
def GeomApartSaid : Prop := geomApartRow.holds Try.pinned (OpenSpec.ofChange geomApartSpec)

/-- ITS FALSE NEIGHBOUR: 'it returns false'. Refute it at one input. -/
def geomApartWrong : ChangeSpec := { name := "geomApart", fn := fun _ => fun
  | [d1, d2, d3] => { results := [.lit (.bool false)], args := [d1, d2, d3] }
  | _ => none }
def GeomApartWrongFalsely : Prop := geomApartRow.holds Try.pinned (OpenSpec.ofChange geomApartWrong)

/-- 'turntablelaw17.GeomRoom': WHATEVER THE INPUT: true; the input reads as it did. -/
def geomRoomSpec : ChangeSpec := { name := "geomRoom", fn := fun _ => fun
  | [d1, d2] => { results := [.lit (.bool true)], args := [d1, d2] }
  | _ => none }
def geomRoomRow : OpenClaim := { program := "ytgicjdlpkphfnaa", sum := "3cec40b4e9f773ac88f8850cb212fcece80cadcd1c5d51523acecdbf5df598e1", func := "turntable/turntablelaw17.GeomRoom", spec := "geomRoom", apart := false }
def GeomRoomSaid : Prop := geomRoomRow.holds Try.pinned (OpenSpec.ofChange geomRoomSpec)

/-- ITS FALSE NEIGHBOUR: 'it returns false'. Refute it at one input. -/
def geomRoomWrong : ChangeSpec := { name := "geomRoom", fn := fun _ => fun
  | [d1, d2] => { results := [.lit (.bool false)], args := [d1, d2] }
  | _ => none }
def GeomRoomWrongFalsely : Prop := geomRoomRow.holds Try.pinned (OpenSpec.ofChange geomRoomWrong)

/-- 'turntablelaw17.GeomOne': WHATEVER THE INPUT: true; the input reads as it did. -/
def geomOneSpec : ChangeSpec := { name := "geomOne", fn := fun _ => fun
  | [d] => { results := [.lit (.bool true)], args := [d] }
  | _ => none }
def geomOneRow : OpenClaim := { program := "ytgicjdlpkphfnaa", sum := "3cec40b4e9f773ac88f8850cb212fcece80cadcd1c5d51523acecdbf5df598e1", func := "turntable/turntablelaw17.GeomOne", spec := "geomOne", apart := false }
def GeomOneSaid : Prop := geomOneRow.holds Try.pinned (OpenSpec.ofChange geomOneSpec)

/-- ITS FALSE NEIGHBOUR: 'it returns false'. Refute it at one input. -/
def geomOneWrong : ChangeSpec := { name := "geomOne", fn := fun _ => fun
  | [d] => { results := [.lit (.bool false)], args := [d] }
  | _ => none }
def GeomOneWrongFalsely : Prop := geomOneRow.holds Try.pinned (OpenSpec.ofChange geomOneWrong)

/-- 'turntablelaw17.GeomCircle': WHATEVER THE INPUT: true; the input reads as it did. -/
def geomCircleSpec : ChangeSpec := { name := "geomCircle", fn := fun _ => fun
  | [d1, d2] => { results := [.lit (.bool true)], args := [d1, d2] }
  | _ => none }
def geomCircleRow : OpenClaim := { program := "ytgicjdlpkphfnaa", sum := "3cec40b4e9f773ac88f8850cb212fcece80cadcd1c5d51523acecdbf5df598e1", func := "turntable/turntablelaw17.GeomCircle", spec := "geomCircle", apart := false }
def GeomCircleSaid : Prop := geomCircleRow.holds Try.pinned (OpenSpec.ofChange geomCircleSpec)

/-- ITS FALSE NEIGHBOUR: 'it returns false'. Refute it at one input. -/
def geomCircleWrong : ChangeSpec := { name := "geomCircle", fn := fun _ => fun
  | [d1, d2] => { results := [.lit (.bool false)], args := [d1, d2] }
  | _ => none }
def GeomCircleWrongFalsely : Prop := geomCircleRow.holds Try.pinned (OpenSpec.ofChange geomCircleWrong)

/- THE SECOND FORM. 'bulk': how many values and letters a reading holds, each counted each time it is reached (what is shared counts as often as it is met; a slice's spare places count too). A statement '..UptoSaid' is the law's where the arguments, and the package variables that the reading takes, are together of bulk at most 1048576: NARROWER than '..Said'. Prove '..Said' where nothing that the law and all that it calls make is longer than what came in: it says more and counts as full. Else prove '..UptoSaid'. A law counts once. -/
mutual
def uptoBulk {H : Type} : DataW H → Nat
  | .lit (.string bytes) => bytes.length + 1
  | .lit _ => 1
  | .nil => 1
  | .ptr d => uptoBulk d + 1
  | .slice elems spare => uptoBulkAll elems + uptoBulkAll spare + 1
  | .agg parts => uptoBulkAll parts + 1
  | .iface _ d => uptoBulk d + 1
  | .map entries => uptoBulkEntries entries + 1
  | .held _ => 1
def uptoBulkAll {H : Type} : List (DataW H) → Nat
  | [] => 0
  | d :: r => uptoBulk d + uptoBulkAll r
def uptoBulkEntries {H : Type} : List (Lit × DataW H) → Nat
  | [] => 0
  | x :: r => uptoBulkEntry x + uptoBulkEntries r
def uptoBulkEntry {H : Type} : Lit × DataW H → Nat
  | (.string bytes, d) => bytes.length + uptoBulk d + 1
  | (_, d) => uptoBulk d + 1
 end
def uptoSmall : (H : Type) → List (DataW H) → Bool := fun _ ds => decide (uptoBulkAll ds ≤ 1048576)
def OpenSpec.upto (s : _root_.Go.ChangeSpec) : _root_.Go.OpenSpec := { _root_.Go.OpenSpec.ofChange s with cond := some uptoSmall }

/-- 'turntablelaw17.GeomTells', WHERE WHAT IT READS IS OF BULK AT MOST 1048576: true; the input reads as it did. -/
def geomTellsUptoRow : OpenClaim := { program := "ytgicjdlpkphfnaa", sum := "3cec40b4e9f773ac88f8850cb212fcece80cadcd1c5d51523acecdbf5df598e1", func := "turntable/turntablelaw17.GeomTells", spec := "geomTells", apart := false, narrowed := true }
def GeomTellsUptoSaid : Prop := geomTellsUptoRow.holds Try.pinned (OpenSpec.upto geomTellsSpec)

/-- 'turntablelaw17.GeomApart', WHERE WHAT IT READS IS OF BULK AT MOST 1048576: true; the input reads as it did. -/
def geomApartUptoRow : OpenClaim := { program := "ytgicjdlpkphfnaa", sum := "3cec40b4e9f773ac88f8850cb212fcece80cadcd1c5d51523acecdbf5df598e1", func := "turntable/turntablelaw17.GeomApart", spec := "geomApart", apart := false, narrowed := true }
def GeomApartUptoSaid : Prop := geomApartUptoRow.holds Try.pinned (OpenSpec.upto geomApartSpec)

/-- 'turntablelaw17.GeomRoom', WHERE WHAT IT READS IS OF BULK AT MOST 1048576: true; the input reads as it did. -/
def geomRoomUptoRow : OpenClaim := { program := "ytgicjdlpkphfnaa", sum := "3cec40b4e9f773ac88f8850cb212fcece80cadcd1c5d51523acecdbf5df598e1", func := "turntable/turntablelaw17.GeomRoom", spec := "geomRoom", apart := false, narrowed := true }
def GeomRoomUptoSaid : Prop := geomRoomUptoRow.holds Try.pinned (OpenSpec.upto geomRoomSpec)

/-- 'turntablelaw17.GeomOne', WHERE WHAT IT READS IS OF BULK AT MOST 1048576: true; the input reads as it did. -/
def geomOneUptoRow : OpenClaim := { program := "ytgicjdlpkphfnaa", sum := "3cec40b4e9f773ac88f8850cb212fcece80cadcd1c5d51523acecdbf5df598e1", func := "turntable/turntablelaw17.GeomOne", spec := "geomOne", apart := false, narrowed := true }
def GeomOneUptoSaid : Prop := geomOneUptoRow.holds Try.pinned (OpenSpec.upto geomOneSpec)

/-- 'turntablelaw17.GeomCircle', WHERE WHAT IT READS IS OF BULK AT MOST 1048576: true; the input reads as it did. -/
def geomCircleUptoRow : OpenClaim := { program := "ytgicjdlpkphfnaa", sum := "3cec40b4e9f773ac88f8850cb212fcece80cadcd1c5d51523acecdbf5df598e1", func := "turntable/turntablelaw17.GeomCircle", spec := "geomCircle", apart := false, narrowed := true }
def GeomCircleUptoSaid : Prop := geomCircleUptoRow.holds Try.pinned (OpenSpec.upto geomCircleSpec)

end Rows
end Go.Proofs.Ytgicjdlpkphfnaa
