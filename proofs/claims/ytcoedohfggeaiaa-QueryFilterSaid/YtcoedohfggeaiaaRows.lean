/-
  No cell of these rows narrows 'for every input' (looked for: loops, veiled, ifaces, maps, wideKeys, modest, calm, conditions, laid).
  DERIVED. THE GIVEN ROWS OF THIS SEAT. 6 by the template 'for every input the law returns true; each argument reads behind the call as it read before'; 0 by the template 'total and deterministic' (their statements: YtcoedohfggeaiaaTotals.lean).
  GIVEN WITH THE SEED: the statements are not yours to turn. If you find one false, say at which input.
  Laid BY PROGRAM, IN A SANDBOX (cutbox-rows.mjs): the forced cells as the released guide's own fill.sh prints them over the translation 9ba6eb34e77e9d60… (all of the seat's roots in one cut). By AI agents, Wed Nov 11 2026. No macro, syntax, notation, axiom, sorry.
-/
import Derived.Test.YtcoedohfggeaiaaChecked
import GoSem.Claim
import GoSem.ClaimJoined
import GoSem.ClaimMapViews
import Derived.JoinedTies
import Derived.KernelRfl
namespace Go.Proofs.Ytcoedohfggeaiaa
/- THE CELL 'sum', in the pinned program and in every row, IS THE sha256 OF THE DUMP (.gsa) THAT YtcoedohfggeaiaaProg.lean LOADS. Nothing in Lean hashes anything: it is a label: what it is worth is what the hold of that sum in a sandbox is worth. -/
noncomputable def Try.pinned : Pinned := { name := "ytcoedohfggeaiaa", sum := "9ba6eb34e77e9d605f20f493c031a419b43cb808ba6e3f86839dacdfe4cb0ce7", checked := Try.checked }
namespace Rows
def none {H : Type} : Left H := { results := [], args := [] }

/-- 'turntablelaw15.QueryTells': WHATEVER THE INPUT: true; the input reads as it did. -/
def queryTellsSpec : ChangeSpec := { name := "queryTells", fn := fun _ => fun
  | [d1, d2, d3] => { results := [.lit (.bool true)], args := [d1, d2, d3] }
  | _ => none }
def queryTellsRow : OpenClaim := { program := "ytcoedohfggeaiaa", sum := "9ba6eb34e77e9d605f20f493c031a419b43cb808ba6e3f86839dacdfe4cb0ce7", func := "turntable/turntablelaw15.QueryTells", spec := "queryTells", unfollowed := true, recurses := true, apart := false }
def QueryTellsSaid : Prop := queryTellsRow.holds Try.pinned (OpenSpec.ofChange queryTellsSpec)

/-- ITS FALSE NEIGHBOUR: 'it returns false'. Refute it at one input. -/
def queryTellsWrong : ChangeSpec := { name := "queryTells", fn := fun _ => fun
  | [d1, d2, d3] => { results := [.lit (.bool false)], args := [d1, d2, d3] }
  | _ => none }
def QueryTellsWrongFalsely : Prop := queryTellsRow.holds Try.pinned (OpenSpec.ofChange queryTellsWrong)

/-- 'turntablelaw15.QueryPages': WHATEVER THE INPUT: true; the input reads as it did. -/
def queryPagesSpec : ChangeSpec := { name := "queryPages", fn := fun _ => fun
  | [d1, d2, d3] => { results := [.lit (.bool true)], args := [d1, d2, d3] }
  | _ => none }
def queryPagesRow : OpenClaim := { program := "ytcoedohfggeaiaa", sum := "9ba6eb34e77e9d605f20f493c031a419b43cb808ba6e3f86839dacdfe4cb0ce7", func := "turntable/turntablelaw15.QueryPages", spec := "queryPages", unfollowed := true, recurses := true, apart := false }
def QueryPagesSaid : Prop := queryPagesRow.holds Try.pinned (OpenSpec.ofChange queryPagesSpec)

/-- ITS FALSE NEIGHBOUR: 'it returns false'. Refute it at one input. -/
def queryPagesWrong : ChangeSpec := { name := "queryPages", fn := fun _ => fun
  | [d1, d2, d3] => { results := [.lit (.bool false)], args := [d1, d2, d3] }
  | _ => none }
def QueryPagesWrongFalsely : Prop := queryPagesRow.holds Try.pinned (OpenSpec.ofChange queryPagesWrong)

/-- 'turntablelaw15.QueryFilter': WHATEVER THE INPUT: true; the input reads as it did. -/
def queryFilterSpec : ChangeSpec := { name := "queryFilter", fn := fun _ => fun
  | [d1, d2] => { results := [.lit (.bool true)], args := [d1, d2] }
  | _ => none }
def queryFilterRow : OpenClaim := { program := "ytcoedohfggeaiaa", sum := "9ba6eb34e77e9d605f20f493c031a419b43cb808ba6e3f86839dacdfe4cb0ce7", func := "turntable/turntablelaw15.QueryFilter", spec := "queryFilter", unfollowed := true, recurses := true, apart := false }
def QueryFilterSaid : Prop := queryFilterRow.holds Try.pinned (OpenSpec.ofChange queryFilterSpec)

/-- ITS FALSE NEIGHBOUR: 'it returns false'. Refute it at one input. -/
def queryFilterWrong : ChangeSpec := { name := "queryFilter", fn := fun _ => fun
  | [d1, d2] => { results := [.lit (.bool false)], args := [d1, d2] }
  | _ => none }
def QueryFilterWrongFalsely : Prop := queryFilterRow.holds Try.pinned (OpenSpec.ofChange queryFilterWrong)

/-- 'turntablelaw15.QueryNarrows': WHATEVER THE INPUT: true; the input reads as it did. -/
def queryNarrowsSpec : ChangeSpec := { name := "queryNarrows", fn := fun _ => fun
  | [d1, d2, d3, d4, d5] => { results := [.lit (.bool true)], args := [d1, d2, d3, d4, d5] }
  | _ => none }
def queryNarrowsRow : OpenClaim := { program := "ytcoedohfggeaiaa", sum := "9ba6eb34e77e9d605f20f493c031a419b43cb808ba6e3f86839dacdfe4cb0ce7", func := "turntable/turntablelaw15.QueryNarrows", spec := "queryNarrows", unfollowed := true, recurses := true, apart := false }
def QueryNarrowsSaid : Prop := queryNarrowsRow.holds Try.pinned (OpenSpec.ofChange queryNarrowsSpec)

/-- ITS FALSE NEIGHBOUR: 'it returns false'. Refute it at one input. -/
def queryNarrowsWrong : ChangeSpec := { name := "queryNarrows", fn := fun _ => fun
  | [d1, d2, d3, d4, d5] => { results := [.lit (.bool false)], args := [d1, d2, d3, d4, d5] }
  | _ => none }
def QueryNarrowsWrongFalsely : Prop := queryNarrowsRow.holds Try.pinned (OpenSpec.ofChange queryNarrowsWrong)

/-- 'turntablelaw15.QueryEither': WHATEVER THE INPUT: true; the input reads as it did. -/
def queryEitherSpec : ChangeSpec := { name := "queryEither", fn := fun _ => fun
  | [d1, d2] => { results := [.lit (.bool true)], args := [d1, d2] }
  | _ => none }
def queryEitherRow : OpenClaim := { program := "ytcoedohfggeaiaa", sum := "9ba6eb34e77e9d605f20f493c031a419b43cb808ba6e3f86839dacdfe4cb0ce7", func := "turntable/turntablelaw15.QueryEither", spec := "queryEither", unfollowed := true, recurses := true, apart := false }
def QueryEitherSaid : Prop := queryEitherRow.holds Try.pinned (OpenSpec.ofChange queryEitherSpec)

/-- ITS FALSE NEIGHBOUR: 'it returns false'. Refute it at one input. -/
def queryEitherWrong : ChangeSpec := { name := "queryEither", fn := fun _ => fun
  | [d1, d2] => { results := [.lit (.bool false)], args := [d1, d2] }
  | _ => none }
def QueryEitherWrongFalsely : Prop := queryEitherRow.holds Try.pinned (OpenSpec.ofChange queryEitherWrong)

/-- 'turntablelaw15.QueryBehind': WHATEVER THE INPUT: true; the input reads as it did. -/
def queryBehindSpec : ChangeSpec := { name := "queryBehind", fn := fun _ => fun
  | [d1, d2, d3] => { results := [.lit (.bool true)], args := [d1, d2, d3] }
  | _ => none }
def queryBehindRow : OpenClaim := { program := "ytcoedohfggeaiaa", sum := "9ba6eb34e77e9d605f20f493c031a419b43cb808ba6e3f86839dacdfe4cb0ce7", func := "turntable/turntablelaw15.QueryBehind", spec := "queryBehind", unfollowed := true, recurses := true, apart := false }
def QueryBehindSaid : Prop := queryBehindRow.holds Try.pinned (OpenSpec.ofChange queryBehindSpec)

/-- ITS FALSE NEIGHBOUR: 'it returns false'. Refute it at one input. -/
def queryBehindWrong : ChangeSpec := { name := "queryBehind", fn := fun _ => fun
  | [d1, d2, d3] => { results := [.lit (.bool false)], args := [d1, d2, d3] }
  | _ => none }
def QueryBehindWrongFalsely : Prop := queryBehindRow.holds Try.pinned (OpenSpec.ofChange queryBehindWrong)

/- THE SECOND FORM. 'bulk': how many values and letters a reading holds, each counted each time it is reached (what is shared counts as often as it is met; a slice's spare places count too). A statement '..UptoSaid' is the law's where the arguments, and the package variables that the reading takes, are together of bulk at most 1048576: NARROWER than '..Said'. Prove '..Said' where nothing that the law and all that it calls make is longer than what came in: it says more and counts as full. Else prove '..UptoSaid'. A law counts once. -/
mutual
def uptoBulk {H : Type} : DataW H → Nat
  | .lit (.string bytes) => bytes.length + 1
  | .lit _ => 1
  | .nil => 1
  | .ptr d => uptoBulk d + 1
  | .slice elems spare => uptoBulkAll elems + uptoBulkAll spare + 1
  | .agg parts => uptoBulkAll parts + 1
  | .iface _ d => uptoBulk d + 1
  | .map entries => uptoBulkEntries entries + 1
  | .held _ => 1
def uptoBulkAll {H : Type} : List (DataW H) → Nat
  | [] => 0
  | d :: r => uptoBulk d + uptoBulkAll r
def uptoBulkEntries {H : Type} : List (Lit × DataW H) → Nat
  | [] => 0
  | x :: r => uptoBulkEntry x + uptoBulkEntries r
def uptoBulkEntry {H : Type} : Lit × DataW H → Nat
  | (.string bytes, d) => bytes.length + uptoBulk d + 1
  | (_, d) => uptoBulk d + 1
 end
def uptoSmall : (H : Type) → List (DataW H) → Bool := fun _ ds => decide (uptoBulkAll ds ≤ 1048576)
def OpenSpec.upto (s : _root_.Go.ChangeSpec) : _root_.Go.OpenSpec := { _root_.Go.OpenSpec.ofChange s with cond := some uptoSmall }

/-- 'turntablelaw15.QueryTells', WHERE WHAT IT READS IS OF BULK AT MOST 1048576: true; the input reads as it did. -/
def queryTellsUptoRow : OpenClaim := { program := "ytcoedohfggeaiaa", sum := "9ba6eb34e77e9d605f20f493c031a419b43cb808ba6e3f86839dacdfe4cb0ce7", func := "turntable/turntablelaw15.QueryTells", spec := "queryTells", unfollowed := true, recurses := true, apart := false, narrowed := true }
def QueryTellsUptoSaid : Prop := queryTellsUptoRow.holds Try.pinned (OpenSpec.upto queryTellsSpec)

/-- 'turntablelaw15.QueryPages', WHERE WHAT IT READS IS OF BULK AT MOST 1048576: true; the input reads as it did. -/
def queryPagesUptoRow : OpenClaim := { program := "ytcoedohfggeaiaa", sum := "9ba6eb34e77e9d605f20f493c031a419b43cb808ba6e3f86839dacdfe4cb0ce7", func := "turntable/turntablelaw15.QueryPages", spec := "queryPages", unfollowed := true, recurses := true, apart := false, narrowed := true }
def QueryPagesUptoSaid : Prop := queryPagesUptoRow.holds Try.pinned (OpenSpec.upto queryPagesSpec)

/-- 'turntablelaw15.QueryFilter', WHERE WHAT IT READS IS OF BULK AT MOST 1048576: true; the input reads as it did. -/
def queryFilterUptoRow : OpenClaim := { program := "ytcoedohfggeaiaa", sum := "9ba6eb34e77e9d605f20f493c031a419b43cb808ba6e3f86839dacdfe4cb0ce7", func := "turntable/turntablelaw15.QueryFilter", spec := "queryFilter", unfollowed := true, recurses := true, apart := false, narrowed := true }
def QueryFilterUptoSaid : Prop := queryFilterUptoRow.holds Try.pinned (OpenSpec.upto queryFilterSpec)

/-- 'turntablelaw15.QueryNarrows', WHERE WHAT IT READS IS OF BULK AT MOST 1048576: true; the input reads as it did. -/
def queryNarrowsUptoRow : OpenClaim := { program := "ytcoedohfggeaiaa", sum := "9ba6eb34e77e9d605f20f493c031a419b43cb808ba6e3f86839dacdfe4cb0ce7", func := "turntable/turntablelaw15.QueryNarrows", spec := "queryNarrows", unfollowed := true, recurses := true, apart := false, narrowed := true }
def QueryNarrowsUptoSaid : Prop := queryNarrowsUptoRow.holds Try.pinned (OpenSpec.upto queryNarrowsSpec)

/-- 'turntablelaw15.QueryEither', WHERE WHAT IT READS IS OF BULK AT MOST 1048576: true; the input reads as it did. -/
def queryEitherUptoRow : OpenClaim := { program := "ytcoedohfggeaiaa", sum := "9ba6eb34e77e9d605f20f493c031a419b43cb808ba6e3f86839dacdfe4cb0ce7", func := "turntable/turntablelaw15.QueryEither", spec := "queryEither", unfollowed := true, recurses := true, apart := false, narrowed := true }
def QueryEitherUptoSaid : Prop := queryEitherUptoRow.holds Try.pinned (OpenSpec.upto queryEitherSpec)

/-- 'turntablelaw15.QueryBehind', WHERE WHAT IT READS IS OF BULK AT MOST 1048576: true; the input reads as it did. -/
def queryBehindUptoRow : OpenClaim := { program := "ytcoedohfggeaiaa", sum := "9ba6eb34e77e9d605f20f493c031a419b43cb808ba6e3f86839dacdfe4cb0ce7", func := "turntable/turntablelaw15.QueryBehind", spec := "queryBehind", unfollowed := true, recurses := true, apart := false, narrowed := true }
def QueryBehindUptoSaid : Prop := queryBehindUptoRow.holds Try.pinned (OpenSpec.upto queryBehindSpec)

end Rows
end Go.Proofs.Ytcoedohfggeaiaa
