/-
  NARROWER THAN 'FOR EVERY INPUT', by the rows' own cells (each row's printed sentence says how): SuperSwaps: laid · SuperBarrier: laid · SuperGreater: laid · SuperNone: laid.
  DERIVED. THE GIVEN ROWS OF THIS SEAT. 4 by the template 'for every input the law returns true; each argument reads behind the call as it read before'; 0 by the template 'total and deterministic' (their statements: YtehnhjnkbclnlaaDoorTotals.lean).
  GIVEN WITH THE SEED: the statements are not yours to turn. If you find one false, say at which input.
  Laid BY PROGRAM, IN A SANDBOX (cutbox-rows.mjs): the forced cells as the released guide's own fill.sh prints them over the translation fa2ead6464c87c20… (all of the seat's roots in one cut). By AI agents, Wed Nov 11 2026. No macro, syntax, notation, axiom, sorry.
-/
import Derived.Test.YtehnhjnkbclnlaaDoorChecked
import GoSem.Claim
import GoSem.ClaimJoined
import GoSem.ClaimMapViews
import Derived.JoinedTies
import Derived.KernelRfl
namespace Go.Proofs.YtehnhjnkbclnlaaDoor
/- THE CELL 'sum', in the pinned program and in every row, IS THE sha256 OF THE DUMP (.gsa) THAT YtehnhjnkbclnlaaDoorProg.lean LOADS. Nothing in Lean hashes anything: it is a label: what it is worth is what the hold of that sum in a sandbox is worth. -/
noncomputable def Tryd.pinned : Pinned := { name := "ytehnhjnkbclnlaadoor", sum := "fa2ead6464c87c200a11a91ac03c67936ec4cbe5665b31739bc4c84f73e6779f", checked := Tryd.checked }
namespace Rows
def none {H : Type} : Left H := { results := [], args := [] }

/- WHAT THE LISTED PACKAGE-LEVEL VARIABLES READ AS WHEN THE CALL BEGINS. Each datum BY PROGRAM (the guide's laid-datum.mjs) off the statement by which the dump's own 'gosem.cut.vars' lays the variable. In a bare row this is a premise. The card (YtehnhjnkbclnlaaDoorCards.lean) ties it to the program's text. -/
def laid_turntable_crc_steps {H : Type} : DataW H := .agg [.lit (.int .u32 0), .lit (.int .u32 274646895), .lit (.int .u32 549293790), .lit (.int .u32 820201905), .lit (.int .u32 1098587580), .lit (.int .u32 1361435347), .lit (.int .u32 1640403810), .lit (.int .u32 1905808397), .lit (.int .u32 2197175160), .lit (.int .u32 2460548119), .lit (.int .u32 2722870694), .lit (.int .u32 2987750089), .lit (.int .u32 3280807620), .lit (.int .u32 3553878443), .lit (.int .u32 3811616794), .lit (.int .u32 4084100981)]

/-- 'turntablelaw10.SuperSwaps': WHATEVER THE INPUT: true; the input reads as it did. -/
def superSwapsSpec : ChangeSpec := { name := "superSwaps", fn := fun _ => fun
  | [d1, d2, d3, d4, d5] => { results := [.lit (.bool true)], args := [d1, d2, d3, d4, d5] }
  | _ => none }
def superSwapsRow : OpenClaim := { program := "ytehnhjnkbclnlaadoor", sum := "fa2ead6464c87c200a11a91ac03c67936ec4cbe5665b31739bc4c84f73e6779f", func := "turntable/turntablelaw10.SuperSwaps", spec := "superSwaps", unfollowed := true, recurses := true, named := ["turntable/crc.steps"], apart := false, laid := [("turntable/crc.steps", laid_turntable_crc_steps)] }
def SuperSwapsSaid : Prop := superSwapsRow.holds Tryd.pinned (OpenSpec.ofChange superSwapsSpec)

/-- ITS FALSE NEIGHBOUR: 'it returns false'. Refute it at one input. -/
def superSwapsWrong : ChangeSpec := { name := "superSwaps", fn := fun _ => fun
  | [d1, d2, d3, d4, d5] => { results := [.lit (.bool false)], args := [d1, d2, d3, d4, d5] }
  | _ => none }
def SuperSwapsWrongFalsely : Prop := superSwapsRow.holds Tryd.pinned (OpenSpec.ofChange superSwapsWrong)

/-- 'turntablelaw10.SuperBarrier': WHATEVER THE INPUT: true; the input reads as it did. -/
def superBarrierSpec : ChangeSpec := { name := "superBarrier", fn := fun _ => fun
  | [d1, d2, d3] => { results := [.lit (.bool true)], args := [d1, d2, d3] }
  | _ => none }
def superBarrierRow : OpenClaim := { program := "ytehnhjnkbclnlaadoor", sum := "fa2ead6464c87c200a11a91ac03c67936ec4cbe5665b31739bc4c84f73e6779f", func := "turntable/turntablelaw10.SuperBarrier", spec := "superBarrier", unfollowed := true, recurses := true, named := ["turntable/crc.steps"], apart := false, laid := [("turntable/crc.steps", laid_turntable_crc_steps)] }
def SuperBarrierSaid : Prop := superBarrierRow.holds Tryd.pinned (OpenSpec.ofChange superBarrierSpec)

/-- ITS FALSE NEIGHBOUR: 'it returns false'. Refute it at one input. -/
def superBarrierWrong : ChangeSpec := { name := "superBarrier", fn := fun _ => fun
  | [d1, d2, d3] => { results := [.lit (.bool false)], args := [d1, d2, d3] }
  | _ => none }
def SuperBarrierWrongFalsely : Prop := superBarrierRow.holds Tryd.pinned (OpenSpec.ofChange superBarrierWrong)

/-- 'turntablelaw10.SuperGreater': WHATEVER THE INPUT: true; the input reads as it did. -/
def superGreaterSpec : ChangeSpec := { name := "superGreater", fn := fun _ => fun
  | [d1, d2] => { results := [.lit (.bool true)], args := [d1, d2] }
  | _ => none }
def superGreaterRow : OpenClaim := { program := "ytehnhjnkbclnlaadoor", sum := "fa2ead6464c87c200a11a91ac03c67936ec4cbe5665b31739bc4c84f73e6779f", func := "turntable/turntablelaw10.SuperGreater", spec := "superGreater", unfollowed := true, recurses := true, named := ["turntable/crc.steps"], apart := false, laid := [("turntable/crc.steps", laid_turntable_crc_steps)] }
def SuperGreaterSaid : Prop := superGreaterRow.holds Tryd.pinned (OpenSpec.ofChange superGreaterSpec)

/-- ITS FALSE NEIGHBOUR: 'it returns false'. Refute it at one input. -/
def superGreaterWrong : ChangeSpec := { name := "superGreater", fn := fun _ => fun
  | [d1, d2] => { results := [.lit (.bool false)], args := [d1, d2] }
  | _ => none }
def SuperGreaterWrongFalsely : Prop := superGreaterRow.holds Tryd.pinned (OpenSpec.ofChange superGreaterWrong)

/-- 'turntablelaw10.SuperNone': WHATEVER THE INPUT: true; the input reads as it did. -/
def superNoneSpec : ChangeSpec := { name := "superNone", fn := fun _ => fun
  | [d] => { results := [.lit (.bool true)], args := [d] }
  | _ => none }
def superNoneRow : OpenClaim := { program := "ytehnhjnkbclnlaadoor", sum := "fa2ead6464c87c200a11a91ac03c67936ec4cbe5665b31739bc4c84f73e6779f", func := "turntable/turntablelaw10.SuperNone", spec := "superNone", unfollowed := true, recurses := true, named := ["turntable/crc.steps"], apart := false, laid := [("turntable/crc.steps", laid_turntable_crc_steps)] }
def SuperNoneSaid : Prop := superNoneRow.holds Tryd.pinned (OpenSpec.ofChange superNoneSpec)

/-- ITS FALSE NEIGHBOUR: 'it returns false'. Refute it at one input. -/
def superNoneWrong : ChangeSpec := { name := "superNone", fn := fun _ => fun
  | [d] => { results := [.lit (.bool false)], args := [d] }
  | _ => none }
def SuperNoneWrongFalsely : Prop := superNoneRow.holds Tryd.pinned (OpenSpec.ofChange superNoneWrong)

/- THE SECOND FORM. 'bulk': how many values and letters a reading holds, each counted each time it is reached (what is shared counts as often as it is met; a slice's spare places count too). A statement '..UptoSaid' is the law's where the arguments, and the package variables that the reading takes, are together of bulk at most 1048576: NARROWER than '..Said'. Prove '..Said' where nothing that the law and all that it calls make is longer than what came in: it says more and counts as full. Else prove '..UptoSaid'. A law counts once. -/
mutual
def uptoBulk {H : Type} : DataW H → Nat
  | .lit (.string bytes) => bytes.length + 1
  | .lit _ => 1
  | .nil => 1
  | .ptr d => uptoBulk d + 1
  | .slice elems spare => uptoBulkAll elems + uptoBulkAll spare + 1
  | .agg parts => uptoBulkAll parts + 1
  | .iface _ d => uptoBulk d + 1
  | .map entries => uptoBulkEntries entries + 1
  | .held _ => 1
def uptoBulkAll {H : Type} : List (DataW H) → Nat
  | [] => 0
  | d :: r => uptoBulk d + uptoBulkAll r
def uptoBulkEntries {H : Type} : List (Lit × DataW H) → Nat
  | [] => 0
  | x :: r => uptoBulkEntry x + uptoBulkEntries r
def uptoBulkEntry {H : Type} : Lit × DataW H → Nat
  | (.string bytes, d) => bytes.length + uptoBulk d + 1
  | (_, d) => uptoBulk d + 1
 end
def uptoSmall : (H : Type) → List (DataW H) → Bool := fun _ ds => decide (uptoBulkAll ds ≤ 1048576)
def OpenSpec.upto (s : _root_.Go.ChangeSpec) : _root_.Go.OpenSpec := { _root_.Go.OpenSpec.ofChange s with cond := some uptoSmall }

/-- 'turntablelaw10.SuperSwaps', WHERE WHAT IT READS IS OF BULK AT MOST 1048576: true; the input reads as it did. -/
def superSwapsUptoRow : OpenClaim := { program := "ytehnhjnkbclnlaadoor", sum := "fa2ead6464c87c200a11a91ac03c67936ec4cbe5665b31739bc4c84f73e6779f", func := "turntable/turntablelaw10.SuperSwaps", spec := "superSwaps", unfollowed := true, recurses := true, named := ["turntable/crc.steps"], apart := false, laid := [("turntable/crc.steps", laid_turntable_crc_steps)], narrowed := true }
def SuperSwapsUptoSaid : Prop := superSwapsUptoRow.holds Tryd.pinned (OpenSpec.upto superSwapsSpec)

/-- 'turntablelaw10.SuperBarrier', WHERE WHAT IT READS IS OF BULK AT MOST 1048576: true; the input reads as it did. -/
def superBarrierUptoRow : OpenClaim := { program := "ytehnhjnkbclnlaadoor", sum := "fa2ead6464c87c200a11a91ac03c67936ec4cbe5665b31739bc4c84f73e6779f", func := "turntable/turntablelaw10.SuperBarrier", spec := "superBarrier", unfollowed := true, recurses := true, named := ["turntable/crc.steps"], apart := false, laid := [("turntable/crc.steps", laid_turntable_crc_steps)], narrowed := true }
def SuperBarrierUptoSaid : Prop := superBarrierUptoRow.holds Tryd.pinned (OpenSpec.upto superBarrierSpec)

/-- 'turntablelaw10.SuperGreater', WHERE WHAT IT READS IS OF BULK AT MOST 1048576: true; the input reads as it did. -/
def superGreaterUptoRow : OpenClaim := { program := "ytehnhjnkbclnlaadoor", sum := "fa2ead6464c87c200a11a91ac03c67936ec4cbe5665b31739bc4c84f73e6779f", func := "turntable/turntablelaw10.SuperGreater", spec := "superGreater", unfollowed := true, recurses := true, named := ["turntable/crc.steps"], apart := false, laid := [("turntable/crc.steps", laid_turntable_crc_steps)], narrowed := true }
def SuperGreaterUptoSaid : Prop := superGreaterUptoRow.holds Tryd.pinned (OpenSpec.upto superGreaterSpec)

/-- 'turntablelaw10.SuperNone', WHERE WHAT IT READS IS OF BULK AT MOST 1048576: true; the input reads as it did. -/
def superNoneUptoRow : OpenClaim := { program := "ytehnhjnkbclnlaadoor", sum := "fa2ead6464c87c200a11a91ac03c67936ec4cbe5665b31739bc4c84f73e6779f", func := "turntable/turntablelaw10.SuperNone", spec := "superNone", unfollowed := true, recurses := true, named := ["turntable/crc.steps"], apart := false, laid := [("turntable/crc.steps", laid_turntable_crc_steps)], narrowed := true }
def SuperNoneUptoSaid : Prop := superNoneUptoRow.holds Tryd.pinned (OpenSpec.upto superNoneSpec)

end Rows
end Go.Proofs.YtehnhjnkbclnlaaDoor
