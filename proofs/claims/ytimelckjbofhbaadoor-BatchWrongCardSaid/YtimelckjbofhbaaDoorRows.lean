/-
  NARROWER THAN 'FOR EVERY INPUT', by the rows' own cells (each row's printed sentence says how): BatchTells: laid · BatchBodies: laid · BatchBack: laid · BatchBursts: laid · BatchWrong: laid · BatchUnlike: laid.
  DERIVED. THE GIVEN ROWS OF THIS SEAT. 6 by the template 'for every input the law returns true; each argument reads behind the call as it read before'; 0 by the template 'total and deterministic' (their statements: YtimelckjbofhbaaDoorTotals.lean).
  GIVEN WITH THE SEED: the statements are not yours to turn. If you find one false, say at which input.
  Laid BY PROGRAM, IN A SANDBOX (cutbox-rows.mjs): the forced cells as the released guide's own fill.sh prints them over the translation 709f7e9dccaa32ed… (all of the seat's roots in one cut). By AI agents, Wed Nov 11 2026. No macro, syntax, notation, axiom, sorry.
-/
import Derived.Test.YtimelckjbofhbaaDoorChecked
import GoSem.Claim
import GoSem.ClaimJoined
import GoSem.ClaimMapViews
import Derived.JoinedTies
import Derived.KernelRfl
namespace Go.Proofs.YtimelckjbofhbaaDoor
/- THE CELL 'sum', in the pinned program and in every row, IS THE sha256 OF THE DUMP (.gsa) THAT YtimelckjbofhbaaDoorProg.lean LOADS. Nothing in Lean hashes anything: it is a label: what it is worth is what the hold of that sum in a sandbox is worth. -/
noncomputable def Tryd.pinned : Pinned := { name := "ytimelckjbofhbaadoor", sum := "709f7e9dccaa32ede5f7180e0238981eae6e9db12e8718b93c3edd6393b29b19", checked := Tryd.checked }
namespace Rows
def none {H : Type} : Left H := { results := [], args := [] }

/- WHAT THE LISTED PACKAGE-LEVEL VARIABLES READ AS WHEN THE CALL BEGINS. Each datum BY PROGRAM (the guide's laid-datum.mjs) off the statement by which the dump's own 'gosem.cut.vars' lays the variable. In a bare row this is a premise. The card (YtimelckjbofhbaaDoorCards.lean) ties it to the program's text. -/
def laid_errors_errorType {H : Type} : DataW H := .iface "internal/reflectlite.rtype" (.agg [.ptr (.lit (.string [101, 114, 114, 111, 114]))])
def laid_turntable_crc_steps {H : Type} : DataW H := .agg [.lit (.int .u32 0), .lit (.int .u32 274646895), .lit (.int .u32 549293790), .lit (.int .u32 820201905), .lit (.int .u32 1098587580), .lit (.int .u32 1361435347), .lit (.int .u32 1640403810), .lit (.int .u32 1905808397), .lit (.int .u32 2197175160), .lit (.int .u32 2460548119), .lit (.int .u32 2722870694), .lit (.int .u32 2987750089), .lit (.int .u32 3280807620), .lit (.int .u32 3553878443), .lit (.int .u32 3811616794), .lit (.int .u32 4084100981)]

/-- 'turntablelaw04.BatchTells': WHATEVER THE INPUT: true; the input reads as it did. -/
def batchTellsSpec : ChangeSpec := { name := "batchTells", fn := fun _ => fun
  | [d1, d2] => { results := [.lit (.bool true)], args := [d1, d2] }
  | _ => none }
def batchTellsRow : OpenClaim := { program := "ytimelckjbofhbaadoor", sum := "709f7e9dccaa32ede5f7180e0238981eae6e9db12e8718b93c3edd6393b29b19", func := "turntable/turntablelaw04.BatchTells", spec := "batchTells", inPlace := ["internal/reflectlite.TypeOf", "internal/reflectlite.ValueOf", "(internal/reflectlite.Value).Type", "(internal/reflectlite.Value).IsNil", "(internal/reflectlite.Value).Elem", "(internal/reflectlite.Value).Set"], unfollowed := true, recurses := true, named := ["turntable/crc.steps", "errors.errorType"], apart := false, laid := [("errors.errorType", laid_errors_errorType), ("turntable/crc.steps", laid_turntable_crc_steps)] }
def BatchTellsSaid : Prop := batchTellsRow.holds Tryd.pinned (OpenSpec.ofChange batchTellsSpec)

/-- ITS FALSE NEIGHBOUR: 'it returns false'. Refute it at one input. -/
def batchTellsWrong : ChangeSpec := { name := "batchTells", fn := fun _ => fun
  | [d1, d2] => { results := [.lit (.bool false)], args := [d1, d2] }
  | _ => none }
def BatchTellsWrongFalsely : Prop := batchTellsRow.holds Tryd.pinned (OpenSpec.ofChange batchTellsWrong)

/-- 'turntablelaw04.BatchBodies': WHATEVER THE INPUT: true; the input reads as it did. -/
def batchBodiesSpec : ChangeSpec := { name := "batchBodies", fn := fun _ => fun
  | [d] => { results := [.lit (.bool true)], args := [d] }
  | _ => none }
def batchBodiesRow : OpenClaim := { program := "ytimelckjbofhbaadoor", sum := "709f7e9dccaa32ede5f7180e0238981eae6e9db12e8718b93c3edd6393b29b19", func := "turntable/turntablelaw04.BatchBodies", spec := "batchBodies", inPlace := ["internal/reflectlite.TypeOf", "internal/reflectlite.ValueOf", "(internal/reflectlite.Value).Type", "(internal/reflectlite.Value).IsNil", "(internal/reflectlite.Value).Elem", "(internal/reflectlite.Value).Set"], unfollowed := true, recurses := true, named := ["turntable/crc.steps", "errors.errorType"], apart := false, laid := [("errors.errorType", laid_errors_errorType), ("turntable/crc.steps", laid_turntable_crc_steps)] }
def BatchBodiesSaid : Prop := batchBodiesRow.holds Tryd.pinned (OpenSpec.ofChange batchBodiesSpec)

/-- ITS FALSE NEIGHBOUR: 'it returns false'. Refute it at one input. -/
def batchBodiesWrong : ChangeSpec := { name := "batchBodies", fn := fun _ => fun
  | [d] => { results := [.lit (.bool false)], args := [d] }
  | _ => none }
def BatchBodiesWrongFalsely : Prop := batchBodiesRow.holds Tryd.pinned (OpenSpec.ofChange batchBodiesWrong)

/-- 'turntablelaw04.BatchBack': WHATEVER THE INPUT: true; the input reads as it did. -/
def batchBackSpec : ChangeSpec := { name := "batchBack", fn := fun _ => fun
  | [d1, d2] => { results := [.lit (.bool true)], args := [d1, d2] }
  | _ => none }
def batchBackRow : OpenClaim := { program := "ytimelckjbofhbaadoor", sum := "709f7e9dccaa32ede5f7180e0238981eae6e9db12e8718b93c3edd6393b29b19", func := "turntable/turntablelaw04.BatchBack", spec := "batchBack", inPlace := ["internal/reflectlite.TypeOf", "internal/reflectlite.ValueOf", "(internal/reflectlite.Value).Type", "(internal/reflectlite.Value).IsNil", "(internal/reflectlite.Value).Elem", "(internal/reflectlite.Value).Set"], unfollowed := true, recurses := true, named := ["turntable/crc.steps", "errors.errorType"], apart := false, laid := [("errors.errorType", laid_errors_errorType), ("turntable/crc.steps", laid_turntable_crc_steps)] }
def BatchBackSaid : Prop := batchBackRow.holds Tryd.pinned (OpenSpec.ofChange batchBackSpec)

/-- ITS FALSE NEIGHBOUR: 'it returns false'. Refute it at one input. -/
def batchBackWrong : ChangeSpec := { name := "batchBack", fn := fun _ => fun
  | [d1, d2] => { results := [.lit (.bool false)], args := [d1, d2] }
  | _ => none }
def BatchBackWrongFalsely : Prop := batchBackRow.holds Tryd.pinned (OpenSpec.ofChange batchBackWrong)

/-- 'turntablelaw04.BatchBursts': WHATEVER THE INPUT: true; the input reads as it did. -/
def batchBurstsSpec : ChangeSpec := { name := "batchBursts", fn := fun _ => fun
  | [d1, d2, d3] => { results := [.lit (.bool true)], args := [d1, d2, d3] }
  | _ => none }
def batchBurstsRow : OpenClaim := { program := "ytimelckjbofhbaadoor", sum := "709f7e9dccaa32ede5f7180e0238981eae6e9db12e8718b93c3edd6393b29b19", func := "turntable/turntablelaw04.BatchBursts", spec := "batchBursts", inPlace := ["internal/reflectlite.TypeOf", "internal/reflectlite.ValueOf", "(internal/reflectlite.Value).Type", "(internal/reflectlite.Value).IsNil", "(internal/reflectlite.Value).Elem", "(internal/reflectlite.Value).Set"], unfollowed := true, recurses := true, named := ["turntable/crc.steps", "errors.errorType"], apart := false, laid := [("errors.errorType", laid_errors_errorType), ("turntable/crc.steps", laid_turntable_crc_steps)] }
def BatchBurstsSaid : Prop := batchBurstsRow.holds Tryd.pinned (OpenSpec.ofChange batchBurstsSpec)

/-- ITS FALSE NEIGHBOUR: 'it returns false'. Refute it at one input. -/
def batchBurstsWrong : ChangeSpec := { name := "batchBursts", fn := fun _ => fun
  | [d1, d2, d3] => { results := [.lit (.bool false)], args := [d1, d2, d3] }
  | _ => none }
def BatchBurstsWrongFalsely : Prop := batchBurstsRow.holds Tryd.pinned (OpenSpec.ofChange batchBurstsWrong)

/-- 'turntablelaw04.BatchWrong': WHATEVER THE INPUT: true; the input reads as it did. -/
def batchWrongSpec : ChangeSpec := { name := "batchWrong", fn := fun _ => fun
  | [d] => { results := [.lit (.bool true)], args := [d] }
  | _ => none }
def batchWrongRow : OpenClaim := { program := "ytimelckjbofhbaadoor", sum := "709f7e9dccaa32ede5f7180e0238981eae6e9db12e8718b93c3edd6393b29b19", func := "turntable/turntablelaw04.BatchWrong", spec := "batchWrong", inPlace := ["internal/reflectlite.TypeOf", "internal/reflectlite.ValueOf", "(internal/reflectlite.Value).Type", "(internal/reflectlite.Value).IsNil", "(internal/reflectlite.Value).Elem", "(internal/reflectlite.Value).Set"], unfollowed := true, recurses := true, named := ["turntable/crc.steps", "errors.errorType"], apart := false, laid := [("errors.errorType", laid_errors_errorType), ("turntable/crc.steps", laid_turntable_crc_steps)] }
def BatchWrongSaid : Prop := batchWrongRow.holds Tryd.pinned (OpenSpec.ofChange batchWrongSpec)

/-- ITS FALSE NEIGHBOUR: 'it returns false'. Refute it at one input. -/
def batchWrongWrong : ChangeSpec := { name := "batchWrong", fn := fun _ => fun
  | [d] => { results := [.lit (.bool false)], args := [d] }
  | _ => none }
def BatchWrongWrongFalsely : Prop := batchWrongRow.holds Tryd.pinned (OpenSpec.ofChange batchWrongWrong)

/-- 'turntablelaw04.BatchUnlike': WHATEVER THE INPUT: true; the input reads as it did. -/
def batchUnlikeSpec : ChangeSpec := { name := "batchUnlike", fn := fun _ => fun
  | [d1, d2] => { results := [.lit (.bool true)], args := [d1, d2] }
  | _ => none }
def batchUnlikeRow : OpenClaim := { program := "ytimelckjbofhbaadoor", sum := "709f7e9dccaa32ede5f7180e0238981eae6e9db12e8718b93c3edd6393b29b19", func := "turntable/turntablelaw04.BatchUnlike", spec := "batchUnlike", inPlace := ["internal/reflectlite.TypeOf", "internal/reflectlite.ValueOf", "(internal/reflectlite.Value).Type", "(internal/reflectlite.Value).IsNil", "(internal/reflectlite.Value).Elem", "(internal/reflectlite.Value).Set"], unfollowed := true, recurses := true, named := ["turntable/crc.steps", "errors.errorType"], apart := false, laid := [("errors.errorType", laid_errors_errorType), ("turntable/crc.steps", laid_turntable_crc_steps)] }
def BatchUnlikeSaid : Prop := batchUnlikeRow.holds Tryd.pinned (OpenSpec.ofChange batchUnlikeSpec)

/-- ITS FALSE NEIGHBOUR: 'it returns false'. Refute it at one input. -/
def batchUnlikeWrong : ChangeSpec := { name := "batchUnlike", fn := fun _ => fun
  | [d1, d2] => { results := [.lit (.bool false)], args := [d1, d2] }
  | _ => none }
def BatchUnlikeWrongFalsely : Prop := batchUnlikeRow.holds Tryd.pinned (OpenSpec.ofChange batchUnlikeWrong)

/- THE SECOND FORM. 'bulk': how many values and letters a reading holds, each counted each time it is reached (what is shared counts as often as it is met; a slice's spare places count too). A statement '..UptoSaid' is the law's where the arguments, and the package variables that the reading takes, are together of bulk at most 1048576: NARROWER than '..Said'. Prove '..Said' where nothing that the law and all that it calls make is longer than what came in: it says more and counts as full. Else prove '..UptoSaid'. A law counts once. -/
mutual
def uptoBulk {H : Type} : DataW H → Nat
  | .lit (.string bytes) => bytes.length + 1
  | .lit _ => 1
  | .nil => 1
  | .ptr d => uptoBulk d + 1
  | .slice elems spare => uptoBulkAll elems + uptoBulkAll spare + 1
  | .agg parts => uptoBulkAll parts + 1
  | .iface _ d => uptoBulk d + 1
  | .map entries => uptoBulkEntries entries + 1
  | .held _ => 1
def uptoBulkAll {H : Type} : List (DataW H) → Nat
  | [] => 0
  | d :: r => uptoBulk d + uptoBulkAll r
def uptoBulkEntries {H : Type} : List (Lit × DataW H) → Nat
  | [] => 0
  | x :: r => uptoBulkEntry x + uptoBulkEntries r
def uptoBulkEntry {H : Type} : Lit × DataW H → Nat
  | (.string bytes, d) => bytes.length + uptoBulk d + 1
  | (_, d) => uptoBulk d + 1
 end
def uptoSmall : (H : Type) → List (DataW H) → Bool := fun _ ds => decide (uptoBulkAll ds ≤ 1048576)
def OpenSpec.upto (s : _root_.Go.ChangeSpec) : _root_.Go.OpenSpec := { _root_.Go.OpenSpec.ofChange s with cond := some uptoSmall }

/-- 'turntablelaw04.BatchTells', WHERE WHAT IT READS IS OF BULK AT MOST 1048576: true; the input reads as it did. -/
def batchTellsUptoRow : OpenClaim := { program := "ytimelckjbofhbaadoor", sum := "709f7e9dccaa32ede5f7180e0238981eae6e9db12e8718b93c3edd6393b29b19", func := "turntable/turntablelaw04.BatchTells", spec := "batchTells", inPlace := ["internal/reflectlite.TypeOf", "internal/reflectlite.ValueOf", "(internal/reflectlite.Value).Type", "(internal/reflectlite.Value).IsNil", "(internal/reflectlite.Value).Elem", "(internal/reflectlite.Value).Set"], unfollowed := true, recurses := true, named := ["turntable/crc.steps", "errors.errorType"], apart := false, laid := [("errors.errorType", laid_errors_errorType), ("turntable/crc.steps", laid_turntable_crc_steps)], narrowed := true }
def BatchTellsUptoSaid : Prop := batchTellsUptoRow.holds Tryd.pinned (OpenSpec.upto batchTellsSpec)

/-- 'turntablelaw04.BatchBodies', WHERE WHAT IT READS IS OF BULK AT MOST 1048576: true; the input reads as it did. -/
def batchBodiesUptoRow : OpenClaim := { program := "ytimelckjbofhbaadoor", sum := "709f7e9dccaa32ede5f7180e0238981eae6e9db12e8718b93c3edd6393b29b19", func := "turntable/turntablelaw04.BatchBodies", spec := "batchBodies", inPlace := ["internal/reflectlite.TypeOf", "internal/reflectlite.ValueOf", "(internal/reflectlite.Value).Type", "(internal/reflectlite.Value).IsNil", "(internal/reflectlite.Value).Elem", "(internal/reflectlite.Value).Set"], unfollowed := true, recurses := true, named := ["turntable/crc.steps", "errors.errorType"], apart := false, laid := [("errors.errorType", laid_errors_errorType), ("turntable/crc.steps", laid_turntable_crc_steps)], narrowed := true }
def BatchBodiesUptoSaid : Prop := batchBodiesUptoRow.holds Tryd.pinned (OpenSpec.upto batchBodiesSpec)

/-- 'turntablelaw04.BatchBack', WHERE WHAT IT READS IS OF BULK AT MOST 1048576: true; the input reads as it did. -/
def batchBackUptoRow : OpenClaim := { program := "ytimelckjbofhbaadoor", sum := "709f7e9dccaa32ede5f7180e0238981eae6e9db12e8718b93c3edd6393b29b19", func := "turntable/turntablelaw04.BatchBack", spec := "batchBack", inPlace := ["internal/reflectlite.TypeOf", "internal/reflectlite.ValueOf", "(internal/reflectlite.Value).Type", "(internal/reflectlite.Value).IsNil", "(internal/reflectlite.Value).Elem", "(internal/reflectlite.Value).Set"], unfollowed := true, recurses := true, named := ["turntable/crc.steps", "errors.errorType"], apart := false, laid := [("errors.errorType", laid_errors_errorType), ("turntable/crc.steps", laid_turntable_crc_steps)], narrowed := true }
def BatchBackUptoSaid : Prop := batchBackUptoRow.holds Tryd.pinned (OpenSpec.upto batchBackSpec)

/-- 'turntablelaw04.BatchBursts', WHERE WHAT IT READS IS OF BULK AT MOST 1048576: true; the input reads as it did. -/
def batchBurstsUptoRow : OpenClaim := { program := "ytimelckjbofhbaadoor", sum := "709f7e9dccaa32ede5f7180e0238981eae6e9db12e8718b93c3edd6393b29b19", func := "turntable/turntablelaw04.BatchBursts", spec := "batchBursts", inPlace := ["internal/reflectlite.TypeOf", "internal/reflectlite.ValueOf", "(internal/reflectlite.Value).Type", "(internal/reflectlite.Value).IsNil", "(internal/reflectlite.Value).Elem", "(internal/reflectlite.Value).Set"], unfollowed := true, recurses := true, named := ["turntable/crc.steps", "errors.errorType"], apart := false, laid := [("errors.errorType", laid_errors_errorType), ("turntable/crc.steps", laid_turntable_crc_steps)], narrowed := true }
def BatchBurstsUptoSaid : Prop := batchBurstsUptoRow.holds Tryd.pinned (OpenSpec.upto batchBurstsSpec)

/-- 'turntablelaw04.BatchWrong', WHERE WHAT IT READS IS OF BULK AT MOST 1048576: true; the input reads as it did. -/
def batchWrongUptoRow : OpenClaim := { program := "ytimelckjbofhbaadoor", sum := "709f7e9dccaa32ede5f7180e0238981eae6e9db12e8718b93c3edd6393b29b19", func := "turntable/turntablelaw04.BatchWrong", spec := "batchWrong", inPlace := ["internal/reflectlite.TypeOf", "internal/reflectlite.ValueOf", "(internal/reflectlite.Value).Type", "(internal/reflectlite.Value).IsNil", "(internal/reflectlite.Value).Elem", "(internal/reflectlite.Value).Set"], unfollowed := true, recurses := true, named := ["turntable/crc.steps", "errors.errorType"], apart := false, laid := [("errors.errorType", laid_errors_errorType), ("turntable/crc.steps", laid_turntable_crc_steps)], narrowed := true }
def BatchWrongUptoSaid : Prop := batchWrongUptoRow.holds Tryd.pinned (OpenSpec.upto batchWrongSpec)

/-- 'turntablelaw04.BatchUnlike', WHERE WHAT IT READS IS OF BULK AT MOST 1048576: true; the input reads as it did. -/
def batchUnlikeUptoRow : OpenClaim := { program := "ytimelckjbofhbaadoor", sum := "709f7e9dccaa32ede5f7180e0238981eae6e9db12e8718b93c3edd6393b29b19", func := "turntable/turntablelaw04.BatchUnlike", spec := "batchUnlike", inPlace := ["internal/reflectlite.TypeOf", "internal/reflectlite.ValueOf", "(internal/reflectlite.Value).Type", "(internal/reflectlite.Value).IsNil", "(internal/reflectlite.Value).Elem", "(internal/reflectlite.Value).Set"], unfollowed := true, recurses := true, named := ["turntable/crc.steps", "errors.errorType"], apart := false, laid := [("errors.errorType", laid_errors_errorType), ("turntable/crc.steps", laid_turntable_crc_steps)], narrowed := true }
def BatchUnlikeUptoSaid : Prop := batchUnlikeUptoRow.holds Tryd.pinned (OpenSpec.upto batchUnlikeSpec)

end Rows
end Go.Proofs.YtimelckjbofhbaaDoor
