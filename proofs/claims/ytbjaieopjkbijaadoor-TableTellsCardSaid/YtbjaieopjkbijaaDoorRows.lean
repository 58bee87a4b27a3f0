/-
  NARROWER THAN 'FOR EVERY INPUT', by the rows' own cells (each row's printed sentence says how): TableTells: laid · TableBack: laid · TableAll: laid · TableBursts: laid · TableRefuses: laid · TableGens: laid · TableChanges: laid.
  DERIVED. THE GIVEN ROWS OF THIS SEAT. 7 by the template 'for every input the law returns true; each argument reads behind the call as it read before'; 0 by the template 'total and deterministic' (their statements: YtbjaieopjkbijaaDoorTotals.lean).
  GIVEN WITH THE SEED: the statements are not yours to turn. If you find one false, say at which input.
  Laid BY PROGRAM, IN A SANDBOX (cutbox-rows.mjs): the forced cells as the released guide's own fill.sh prints them over the translation 39b987ac432cc56f… (all of the seat's roots in one cut). By AI agents, Wed Nov 11 2026. No macro, syntax, notation, axiom, sorry.
-/
import Derived.Test.YtbjaieopjkbijaaDoorChecked
import GoSem.Claim
import GoSem.ClaimJoined
import GoSem.ClaimMapViews
import Derived.JoinedTies
import Derived.KernelRfl
namespace Go.Proofs.YtbjaieopjkbijaaDoor
/- THE CELL 'sum', in the pinned program and in every row, IS THE sha256 OF THE DUMP (.gsa) THAT YtbjaieopjkbijaaDoorProg.lean LOADS. Nothing in Lean hashes anything: it is a label: what it is worth is what the hold of that sum in a sandbox is worth. -/
noncomputable def Tryd.pinned : Pinned := { name := "ytbjaieopjkbijaadoor", sum := "39b987ac432cc56f62de220822aefcb57a24edaa96b2f0f4ee629a36ceef5652", checked := Tryd.checked }
namespace Rows
def none {H : Type} : Left H := { results := [], args := [] }

/- WHAT THE LISTED PACKAGE-LEVEL VARIABLES READ AS WHEN THE CALL BEGINS. Each datum BY PROGRAM (the guide's laid-datum.mjs) off the statement by which the dump's own 'gosem.cut.vars' lays the variable. In a bare row this is a premise. The card (YtbjaieopjkbijaaDoorCards.lean) ties it to the program's text. -/
def laid_turntable_crc_steps {H : Type} : DataW H := .agg [.lit (.int .u32 0), .lit (.int .u32 274646895), .lit (.int .u32 549293790), .lit (.int .u32 820201905), .lit (.int .u32 1098587580), .lit (.int .u32 1361435347), .lit (.int .u32 1640403810), .lit (.int .u32 1905808397), .lit (.int .u32 2197175160), .lit (.int .u32 2460548119), .lit (.int .u32 2722870694), .lit (.int .u32 2987750089), .lit (.int .u32 3280807620), .lit (.int .u32 3553878443), .lit (.int .u32 3811616794), .lit (.int .u32 4084100981)]

/-- 'turntablelaw09.TableTells': WHATEVER THE INPUT: true; the input reads as it did. -/
def tableTellsSpec : ChangeSpec := { name := "tableTells", fn := fun _ => fun
  | [d1, d2] => { results := [.lit (.bool true)], args := [d1, d2] }
  | _ => none }
def tableTellsRow : OpenClaim := { program := "ytbjaieopjkbijaadoor", sum := "39b987ac432cc56f62de220822aefcb57a24edaa96b2f0f4ee629a36ceef5652", func := "turntable/turntablelaw09.TableTells", spec := "tableTells", unfollowed := true, recurses := true, named := ["turntable/crc.steps"], apart := false, laid := [("turntable/crc.steps", laid_turntable_crc_steps)] }
def TableTellsSaid : Prop := tableTellsRow.holds Tryd.pinned (OpenSpec.ofChange tableTellsSpec)

/-- ITS FALSE NEIGHBOUR: 'it returns false'. Refute it at one input. -/
def tableTellsWrong : ChangeSpec := { name := "tableTells", fn := fun _ => fun
  | [d1, d2] => { results := [.lit (.bool false)], args := [d1, d2] }
  | _ => none }
def TableTellsWrongFalsely : Prop := tableTellsRow.holds Tryd.pinned (OpenSpec.ofChange tableTellsWrong)

/-- 'turntablelaw09.TableBack': WHATEVER THE INPUT: true; the input reads as it did. -/
def tableBackSpec : ChangeSpec := { name := "tableBack", fn := fun _ => fun
  | [d1, d2] => { results := [.lit (.bool true)], args := [d1, d2] }
  | _ => none }
def tableBackRow : OpenClaim := { program := "ytbjaieopjkbijaadoor", sum := "39b987ac432cc56f62de220822aefcb57a24edaa96b2f0f4ee629a36ceef5652", func := "turntable/turntablelaw09.TableBack", spec := "tableBack", unfollowed := true, recurses := true, named := ["turntable/crc.steps"], apart := false, laid := [("turntable/crc.steps", laid_turntable_crc_steps)] }
def TableBackSaid : Prop := tableBackRow.holds Tryd.pinned (OpenSpec.ofChange tableBackSpec)

/-- ITS FALSE NEIGHBOUR: 'it returns false'. Refute it at one input. -/
def tableBackWrong : ChangeSpec := { name := "tableBack", fn := fun _ => fun
  | [d1, d2] => { results := [.lit (.bool false)], args := [d1, d2] }
  | _ => none }
def TableBackWrongFalsely : Prop := tableBackRow.holds Tryd.pinned (OpenSpec.ofChange tableBackWrong)

/-- 'turntablelaw09.TableAll': WHATEVER THE INPUT: true; the input reads as it did. -/
def tableAllSpec : ChangeSpec := { name := "tableAll", fn := fun _ => fun
  | [d] => { results := [.lit (.bool true)], args := [d] }
  | _ => none }
def tableAllRow : OpenClaim := { program := "ytbjaieopjkbijaadoor", sum := "39b987ac432cc56f62de220822aefcb57a24edaa96b2f0f4ee629a36ceef5652", func := "turntable/turntablelaw09.TableAll", spec := "tableAll", unfollowed := true, recurses := true, named := ["turntable/crc.steps"], apart := false, laid := [("turntable/crc.steps", laid_turntable_crc_steps)] }
def TableAllSaid : Prop := tableAllRow.holds Tryd.pinned (OpenSpec.ofChange tableAllSpec)

/-- ITS FALSE NEIGHBOUR: 'it returns false'. Refute it at one input. -/
def tableAllWrong : ChangeSpec := { name := "tableAll", fn := fun _ => fun
  | [d] => { results := [.lit (.bool false)], args := [d] }
  | _ => none }
def TableAllWrongFalsely : Prop := tableAllRow.holds Tryd.pinned (OpenSpec.ofChange tableAllWrong)

/-- 'turntablelaw09.TableBursts': WHATEVER THE INPUT: true; the input reads as it did. -/
def tableBurstsSpec : ChangeSpec := { name := "tableBursts", fn := fun _ => fun
  | [d1, d2, d3] => { results := [.lit (.bool true)], args := [d1, d2, d3] }
  | _ => none }
def tableBurstsRow : OpenClaim := { program := "ytbjaieopjkbijaadoor", sum := "39b987ac432cc56f62de220822aefcb57a24edaa96b2f0f4ee629a36ceef5652", func := "turntable/turntablelaw09.TableBursts", spec := "tableBursts", unfollowed := true, recurses := true, named := ["turntable/crc.steps"], apart := false, laid := [("turntable/crc.steps", laid_turntable_crc_steps)] }
def TableBurstsSaid : Prop := tableBurstsRow.holds Tryd.pinned (OpenSpec.ofChange tableBurstsSpec)

/-- ITS FALSE NEIGHBOUR: 'it returns false'. Refute it at one input. -/
def tableBurstsWrong : ChangeSpec := { name := "tableBursts", fn := fun _ => fun
  | [d1, d2, d3] => { results := [.lit (.bool false)], args := [d1, d2, d3] }
  | _ => none }
def TableBurstsWrongFalsely : Prop := tableBurstsRow.holds Tryd.pinned (OpenSpec.ofChange tableBurstsWrong)

/-- 'turntablelaw09.TableRefuses': WHATEVER THE INPUT: true; the input reads as it did. -/
def tableRefusesSpec : ChangeSpec := { name := "tableRefuses", fn := fun _ => fun
  | [d1, d2, d3] => { results := [.lit (.bool true)], args := [d1, d2, d3] }
  | _ => none }
def tableRefusesRow : OpenClaim := { program := "ytbjaieopjkbijaadoor", sum := "39b987ac432cc56f62de220822aefcb57a24edaa96b2f0f4ee629a36ceef5652", func := "turntable/turntablelaw09.TableRefuses", spec := "tableRefuses", unfollowed := true, recurses := true, named := ["turntable/crc.steps"], apart := false, laid := [("turntable/crc.steps", laid_turntable_crc_steps)] }
def TableRefusesSaid : Prop := tableRefusesRow.holds Tryd.pinned (OpenSpec.ofChange tableRefusesSpec)

/-- ITS FALSE NEIGHBOUR: 'it returns false'. Refute it at one input. -/
def tableRefusesWrong : ChangeSpec := { name := "tableRefuses", fn := fun _ => fun
  | [d1, d2, d3] => { results := [.lit (.bool false)], args := [d1, d2, d3] }
  | _ => none }
def TableRefusesWrongFalsely : Prop := tableRefusesRow.holds Tryd.pinned (OpenSpec.ofChange tableRefusesWrong)

/-- 'turntablelaw09.TableGens': WHATEVER THE INPUT: true; the input reads as it did. -/
def tableGensSpec : ChangeSpec := { name := "tableGens", fn := fun _ => fun
  | [d1, d2] => { results := [.lit (.bool true)], args := [d1, d2] }
  | _ => none }
def tableGensRow : OpenClaim := { program := "ytbjaieopjkbijaadoor", sum := "39b987ac432cc56f62de220822aefcb57a24edaa96b2f0f4ee629a36ceef5652", func := "turntable/turntablelaw09.TableGens", spec := "tableGens", unfollowed := true, recurses := true, named := ["turntable/crc.steps"], apart := false, laid := [("turntable/crc.steps", laid_turntable_crc_steps)] }
def TableGensSaid : Prop := tableGensRow.holds Tryd.pinned (OpenSpec.ofChange tableGensSpec)

/-- ITS FALSE NEIGHBOUR: 'it returns false'. Refute it at one input. -/
def tableGensWrong : ChangeSpec := { name := "tableGens", fn := fun _ => fun
  | [d1, d2] => { results := [.lit (.bool false)], args := [d1, d2] }
  | _ => none }
def TableGensWrongFalsely : Prop := tableGensRow.holds Tryd.pinned (OpenSpec.ofChange tableGensWrong)

/-- 'turntablelaw09.TableChanges': WHATEVER THE INPUT: true; the input reads as it did. -/
def tableChangesSpec : ChangeSpec := { name := "tableChanges", fn := fun _ => fun
  | [d1, d2] => { results := [.lit (.bool true)], args := [d1, d2] }
  | _ => none }
def tableChangesRow : OpenClaim := { program := "ytbjaieopjkbijaadoor", sum := "39b987ac432cc56f62de220822aefcb57a24edaa96b2f0f4ee629a36ceef5652", func := "turntable/turntablelaw09.TableChanges", spec := "tableChanges", unfollowed := true, recurses := true, named := ["turntable/crc.steps"], apart := false, laid := [("turntable/crc.steps", laid_turntable_crc_steps)] }
def TableChangesSaid : Prop := tableChangesRow.holds Tryd.pinned (OpenSpec.ofChange tableChangesSpec)

/-- ITS FALSE NEIGHBOUR: 'it returns false'. Refute it at one input. -/
def tableChangesWrong : ChangeSpec := { name := "tableChanges", fn := fun _ => fun
  | [d1, d2] => { results := [.lit (.bool false)], args := [d1, d2] }
  | _ => none }
def TableChangesWrongFalsely : Prop := tableChangesRow.holds Tryd.pinned (OpenSpec.ofChange tableChangesWrong)

/- THE SECOND FORM. 'bulk': how many values and letters a reading holds, each counted each time it is reached (what is shared counts as often as it is met; a slice's spare places count too). A statement '..UptoSaid' is the law's where the arguments, and the package variables that the reading takes, are together of bulk at most 1048576: NARROWER than '..Said'. Prove '..Said' where nothing that the law and all that it calls make is longer than what came in: it says more and counts as full. Else prove '..UptoSaid'. A law counts once. -/
mutual
def uptoBulk {H : Type} : DataW H → Nat
  | .lit (.string bytes) => bytes.length + 1
  | .lit _ => 1
  | .nil => 1
  | .ptr d => uptoBulk d + 1
  | .slice elems spare => uptoBulkAll elems + uptoBulkAll spare + 1
  | .agg parts => uptoBulkAll parts + 1
  | .iface _ d => uptoBulk d + 1
  | .map entries => uptoBulkEntries entries + 1
  | .held _ => 1
def uptoBulkAll {H : Type} : List (DataW H) → Nat
  | [] => 0
  | d :: r => uptoBulk d + uptoBulkAll r
def uptoBulkEntries {H : Type} : List (Lit × DataW H) → Nat
  | [] => 0
  | x :: r => uptoBulkEntry x + uptoBulkEntries r
def uptoBulkEntry {H : Type} : Lit × DataW H → Nat
  | (.string bytes, d) => bytes.length + uptoBulk d + 1
  | (_, d) => uptoBulk d + 1
 end
def uptoSmall : (H : Type) → List (DataW H) → Bool := fun _ ds => decide (uptoBulkAll ds ≤ 1048576)
def OpenSpec.upto (s : _root_.Go.ChangeSpec) : _root_.Go.OpenSpec := { _root_.Go.OpenSpec.ofChange s with cond := some uptoSmall }

/-- 'turntablelaw09.TableTells', WHERE WHAT IT READS IS OF BULK AT MOST 1048576: true; the input reads as it did. -/
def tableTellsUptoRow : OpenClaim := { program := "ytbjaieopjkbijaadoor", sum := "39b987ac432cc56f62de220822aefcb57a24edaa96b2f0f4ee629a36ceef5652", func := "turntable/turntablelaw09.TableTells", spec := "tableTells", unfollowed := true, recurses := true, named := ["turntable/crc.steps"], apart := false, laid := [("turntable/crc.steps", laid_turntable_crc_steps)], narrowed := true }
def TableTellsUptoSaid : Prop := tableTellsUptoRow.holds Tryd.pinned (OpenSpec.upto tableTellsSpec)

/-- 'turntablelaw09.TableBack', WHERE WHAT IT READS IS OF BULK AT MOST 1048576: true; the input reads as it did. -/
def tableBackUptoRow : OpenClaim := { program := "ytbjaieopjkbijaadoor", sum := "39b987ac432cc56f62de220822aefcb57a24edaa96b2f0f4ee629a36ceef5652", func := "turntable/turntablelaw09.TableBack", spec := "tableBack", unfollowed := true, recurses := true, named := ["turntable/crc.steps"], apart := false, laid := [("turntable/crc.steps", laid_turntable_crc_steps)], narrowed := true }
def TableBackUptoSaid : Prop := tableBackUptoRow.holds Tryd.pinned (OpenSpec.upto tableBackSpec)

/-- 'turntablelaw09.TableAll', WHERE WHAT IT READS IS OF BULK AT MOST 1048576: true; the input reads as it did. -/
def tableAllUptoRow : OpenClaim := { program := "ytbjaieopjkbijaadoor", sum := "39b987ac432cc56f62de220822aefcb57a24edaa96b2f0f4ee629a36ceef5652", func := "turntable/turntablelaw09.TableAll", spec := "tableAll", unfollowed := true, recurses := true, named := ["turntable/crc.steps"], apart := false, laid := [("turntable/crc.steps", laid_turntable_crc_steps)], narrowed := true }
def TableAllUptoSaid : Prop := tableAllUptoRow.holds Tryd.pinned (OpenSpec.upto tableAllSpec)

/-- 'turntablelaw09.TableBursts', WHERE WHAT IT READS IS OF BULK AT MOST 1048576: true; the input reads as it did. -/
def tableBurstsUptoRow : OpenClaim := { program := "ytbjaieopjkbijaadoor", sum := "39b987ac432cc56f62de220822aefcb57a24edaa96b2f0f4ee629a36ceef5652", func := "turntable/turntablelaw09.TableBursts", spec := "tableBursts", unfollowed := true, recurses := true, named := ["turntable/crc.steps"], apart := false, laid := [("turntable/crc.steps", laid_turntable_crc_steps)], narrowed := true }
def TableBurstsUptoSaid : Prop := tableBurstsUptoRow.holds Tryd.pinned (OpenSpec.upto tableBurstsSpec)

/-- 'turntablelaw09.TableRefuses', WHERE WHAT IT READS IS OF BULK AT MOST 1048576: true; the input reads as it did. -/
def tableRefusesUptoRow : OpenClaim := { program := "ytbjaieopjkbijaadoor", sum := "39b987ac432cc56f62de220822aefcb57a24edaa96b2f0f4ee629a36ceef5652", func := "turntable/turntablelaw09.TableRefuses", spec := "tableRefuses", unfollowed := true, recurses := true, named := ["turntable/crc.steps"], apart := false, laid := [("turntable/crc.steps", laid_turntable_crc_steps)], narrowed := true }
def TableRefusesUptoSaid : Prop := tableRefusesUptoRow.holds Tryd.pinned (OpenSpec.upto tableRefusesSpec)

/-- 'turntablelaw09.TableGens', WHERE WHAT IT READS IS OF BULK AT MOST 1048576: true; the input reads as it did. -/
def tableGensUptoRow : OpenClaim := { program := "ytbjaieopjkbijaadoor", sum := "39b987ac432cc56f62de220822aefcb57a24edaa96b2f0f4ee629a36ceef5652", func := "turntable/turntablelaw09.TableGens", spec := "tableGens", unfollowed := true, recurses := true, named := ["turntable/crc.steps"], apart := false, laid := [("turntable/crc.steps", laid_turntable_crc_steps)], narrowed := true }
def TableGensUptoSaid : Prop := tableGensUptoRow.holds Tryd.pinned (OpenSpec.upto tableGensSpec)

/-- 'turntablelaw09.TableChanges', WHERE WHAT IT READS IS OF BULK AT MOST 1048576: true; the input reads as it did. -/
def tableChangesUptoRow : OpenClaim := { program := "ytbjaieopjkbijaadoor", sum := "39b987ac432cc56f62de220822aefcb57a24edaa96b2f0f4ee629a36ceef5652", func := "turntable/turntablelaw09.TableChanges", spec := "tableChanges", unfollowed := true, recurses := true, named := ["turntable/crc.steps"], apart := false, laid := [("turntable/crc.steps", laid_turntable_crc_steps)], narrowed := true }
def TableChangesUptoSaid : Prop := tableChangesUptoRow.holds Tryd.pinned (OpenSpec.upto tableChangesSpec)

end Rows
end Go.Proofs.YtbjaieopjkbijaaDoor
