/-
  NARROWER THAN 'FOR EVERY INPUT', by the rows' own cells (each row's printed sentence says how): CrcTells: laid · CrcParts: laid · CrcBursts: laid · CrcXor: laid · CrcBack: laid · CrcMore: laid.
  DERIVED. THE GIVEN ROWS OF THIS SEAT. 6 by the template 'for every input the law returns true; each argument reads behind the call as it read before'; 0 by the template 'total and deterministic' (their statements: YtnhlfmpfbfjohaaDoorTotals.lean).
  GIVEN WITH THE SEED: the statements are not yours to turn. If you find one false, say at which input.
  Laid BY PROGRAM, IN A SANDBOX (cutbox-rows.mjs): the forced cells as the released guide's own fill.sh prints them over the translation e54d2df5ff5c9eef… (all of the seat's roots in one cut). By AI agents, Wed Nov 11 2026. No macro, syntax, notation, axiom, sorry.
-/
import Derived.Test.YtnhlfmpfbfjohaaDoorChecked
import GoSem.Claim
import GoSem.ClaimJoined
import GoSem.ClaimMapViews
import Derived.JoinedTies
import Derived.KernelRfl
namespace Go.Proofs.YtnhlfmpfbfjohaaDoor
/- THE CELL 'sum', in the pinned program and in every row, IS THE sha256 OF THE DUMP (.gsa) THAT YtnhlfmpfbfjohaaDoorProg.lean LOADS. Nothing in Lean hashes anything: it is a label: what it is worth is what the hold of that sum in a sandbox is worth. -/
noncomputable def Tryd.pinned : Pinned := { name := "ytnhlfmpfbfjohaadoor", sum := "e54d2df5ff5c9eefc37d2e76744a7a5b863b20378ebafb51e32d9a5120f0f6b7", checked := Tryd.checked }
namespace Rows
def none {H : Type} : Left H := { results := [], args := [] }

/- WHAT THE LISTED PACKAGE-LEVEL VARIABLES READ AS WHEN THE CALL BEGINS. Each datum BY PROGRAM (the guide's laid-datum.mjs) off the statement by which the dump's own 'gosem.cut.vars' lays the variable. In a bare row this is a premise. The card (YtnhlfmpfbfjohaaDoorCards.lean) ties it to the program's text. -/
def laid_turntable_crc_steps {H : Type} : DataW H := .agg [.lit (.int .u32 0), .lit (.int .u32 274646895), .lit (.int .u32 549293790), .lit (.int .u32 820201905), .lit (.int .u32 1098587580), .lit (.int .u32 1361435347), .lit (.int .u32 1640403810), .lit (.int .u32 1905808397), .lit (.int .u32 2197175160), .lit (.int .u32 2460548119), .lit (.int .u32 2722870694), .lit (.int .u32 2987750089), .lit (.int .u32 3280807620), .lit (.int .u32 3553878443), .lit (.int .u32 3811616794), .lit (.int .u32 4084100981)]

/-- 'turntablelaw02.CrcTells': WHATEVER THE INPUT: true; the input reads as it did. -/
def crcTellsSpec : ChangeSpec := { name := "crcTells", fn := fun _ => fun
  | [d1, d2] => { results := [.lit (.bool true)], args := [d1, d2] }
  | _ => none }
def crcTellsRow : OpenClaim := { program := "ytnhlfmpfbfjohaadoor", sum := "e54d2df5ff5c9eefc37d2e76744a7a5b863b20378ebafb51e32d9a5120f0f6b7", func := "turntable/turntablelaw02.CrcTells", spec := "crcTells", named := ["turntable/crc.steps"], apart := false, laid := [("turntable/crc.steps", laid_turntable_crc_steps)] }
def CrcTellsSaid : Prop := crcTellsRow.holds Tryd.pinned (OpenSpec.ofChange crcTellsSpec)

/-- ITS FALSE NEIGHBOUR: 'it returns false'. Refute it at one input. -/
def crcTellsWrong : ChangeSpec := { name := "crcTells", fn := fun _ => fun
  | [d1, d2] => { results := [.lit (.bool false)], args := [d1, d2] }
  | _ => none }
def CrcTellsWrongFalsely : Prop := crcTellsRow.holds Tryd.pinned (OpenSpec.ofChange crcTellsWrong)

/-- 'turntablelaw02.CrcParts': WHATEVER THE INPUT: true; the input reads as it did. -/
def crcPartsSpec : ChangeSpec := { name := "crcParts", fn := fun _ => fun
  | [d1, d2, d3] => { results := [.lit (.bool true)], args := [d1, d2, d3] }
  | _ => none }
def crcPartsRow : OpenClaim := { program := "ytnhlfmpfbfjohaadoor", sum := "e54d2df5ff5c9eefc37d2e76744a7a5b863b20378ebafb51e32d9a5120f0f6b7", func := "turntable/turntablelaw02.CrcParts", spec := "crcParts", named := ["turntable/crc.steps"], apart := false, laid := [("turntable/crc.steps", laid_turntable_crc_steps)] }
def CrcPartsSaid : Prop := crcPartsRow.holds Tryd.pinned (OpenSpec.ofChange crcPartsSpec)

/-- ITS FALSE NEIGHBOUR: 'it returns false'. Refute it at one input. -/
def crcPartsWrong : ChangeSpec := { name := "crcParts", fn := fun _ => fun
  | [d1, d2, d3] => { results := [.lit (.bool false)], args := [d1, d2, d3] }
  | _ => none }
def CrcPartsWrongFalsely : Prop := crcPartsRow.holds Tryd.pinned (OpenSpec.ofChange crcPartsWrong)

/-- 'turntablelaw02.CrcBursts': WHATEVER THE INPUT: true; the input reads as it did. -/
def crcBurstsSpec : ChangeSpec := { name := "crcBursts", fn := fun _ => fun
  | [d1, d2, d3] => { results := [.lit (.bool true)], args := [d1, d2, d3] }
  | _ => none }
def crcBurstsRow : OpenClaim := { program := "ytnhlfmpfbfjohaadoor", sum := "e54d2df5ff5c9eefc37d2e76744a7a5b863b20378ebafb51e32d9a5120f0f6b7", func := "turntable/turntablelaw02.CrcBursts", spec := "crcBursts", named := ["turntable/crc.steps"], apart := false, laid := [("turntable/crc.steps", laid_turntable_crc_steps)] }
def CrcBurstsSaid : Prop := crcBurstsRow.holds Tryd.pinned (OpenSpec.ofChange crcBurstsSpec)

/-- ITS FALSE NEIGHBOUR: 'it returns false'. Refute it at one input. -/
def crcBurstsWrong : ChangeSpec := { name := "crcBursts", fn := fun _ => fun
  | [d1, d2, d3] => { results := [.lit (.bool false)], args := [d1, d2, d3] }
  | _ => none }
def CrcBurstsWrongFalsely : Prop := crcBurstsRow.holds Tryd.pinned (OpenSpec.ofChange crcBurstsWrong)

/-- 'turntablelaw02.CrcXor': WHATEVER THE INPUT: true; the input reads as it did. -/
def crcXorSpec : ChangeSpec := { name := "crcXor", fn := fun _ => fun
  | [d1, d2, d3] => { results := [.lit (.bool true)], args := [d1, d2, d3] }
  | _ => none }
def crcXorRow : OpenClaim := { program := "ytnhlfmpfbfjohaadoor", sum := "e54d2df5ff5c9eefc37d2e76744a7a5b863b20378ebafb51e32d9a5120f0f6b7", func := "turntable/turntablelaw02.CrcXor", spec := "crcXor", named := ["turntable/crc.steps"], apart := false, laid := [("turntable/crc.steps", laid_turntable_crc_steps)] }
def CrcXorSaid : Prop := crcXorRow.holds Tryd.pinned (OpenSpec.ofChange crcXorSpec)

/-- ITS FALSE NEIGHBOUR: 'it returns false'. Refute it at one input. -/
def crcXorWrong : ChangeSpec := { name := "crcXor", fn := fun _ => fun
  | [d1, d2, d3] => { results := [.lit (.bool false)], args := [d1, d2, d3] }
  | _ => none }
def CrcXorWrongFalsely : Prop := crcXorRow.holds Tryd.pinned (OpenSpec.ofChange crcXorWrong)

/-- 'turntablelaw02.CrcBack': WHATEVER THE INPUT: true; the input reads as it did. -/
def crcBackSpec : ChangeSpec := { name := "crcBack", fn := fun _ => fun
  | [d] => { results := [.lit (.bool true)], args := [d] }
  | _ => none }
def crcBackRow : OpenClaim := { program := "ytnhlfmpfbfjohaadoor", sum := "e54d2df5ff5c9eefc37d2e76744a7a5b863b20378ebafb51e32d9a5120f0f6b7", func := "turntable/turntablelaw02.CrcBack", spec := "crcBack", named := ["turntable/crc.steps"], apart := false, laid := [("turntable/crc.steps", laid_turntable_crc_steps)] }
def CrcBackSaid : Prop := crcBackRow.holds Tryd.pinned (OpenSpec.ofChange crcBackSpec)

/-- ITS FALSE NEIGHBOUR: 'it returns false'. Refute it at one input. -/
def crcBackWrong : ChangeSpec := { name := "crcBack", fn := fun _ => fun
  | [d] => { results := [.lit (.bool false)], args := [d] }
  | _ => none }
def CrcBackWrongFalsely : Prop := crcBackRow.holds Tryd.pinned (OpenSpec.ofChange crcBackWrong)

/-- 'turntablelaw02.CrcMore': WHATEVER THE INPUT: true; the input reads as it did. -/
def crcMoreSpec : ChangeSpec := { name := "crcMore", fn := fun _ => fun
  | [d1, d2, d3] => { results := [.lit (.bool true)], args := [d1, d2, d3] }
  | _ => none }
def crcMoreRow : OpenClaim := { program := "ytnhlfmpfbfjohaadoor", sum := "e54d2df5ff5c9eefc37d2e76744a7a5b863b20378ebafb51e32d9a5120f0f6b7", func := "turntable/turntablelaw02.CrcMore", spec := "crcMore", named := ["turntable/crc.steps"], apart := false, laid := [("turntable/crc.steps", laid_turntable_crc_steps)] }
def CrcMoreSaid : Prop := crcMoreRow.holds Tryd.pinned (OpenSpec.ofChange crcMoreSpec)

/-- ITS FALSE NEIGHBOUR: 'it returns false'. Refute it at one input. -/
def crcMoreWrong : ChangeSpec := { name := "crcMore", fn := fun _ => fun
  | [d1, d2, d3] => { results := [.lit (.bool false)], args := [d1, d2, d3] }
  | _ => none }
def CrcMoreWrongFalsely : Prop := crcMoreRow.holds Tryd.pinned (OpenSpec.ofChange crcMoreWrong)

/- THE SECOND FORM. 'bulk': how many values and letters a reading holds, each counted each time it is reached (what is shared counts as often as it is met; a slice's spare places count too). A statement '..UptoSaid' is the law's where the arguments, and the package variables that the reading takes, are together of bulk at most 1048576: NARROWER than '..Said'. Prove '..Said' where nothing that the law and all that it calls make is longer than what came in: it says more and counts as full. Else prove '..UptoSaid'. A law counts once. -/
mutual
def uptoBulk {H : Type} : DataW H → Nat
  | .lit (.string bytes) => bytes.length + 1
  | .lit _ => 1
  | .nil => 1
  | .ptr d => uptoBulk d + 1
  | .slice elems spare => uptoBulkAll elems + uptoBulkAll spare + 1
  | .agg parts => uptoBulkAll parts + 1
  | .iface _ d => uptoBulk d + 1
  | .map entries => uptoBulkEntries entries + 1
  | .held _ => 1
def uptoBulkAll {H : Type} : List (DataW H) → Nat
  | [] => 0
  | d :: r => uptoBulk d + uptoBulkAll r
def uptoBulkEntries {H : Type} : List (Lit × DataW H) → Nat
  | [] => 0
  | x :: r => uptoBulkEntry x + uptoBulkEntries r
def uptoBulkEntry {H : Type} : Lit × DataW H → Nat
  | (.string bytes, d) => bytes.length + uptoBulk d + 1
  | (_, d) => uptoBulk d + 1
 end
def uptoSmall : (H : Type) → List (DataW H) → Bool := fun _ ds => decide (uptoBulkAll ds ≤ 1048576)
def OpenSpec.upto (s : _root_.Go.ChangeSpec) : _root_.Go.OpenSpec := { _root_.Go.OpenSpec.ofChange s with cond := some uptoSmall }

/-- 'turntablelaw02.CrcTells', WHERE WHAT IT READS IS OF BULK AT MOST 1048576: true; the input reads as it did. -/
def crcTellsUptoRow : OpenClaim := { program := "ytnhlfmpfbfjohaadoor", sum := "e54d2df5ff5c9eefc37d2e76744a7a5b863b20378ebafb51e32d9a5120f0f6b7", func := "turntable/turntablelaw02.CrcTells", spec := "crcTells", named := ["turntable/crc.steps"], apart := false, laid := [("turntable/crc.steps", laid_turntable_crc_steps)], narrowed := true }
def CrcTellsUptoSaid : Prop := crcTellsUptoRow.holds Tryd.pinned (OpenSpec.upto crcTellsSpec)

/-- 'turntablelaw02.CrcParts', WHERE WHAT IT READS IS OF BULK AT MOST 1048576: true; the input reads as it did. -/
def crcPartsUptoRow : OpenClaim := { program := "ytnhlfmpfbfjohaadoor", sum := "e54d2df5ff5c9eefc37d2e76744a7a5b863b20378ebafb51e32d9a5120f0f6b7", func := "turntable/turntablelaw02.CrcParts", spec := "crcParts", named := ["turntable/crc.steps"], apart := false, laid := [("turntable/crc.steps", laid_turntable_crc_steps)], narrowed := true }
def CrcPartsUptoSaid : Prop := crcPartsUptoRow.holds Tryd.pinned (OpenSpec.upto crcPartsSpec)

/-- 'turntablelaw02.CrcBursts', WHERE WHAT IT READS IS OF BULK AT MOST 1048576: true; the input reads as it did. -/
def crcBurstsUptoRow : OpenClaim := { program := "ytnhlfmpfbfjohaadoor", sum := "e54d2df5ff5c9eefc37d2e76744a7a5b863b20378ebafb51e32d9a5120f0f6b7", func := "turntable/turntablelaw02.CrcBursts", spec := "crcBursts", named := ["turntable/crc.steps"], apart := false, laid := [("turntable/crc.steps", laid_turntable_crc_steps)], narrowed := true }
def CrcBurstsUptoSaid : Prop := crcBurstsUptoRow.holds Tryd.pinned (OpenSpec.upto crcBurstsSpec)

/-- 'turntablelaw02.CrcXor', WHERE WHAT IT READS IS OF BULK AT MOST 1048576: true; the input reads as it did. -/
def crcXorUptoRow : OpenClaim := { program := "ytnhlfmpfbfjohaadoor", sum := "e54d2df5ff5c9eefc37d2e76744a7a5b863b20378ebafb51e32d9a5120f0f6b7", func := "turntable/turntablelaw02.CrcXor", spec := "crcXor", named := ["turntable/crc.steps"], apart := false, laid := [("turntable/crc.steps", laid_turntable_crc_steps)], narrowed := true }
def CrcXorUptoSaid : Prop := crcXorUptoRow.holds Tryd.pinned (OpenSpec.upto crcXorSpec)

/-- 'turntablelaw02.CrcBack', WHERE WHAT IT READS IS OF BULK AT MOST 1048576: true; the input reads as it did. -/
def crcBackUptoRow : OpenClaim := { program := "ytnhlfmpfbfjohaadoor", sum := "e54d2df5ff5c9eefc37d2e76744a7a5b863b20378ebafb51e32d9a5120f0f6b7", func := "turntable/turntablelaw02.CrcBack", spec := "crcBack", named := ["turntable/crc.steps"], apart := false, laid := [("turntable/crc.steps", laid_turntable_crc_steps)], narrowed := true }
def CrcBackUptoSaid : Prop := crcBackUptoRow.holds Tryd.pinned (OpenSpec.upto crcBackSpec)

/-- 'turntablelaw02.CrcMore', WHERE WHAT IT READS IS OF BULK AT MOST 1048576: true; the input reads as it did. -/
def crcMoreUptoRow : OpenClaim := { program := "ytnhlfmpfbfjohaadoor", sum := "e54d2df5ff5c9eefc37d2e76744a7a5b863b20378ebafb51e32d9a5120f0f6b7", func := "turntable/turntablelaw02.CrcMore", spec := "crcMore", named := ["turntable/crc.steps"], apart := false, laid := [("turntable/crc.steps", laid_turntable_crc_steps)], narrowed := true }
def CrcMoreUptoSaid : Prop := crcMoreUptoRow.holds Tryd.pinned (OpenSpec.upto crcMoreSpec)

end Rows
end Go.Proofs.YtnhlfmpfbfjohaaDoor
