/-
  Layer 13, the document's answer (turntableref13): its bytes, Right, Put and Cost: what they answer, of any record. Assumed: that the spans lie in memory.
-/
import Derived.Test.YthcchfhkeghkhaaTrR7
import Derived.Test.YthcchfhkeghkhaaFrA
import Derived.Test.YthcchfhkeghkhaaMath13
import Derived.Deep.QuietTactic
import Derived.BigQuiet

namespace Go.Proofs.Ythcchfhkeghkhaa
open Go.RowKit
set_option maxRecDepth 100000

/-- a record's cells, and its value: its spans are the slice at A -/
def recCs (r : Rc.R) (A : Option Addr) (n c : Nat) : Array Value := #[.int .i64 r.kind, .int .i64 r.id, .int .i64 r.cls, .int .i64 r.tick, .bool r.pin, .slice A n c]
def recV (r : Rc.R) (A : Option Addr) (n c : Nat) : Value := .agg (recCs r A n c)
theorem cells_u8 (n : Nat) (h : n < 256) : cells [UInt8.ofNat n] = [.int .u8 (n : Int)] := by
  simp [cells, Rc.u8_small n h]
theorem made_up {w w1 w' : World} {bs : List UInt8} {e : Ending} (h : Made w1 bs e w') (hb : Below w.heap.size w w1) : ∃ v, e = .returned v ∧ w'.ownsRow w.heap.size 5 1 v bs.length (cells bs) ∧ Below w.heap.size w w' := h.up hb

set_option maxHeartbeats 1000000 in
theorem rcost13_any (A : Option Addr) (n cap : Nat) (l : List Plain.Sp) (w : World) (hn : l.length = n) (hA : Lies w A (flat l)) (hS : Fine l) :
    Calls Try.prog 26 #[.slice A n cap] w fun e w' => e = .returned (.int .i64 (Rc.cost l : Int)) ∧ Below w.heap.size w w' := by
  have HT := Lib.hid (rtput_any A n cap l w hn hA hS)
  have hV : Rc.cost l = if (Plain.tput l).length = 0 then 0 else 16 + (Plain.tput l).length := rfl
  have htl := Plain.tput_len l
  have HTL := Lib.hid (cells_length (Plain.tput l))
  generalize Plain.tput l = tb at *
  obtain ⟨m, hm⟩ : ∃ m, tb.length = m := ⟨_, rfl⟩
  rw [hm] at hV htl HTL
  have HM := Lib.hid hm
  clear hm hn hA hS
  by_cases h0 : m = 0
  · have hV2 : ((Rc.cost l : Nat) : Int) = 0 := by rw [hV, if_pos h0]; rfl
    have HV := Lib.hid hV2
    clear hV hV2
    go_enter Try.func26, Try.ntmps26
    go_wp2_with fail
    refine HT.out.mono ?_
    rintro e w3 ⟨v3, rfl, ⟨B3, n3, ho3⟩, hb3⟩
    obtain ⟨A3, c3, rfl, -, -, hl3, -⟩ := own_form ho3
    rw [HTL.out] at hl3
    subst hl3
    have HB := Lib.hid hb3
    clear ho3 hb3
    have d0 : ((m : Int) == 0) = true := by rw [beq_iff_eq]; omega
    go_wp2
    go_ret
    exact ⟨ret_int HV.out.symm, HB.out⟩
  · have hV2 : ((Rc.cost l : Nat) : Int) = 16 + (m : Int) := by rw [hV, if_neg h0]; omega
    have HV := Lib.hid hV2
    clear hV hV2
    go_enter Try.func26, Try.ntmps26
    go_wp2_with fail
    refine HT.out.mono ?_
    rintro e w3 ⟨v3, rfl, ⟨B3, n3, ho3⟩, hb3⟩
    obtain ⟨A3, c3, rfl, -, -, hl3, -⟩ := own_form ho3
    rw [HTL.out] at hl3
    subst hl3
    have HB := Lib.hid hb3
    clear ho3 hb3
    have d0 : ((m : Int) == 0) = false := by rw [beq_eq_false_iff_ne]; omega
    go_wp2
    go_ret
    exact ⟨ret_int HV.out.symm, HB.out⟩
end Go.Proofs.Ythcchfhkeghkhaa
