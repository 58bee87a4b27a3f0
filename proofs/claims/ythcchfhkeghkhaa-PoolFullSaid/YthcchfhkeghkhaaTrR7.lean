/-
  turntableref05: what Put and Get answer, of any spans and any bytes. Nothing is assumed but that they lie in memory.
-/
import Derived.Test.YthcchfhkeghkhaaTrR6
import Derived.Test.YthcchfhkeghkhaaTrP

namespace Go.Proofs.Ythcchfhkeghkhaa
open Go.RowKit
set_option maxRecDepth 100000

set_option maxHeartbeats 8000000 in
theorem rtput_any (A : Option Addr) (n cap : Nat) (l : List Plain.Sp) (w : World) (hn : l.length = n) (hA : Lies w A (flat l)) (hS : Fine l) :
    Calls Try.prog 38 #[.slice A n cap] w (Owns w (Plain.tput l)) := by
  have HN := Lib.hid hn
  have HA := Lib.hid hA
  have HS := Lib.hid hS
  have HIB := Lib.hid (rtright_any A n cap l w hn hA hS)
  have HY := Lib.hid (Plain.tput_yes (l := l))
  have HZ := Lib.hid (Plain.tput_no (l := l))
  have HI := Lib.hid (Plain.isT_len (l := l))
  have HRT := Lib.hid (Plain.isT_right (l := l))
  have HFL := Lib.hid (Plain.put_le (n : Int))
  clear hn hA hS
  go_enter Try.func38, Try.ntmps38
  go_wp2_with fail
  refine HIB.out.mono ?_
  rintro e w1 ⟨rfl, c1⟩
  clear HIB
  obtain ⟨R, hR⟩ : ∃ R, Plain.isT l = R := ⟨_, rfl⟩
  rw [hR] at HY HZ HI HRT ⊢
  clear hR
  rcases R with _ | _
  · go_wp2
    go_ret
    refine ⟨_, rfl, ?_, c1⟩
    rw [HZ.out (by trivial)]
    exact ⟨0, 0, World.ownsRow_nil _ _ _ _⟩
  have h64 := (HI.out (by trivial)).2
  rw [HN.out] at h64
  have HP := Lib.hid (rput_any none 0 [] (n : Int) w1 (by simp) Lies.nil)
  go_wp2_with fail
  refine HP.out.mono ?_
  rintro e w3 ⟨v3, rfl, ho3, d3⟩
  have c3 := c1.trans (d3.mono c1.size)
  have HO3 := Lib.hid (show (Fact.own (Plain.put (n : Int))).φ v3 w3 from ⟨_, _, ho3⟩)
  clear ho3 HP
  generalize hfr : Plain.put (n : Int) = FR at *
  have HFR := Lib.hid hfr
  clear hfr
  go_wp2
  go_loopw [3, 4] (fun v i wr => ∃ k : Nat, i = .int .i64 k ∧ k ≤ n ∧ (Fact.own (FR ++ Plain.wire (l.take k))).φ v wr ∧ Below w.heap.size w wr) (fun _ i _ => n - (intOf i).toNat)
  case atStart => exact ⟨0, rfl, Nat.zero_le _, by simpa [Plain.wire_nil] using HO3.out, c3⟩
  case round =>
    obtain ⟨k, rfl, hk, hown, hbr⟩ := hrel
    have HO := Lib.hid hown
    clear hown
    by_cases hlt : k < n
    · have hkl : k < l.length := by rw [HN.out]; exact hlt
      obtain ⟨ad, rfl, hadb, hc⟩ := at_span HA.out k hkl
      obtain ⟨x0, x1, x2, x3, x4, x5, x6⟩ := hc wr hbr
      obtain ⟨hxv, hxn⟩ := HS.out l[k] (List.getElem_mem hkl)
      have HTK := Lib.hid (show Plain.wire (l.take (k + 1)) = Plain.wire (l.take k) ++ l[k].bytes by rw [List.take_succ_eq_append_getElem hkl, Plain.wire_append, Plain.wire_one])
      have HOB := Lib.hid (outp_right l[k] (HRT.out (by trivial) l[k] (List.getElem_mem hkl)))
      obtain ⟨B, m, ho⟩ := HO.out
      obtain ⟨Ar, capr, rfl, hlr, hmr, hcl, hL⟩ := own_form ho
      rw [cells_length] at hcl
      have hwl := Plain.wire_len (l.take k)
      have htl : (l.take k).length ≤ 64 := by rw [List.length_take]; omega
      have hfl := HFL.out
      have hsm : m ≤ 30000 := by rw [← hcl, List.length_append]; omega
      have HP := Lib.hid (rspanPut_any Ar m capr (FR ++ Plain.wire (l.take k)) l[k] wr hcl (by omega) hL hxv hxn)
      rw [HOB.out, List.append_assoc, ← HTK.out] at HP
      clear hc ho hL hcl hwl htl hfl HO HTK HOB
      generalize l[k] = x at *
      obtain ⟨xt, xi, xp, xs, xd, xv, xn⟩ := x
      simp only at x0 x1 x2 x3 x4 x5 x6 HP
      generalize str xv = XV at *
      generalize str xn = XN at *
      go_wp2_with fail
      clear x0 x1 x2 x3 x4 x5 x6
      refine HP.out.mono ?_
      rintro e w5 ⟨v5, rfl, ho5, d5⟩
      have HO5 := Lib.hid ho5
      clear ho5 HP
      go_wp2
      go_roundw
      case rel => exact ⟨k + 1, by go_num, by omega, HO5.out, hbr.trans (d5.mono hbr.size)⟩
      case measure => simp [intOf]; omega
    · obtain rfl : k = n := by omega
      have hHY := HY.out (by trivial)
      rw [HN.out, HFR.out] at hHY
      have HHY := Lib.hid hHY
      clear hHY
      go_wp2
      go_ret
      refine ⟨_, rfl, ?_, hbr⟩
      rw [HHY.out]
      have := HO.out
      rwa [List.take_of_length_le (by rw [HN.out]; omega)] at this
end Go.Proofs.Ythcchfhkeghkhaa

namespace Go.Proofs.Ythcchfhkeghkhaa
open Go.RowKit
set_option maxRecDepth 100000

end Go.Proofs.Ythcchfhkeghkhaa
