/-
  Layer 5: trace.Put and trace.Get: what they answer, of any spans and of any bytes. Assumed: that these lie in memory, and for Get that errors.errorType is what its own text lays.
-/
import Derived.Test.YthcchfhkeghkhaaTrA
import Derived.Test.YthcchfhkeghkhaaBatB
import Derived.Test.YthcchfhkeghkhaaSpanG

namespace Go.Proofs.Ythcchfhkeghkhaa
open Go.RowKit
set_option maxRecDepth 100000

set_option maxHeartbeats 2000000 in
theorem tput_any (A : Option Addr) (n cap : Nat) (l : List Plain.Sp) (w : World) (hn : l.length = n) (hm : n ≤ maxLen) (hA : Lies w A (flat l)) (hS : Fine l) :
    Calls Try.prog 59 #[.slice A n cap] w (Made w (Plain.tput l)) := by
  obtain ⟨i0, hi, hz0, hz1, hz2⟩ := info_parts infoU8
  have HN := Lib.hid hn
  have HA := Lib.hid hA
  have HS := Lib.hid hS
  have HIB := Lib.hid (tright_any A n cap l w hn hm hA hS)
  have HY := Lib.hid (Plain.tput_yes (l := l))
  have HZ := Lib.hid (Plain.tput_no (l := l))
  have HI := Lib.hid (Plain.isT_len (l := l))
  have HRT := Lib.hid (Plain.isT_right (l := l))
  have HFL := Lib.hid (Plain.put_le (n : Int))
  unfold maxLen at hm
  clear hn hA hS
  go_enter Try.func59, Try.ntmps59
  go_wp2_with fail
  refine HIB.out.mono ?_
  rintro e w1 ⟨rfl, c1⟩
  clear HIB
  obtain ⟨R, hR⟩ : ∃ R, Plain.isT l = R := ⟨_, rfl⟩
  rw [hR] at HY HZ HI HRT ⊢
  clear hR
  rcases R with _ | _
  · go_wp2
    go_ret
    refine ⟨_, rfl, ?_, c1⟩
    rw [HZ.out (by trivial)]
    exact World.ownsRow_nil _ _ _ _
  have h64 := (HI.out (by trivial)).2
  rw [HN.out] at h64
  have HP := Lib.hid (put_any none 0 [] (n : Int) w1 (by simp) Lies.nil)
  go_wp2_with fail
  refine HP.out.mono ?_
  rintro e w3 ⟨v3, rfl, ho3, d3⟩
  have HO3 := Lib.hid (show w3.ownsRow w1.heap.size 5 1 v3 (Plain.put (n : Int)).length (cells (Plain.put (n : Int))) from ho3)
  clear ho3 HP
  generalize hfr : Plain.put (n : Int) = FR at *
  have HFR := Lib.hid hfr
  clear hfr
  go_wp2
  go_loopw [3, 14] (fun v i wr => ∃ k : Nat, i = .int .i64 k ∧ k ≤ n ∧ wr.ownsRow w1.heap.size 5 1 v (FR ++ Plain.wire (l.take k)).length (cells (FR ++ Plain.wire (l.take k))) ∧ Below w1.heap.size w1 wr) (fun _ i _ => n - (intOf i).toNat)
  case atStart => exact ⟨0, rfl, Nat.zero_le _, by simpa [Plain.wire_nil] using HO3.out, d3⟩
  case round =>
    obtain ⟨k, rfl, hk, hown, hbr⟩ := hrel
    have HO := Lib.hid hown
    clear hown
    have hbw : Below w.heap.size w wr := c1.trans (hbr.mono c1.size)
    have HWL := Lib.hid (Plain.wire_len (l.take k))
    have HTL := Lib.hid (show (l.take k).length ≤ 64 by rw [List.length_take]; omega)
    by_cases hlt : k < n
    · have hkl : k < l.length := by rw [HN.out]; exact hlt
      obtain ⟨ad, rfl, hadb, hc⟩ := at_span HA.out k hkl
      obtain ⟨x0, x1, x2, x3, x4, x5, x6⟩ := hc wr hbw
      obtain ⟨hxv, hxn⟩ := HS.out l[k] (List.getElem_mem hkl)
      have HTK := Lib.hid (show Plain.wire (l.take (k + 1)) = Plain.wire (l.take k) ++ l[k].bytes by rw [List.take_succ_eq_append_getElem hkl, Plain.wire_append, Plain.wire_one])
      have HOB := Lib.hid (outp_right l[k] (HRT.out (by trivial) l[k] (List.getElem_mem hkl)))
      have hbm := l[k].bytes_max
      have HP := Lib.hid (fun u : World => spanPut_any none 0 0 [] l[k] u rfl (by omega) Lies.nil hxv hxn)
      rw [HOB.out] at HP
      clear hc
      generalize l[k].bytes = q at *
      generalize l[k] = x at *
      obtain ⟨xt, xi, xp, xs, xd, xv, xn⟩ := x
      simp only at *
      generalize str xv = XV at *
      generalize str xn = XN at *
      go_wp2_with fail
      clear x0 x1 x2 x3 x4 x5 x6
      refine (HP.out _).mono ?_
      rintro e w5 ⟨v5, rfl, ho5, d5⟩
      obtain ⟨A5, cap5, rfl, hl5, hm5, -, hL5⟩ := own_form ho5
      have hal : Below w1.heap.size w1 (wr.alloc (.cells #[.int .i64 xt, .int .i64 xi, .int .i64 xp, .int .i64 xs, .int .i64 xd, .string XV, .string XN] 45)) := hbr.alloc hbr.size _
      have HO5 := Lib.hid (own_keep (HO.out.alloc (.cells #[.int .i64 xt, .int .i64 xi, .int .i64 xp, .int .i64 xs, .int .i64 xd, .string XV, .string XN] 45)) d5)
      have c5 : Below w1.heap.size w1 w5 := hal.trans (d5.mono hal.size)
      have HWL' := HWL.out
      have HTL' := HTL.out
      have HFL' := HFL.out
      clear ho5 d5 hal
      have HL5 := Lib.hid hL5
      clear hL5
      have hqq : ([] ++ q).length = q.length := rfl
      rw [hqq] at hl5 ⊢
      have HQ := Lib.hid (show Lies w5 A5 (cells q) from HL5.out)
      have HC1 := Lib.hid (cells_length q)
      have HC2 := Lib.hid (cells_one q)
      have HAP := Lib.hid (show cells (FR ++ Plain.wire (l.take k)) ++ cells q = cells (FR ++ Plain.wire (l.take (k + 1))) by rw [HTK.out, ← cells_append, List.append_assoc])
      have HAL := Lib.hid (show (FR ++ Plain.wire (l.take k)).length + q.length = (FR ++ Plain.wire (l.take (k + 1))).length by rw [HTK.out]; simp only [List.length_append]; omega)
      have hsm : (FR ++ Plain.wire (l.take k)).length ≤ 30000 := by rw [List.length_append]; omega
      have hql : q.length ≤ 101 := hbm
      clear HL5 hqq
      generalize cells q = Q at *
      generalize q.length = ql at *
      generalize (FR ++ Plain.wire (l.take k)).length = pl at *
      generalize cells (FR ++ Plain.wire (l.take k)) = PC at *
      go_wp2_with (at_builtin; refine wpList_app rfl _ _ 68 rfl w1.heap.size 5 i0 (.int .u8 0) Try.underlying68 hi hz0 hz1 hz2 rfl u3 pl PC rfl HO5.out A5 ql cap5 Q rfl HC1.out HQ.out HC2.out (by omega) c5.size ?_)
      intro v6 w6 ho6 hg6 _
      have c6 : Below w1.heap.size w1 w6 := c5.grown hg6 c5.size (fun g hg => (HO5.out.lt g hg).1)
      rw [HAP.out, HAL.out] at ho6
      have HO6 := Lib.hid ho6
      clear ho6 hg6
      go_wp2
      go_roundw
      case rel => exact ⟨k + 1, by go_num, by omega, HO6.out, c6⟩
      case measure => simp [intOf]; omega
    · obtain rfl : k = n := by omega
      have hHY := HY.out (by trivial)
      rw [HN.out, HFR.out] at hHY
      have HHY := Lib.hid hHY
      clear hHY
      go_wp2
      go_ret
      refine ⟨_, rfl, ?_, hbw⟩
      rw [HHY.out]
      have := HO.out
      rw [List.take_of_length_le (by rw [HN.out]; omega)] at this
      exact own_mono this c1.size
end Go.Proofs.Ythcchfhkeghkhaa

namespace Go.Proofs.Ythcchfhkeghkhaa
open Go.RowKit
set_option maxRecDepth 100000

/-- what Get hands back -/
def TGetPost (w : World) (r : List Plain.Sp × Nat) (e : Ending) (w' : World) : Prop := ∃ v, e = .returned (.tuple #[v, .int .i64 (r.2 : Int)]) ∧ GivesS w w' r.1 v

end Go.Proofs.Ythcchfhkeghkhaa
