/-
  Layer 8: cell.Put and cell.Get once more, by cases; and the laws' live question (turntablelaw08.head) answers true, and turns nothing that was there. Assumed: that the program's table holds what its text lays there.
-/
import Derived.Test.YtjmjinplihlhcaaDoorCeC

namespace Go.Proofs.YtjmjinplihlhcaaDoor
open Go.RowKit
set_option maxRecDepth 100000

set_option maxHeartbeats 1000000 in
theorem head_any (w : World) (hT : Tab w) : Calls Tryd.prog 8 #[] w fun e w' => e = .returned (.bool true) ∧ Below w.heap.size w w' := by
  have HT := Lib.hid hT
  clear hT
  have hr73 : Ce.right 7 3 = true := by decide
  have hr83 : Ce.right 8 3 = true := by decide
  have hr74 : Ce.right 7 4 = true := by decide
  have HS1 := Lib.hid (Ce.got_put (bs := [97, 98]) hr73 (by decide))
  have HS2 := Lib.hid (show Ce.ok 8 3 (Ce.put 7 3 [97, 98]) = false from (Ce.other_seq (bs := [97, 98]) hr73 hr83 (by decide)).trans (by decide))
  have HS3 := Lib.hid (show Ce.ok 7 4 (Ce.put 7 3 [97, 98]) = false from (Ce.other_place (bs := [97, 98]) hr73 hr74 (by decide)).trans (by decide))
  have HSL := Lib.hid (show (Ce.put 7 3 [97, 98]).length = 64 by rw [Ce.put_length, if_pos ⟨hr73, by decide⟩])
  have HR := Lib.hid hr73
  have HC0 := Lib.hid (show (cells (Ce.put 7 3 [97, 98])).toArray[0]? = some (.int .u8 2) by rw [Ce.put_yes hr73 (by decide)]; rfl)
  have HC3 := Lib.hid (show (cells (Ce.put 7 3 [97, 98])).toArray[3]? = some (.int .u8 0) by rw [Ce.put_yes hr73 (by decide)]; rfl)
  clear hr73 hr83 hr74
  generalize hS : Ce.put 7 3 [97, 98] = S at *
  have HS := Lib.hid hS
  clear hS
  have cs := fun (W : World) (C : Array Value) (n c : Nat) => Lib.run_convert_bytes_const (P := Tryd.prog) W 22 5 C n c Tryd.underlying22 Tryd.underlying5
  go_enter Tryd.func8, Tryd.ntmps8
  go_wp2_with fail
  refine (cput_yes 7 3 _ _ 2 [97, 98] _ rfl HR.out (by omega) (lies_lit _ _ _ _ rfl) (HT.out.alloc _)).mono ?_
  rintro e w1 ⟨g1, rfl, hg1, hk1, b1⟩
  rw [HS.out] at hk1
  have b1w : Below w.heap.size w w1 := ((Below.refl _ _).alloc (Nat.le_refl _) _).trans (b1.mono (by simp))
  have T1 := Lib.hid (HT.out.below b1w (Nat.le_refl _))
  have HK1 := Lib.hid hk1
  have B1 := Lib.hid b1w
  clear hk1 b1 hg1 b1w
  go_wp2_with fail
  refine (cget_yes 7 3 _ _ 64 2 S _ HSL.out (by rw [HS1.out.2]; rfl) HS1.out.1 HK1.out.liesAll T1.out).mono ?_
  rintro e w2 ⟨g2, rfl, hl2, b2⟩
  rw [HS1.out.2] at hl2
  have T2 := Lib.hid (T1.out.below b2 (Nat.le_refl _))
  have HL2 := Lib.hid hl2
  have HK2 := Lib.hid (HK1.out.below b2 (Nat.le_refl _))
  have B2 := Lib.hid (B1.out.trans (b2.mono B1.out.size))
  generalize partAt g2 2 = P2 at *
  clear hl2 b2
  go_wp2_with fail
  refine (cget_no 8 3 _ _ 64 S _ HSL.out HS2.out HK2.out.liesAll T2.out).mono ?_
  rintro e w3 ⟨rfl, b3⟩
  have T3 := Lib.hid (T2.out.below b3 (Nat.le_refl _))
  have HL3 := Lib.hid (HL2.out.below b3)
  have HK3 := Lib.hid (HK2.out.below b3 (Nat.le_refl _))
  have B3 := Lib.hid (B2.out.trans (b3.mono B2.out.size))
  clear b3
  go_wp2_with fail
  refine (cget_no 7 4 _ _ 64 S _ HSL.out HS3.out HK3.out.liesAll T3.out).mono ?_
  rintro e w4 ⟨rfl, b4⟩
  have T4 := Lib.hid (T3.out.below b4 (Nat.le_refl _))
  have hcv := conv_at (HL3.out.below b4) 2 2 rfl
  rw [show str [97, 98] = ⟨#[97, 98]⟩ from rfl] at hcv
  have hk4 := HK3.out.below b4 (Nat.le_refl _)
  have c0 := (hk4.cell 0).trans HC0.out
  have c3 := (hk4.cell 3).trans HC3.out
  have B4 := Lib.hid (B3.out.trans (b4.mono B3.out.size))
  clear b4 hk4
  go_wp2_with fail
  refine (cput_no 0 3 none 0 0 [] _ rfl (by decide) Lies.nil T4.out).mono ?_
  rintro e w5 ⟨rfl, b5⟩
  have T5 := Lib.hid (T4.out.below b5 (Nat.le_refl _))
  have B5 := Lib.hid (B4.out.trans (b5.mono B4.out.size))
  clear b5 hcv c0 c3
  obtain ⟨Z60, hZ⟩ : ∃ Z, (List.replicate 60 (Value.int .u8 0)).toArray = Z := ⟨_, rfl⟩
  have hmk : (Instr.makeSlice 22 (.int .i64 60) (.int .i64 60)).run Tryd.prog w5 = .ok (.slice (some ⟨w5.heap.size, 0, none⟩) 60 60) (w5.alloc (.cells Z60 5)) := by
    rw [← hZ]; exact make_bytes w5 60 (by omega)
  have HL60 := Lib.hid (show Lies (w5.alloc (.cells Z60 5)) (some ⟨w5.heap.size, 0, none⟩) (cells (List.replicate 60 0)) by
    rw [← hZ]; exact lies_lit _ _ _ _ rfl)
  clear hZ
  go_wp2_with fail
  refine (cput_no 7 3 _ _ 60 (List.replicate 60 0) _ rfl (by decide) HL60.out (T5.out.alloc _)).mono ?_
  rintro e w6 ⟨rfl, b6⟩
  have B6 := Lib.hid (B5.out.trans ((((Below.refl _ _).alloc (Nat.le_refl _) _).trans (b6.mono (by simp))).mono B5.out.size))
  clear b6 hmk
  go_wp2_with fail
  refine (room_walk _).mono ?_
  rintro e w' ⟨rfl, rfl⟩
  go_wp2_with fail
  refine (right_is 2147483648 255 true (by decide) _).mono ?_
  rintro e w' ⟨rfl, rfl⟩
  go_wp2_with fail
  refine (right_is 1 256 false (by decide) _).mono ?_
  rintro e w' ⟨rfl, rfl⟩
  go_wp2
  go_ret
  exact ⟨rfl, B6.out⟩
end Go.Proofs.YtjmjinplihlhcaaDoor
