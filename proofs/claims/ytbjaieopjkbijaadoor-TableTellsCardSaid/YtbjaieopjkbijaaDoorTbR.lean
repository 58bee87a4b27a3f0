/-
  Layer 9: table.Right: what it answers, of any table. Assumed: that the extents lie in memory.
-/
import Derived.Test.YtbjaieopjkbijaaDoorTbC

namespace Go.Proofs.YtbjaieopjkbijaaDoor
open Go.RowKit
set_option maxRecDepth 100000

set_option maxHeartbeats 2000000 in
theorem tright_any (g o : Int) (A : Option Addr) (cap n : Nat) (xs : List Tb.Ext) (w : World) (hn : xs.length = n) (hc : n ≤ cap) (hA : Lies w A (flatX xs)) :
    Calls Tryd.prog 13 #[tabV g o A n cap] w fun e w' => e = .returned (.bool (Tb.right ⟨g, o, xs⟩)) ∧ Below w.heap.size w w' := by
  have HQ := Lib.hid (show Tb.right ⟨g, o, xs⟩ = ((((decide ((1 : Int) ≤ g ∧ g ≤ 2147483648) && decide ((4 : Int) ≤ (n : Int) ∧ (n : Int) ≤ 8)) && !(xs.any fun x => !Tb.okE x)) && Tb.apart xs) && Tb.opOk ⟨g, o, xs⟩) by
    unfold Tb.right
    simp only
    rw [hn, List.not_any_eq_all_not]
    have e1 : decide ((1 : Int) ≤ g ∧ g ≤ 2147483648) = (decide (1 ≤ g) && decide (g ≤ 2147483648)) := Bool.decide_and _ _
    have e2 : decide ((4 : Int) ≤ (n : Int) ∧ (n : Int) ≤ 8) = (decide (4 ≤ n) && decide (n ≤ 8)) := by
      rw [← Bool.decide_and, decide_eq_decide]; omega
    rw [e1, e2]
    simp [Bool.and_assoc])
  have H1 := Lib.hid (fun (r : Bool) (h : decide ((1 : Int) ≤ g ∧ g ≤ 2147483648) = r) (W : World) => withinL_any g 1 2147483648 r h W)
  have H2 := Lib.hid (fun (r : Bool) (h : decide ((4 : Int) ≤ (n : Int) ∧ (n : Int) ≤ 8) = r) (W : World) => withinI_any (n : Int) 4 8 r h W)
  have h8 : decide ((4 : Int) ≤ (n : Int) ∧ (n : Int) ≤ 8) = true → n ≤ 8 := fun h => by have := of_decide_eq_true h; omega
  have HA := Lib.hid hA
  have HB := Lib.hid ((Below.refl w.heap.size w).alloc (Nat.le_refl _) (.cells #[.int .i64 g, .int .i64 o, .slice A n cap] 24))
  have HBX := Lib.hid (Blk.new w #[.int .i64 g, .int .i64 o, .slice A n cap] 24)
  have HA0 := Lib.hid (hA.below HB.out)
  generalize Tb.right ⟨g, o, xs⟩ = R at *
  generalize decide ((1 : Int) ≤ g ∧ g ≤ 2147483648) = b1 at *
  generalize decide ((4 : Int) ≤ (n : Int) ∧ (n : Int) ≤ 8) = b2 at *
  have HN := Lib.hid hn
  clear hA hn
  go_enter Tryd.func13, Tryd.ntmps13
  go_wp2_with fail
  refine (H1.out b1 rfl _).mono ?_
  rintro e w1 ⟨rfl, rfl⟩
  rcases b1 with _ | _
  · go_wp2
    go_ret
    exact ⟨by rw [HQ.out]; rfl, HB.out⟩
  go_wp2_with fail
  refine (H2.out b2 rfl _).mono ?_
  rintro e w1 ⟨rfl, rfl⟩
  rcases b2 with _ | _
  · go_wp2
    go_ret
    exact ⟨by rw [HQ.out]; rfl, HB.out⟩
  have H8 := Lib.hid (h8 rfl)
  have H3 := Lib.hid (contains_wrong A cap n xs _ HN.out H8.out HA0.out)
  generalize (xs.any fun x => !Tb.okE x) = b3 at *
  clear h8
  go_wp2_with fail
  refine H3.out.mono ?_
  rintro e w1 ⟨rfl, d1⟩
  have hb1 := HBX.out.below d1 (Nat.le_refl _)
  have HBX1 := Lib.hid hb1
  have HA1 := Lib.hid (HA0.out.below d1)
  have HB1 := Lib.hid (HB.out.trans (d1.mono HB.out.size))
  clear d1 H3
  have z2 : w1.cell? ⟨w.heap.size, 2, none⟩ = some (.slice A n cap) := hb1.cell 2
  clear hb1
  rcases b3 with _ | _
  rotate_left
  · go_wp2
    go_ret
    exact ⟨by rw [HQ.out]; rfl, HB1.out⟩
  have H4 := Lib.hid (apart_any A cap n xs w1 HN.out H8.out hc HA1.out)
  generalize Tb.apart xs = b4 at *
  go_wp2_with fail
  refine H4.out.mono ?_
  rintro e w2 ⟨rfl, d2⟩
  have hb2 := HBX1.out.below d2 (Nat.le_refl _)
  have HA2 := Lib.hid (HA1.out.below d2)
  have HB2 := Lib.hid (HB1.out.trans (d2.mono HB1.out.size))
  clear d2 H4 z2
  have z0 : w2.cell? ⟨w.heap.size, 0, none⟩ = some (.int .i64 g) := hb2.cell 0
  have z1 : w2.cell? ⟨w.heap.size, 1, none⟩ = some (.int .i64 o) := hb2.cell 1
  have z2 : w2.cell? ⟨w.heap.size, 2, none⟩ = some (.slice A n cap) := hb2.cell 2
  clear hb2
  rcases b4 with _ | _
  · go_wp2
    go_ret
    exact ⟨by rw [HQ.out]; rfl, HB2.out⟩
  have H5 := Lib.hid (rightOpen_any g o A cap n xs w2 HN.out H8.out HA2.out)
  generalize Tb.opOk ⟨g, o, xs⟩ = b5 at *
  go_wp2_with fail
  refine H5.out.mono ?_
  rintro e w3 ⟨rfl, d3⟩
  have HB3 := Lib.hid (HB2.out.trans (d3.mono HB2.out.size))
  clear d3 z0 z1 z2
  go_wp2
  go_ret
  exact ⟨by rw [HQ.out]; rfl, HB3.out⟩
end Go.Proofs.YtbjaieopjkbijaaDoor
