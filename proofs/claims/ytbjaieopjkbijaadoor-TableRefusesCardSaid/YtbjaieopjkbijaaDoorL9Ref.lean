/-
  P9.1, TableRefuses: for all tables and places the law returns true: one with two alike, with an Open that is free, or has something fixed, or with too few extents, is not right. No condition but that the program's table starts as its text lays it.
-/
import Derived.Test.YtbjaieopjkbijaaDoorL9R
import Derived.Test.YtbjaieopjkbijaaDoorLaid2
namespace Go.Proofs.YtbjaieopjkbijaaDoor.tableRefuses
open Go.ChangeShapes Go.WideShapes Go.ChangeAt Go.RowKit

set_option maxHeartbeats 4000000 in
set_option maxRecDepth 100000 in
theorem walkN (w : World) (hT : Tab w) (g o : Int) (A : Option Addr) (cap n : Nat) (xs : List Tb.Ext) (hn : xs.length = n) (hc : n ≤ cap) (hA : Lies w A (flatX xs)) (ka ja : Nat) (hka : ka < 256) (hja : ja < 256) :
    Calls Tryd.prog 7 #[tabV g o A n cap, .int .u8 (ka : Int), .int .u8 (ja : Int)] w fun e w' => e = .returned (.bool true) ∧ Below w.heap.size w w' := by
  obtain ⟨i0, hi, hz0, hz1, hz2⟩ := info_parts infoEx
  have HX0 := Lib.hid (Blk.new w #[.int .i64 g, .int .i64 o, .slice A n cap] 24)
  have B0 := Lib.hid ((Below.refl w.heap.size w).alloc (Nat.le_refl _) (.cells #[.int .i64 g, .int .i64 o, .slice A n cap] 24))
  have HA0 := Lib.hid (hA.below B0.out)
  have HT0 := Lib.hid (hT.below B0.out (Nat.le_refl _))
  have HN := Lib.hid hn
  clear hA hT hn
  go_enter Tryd.func7, Tryd.ntmps7
  go_wp2_with fail
  generalize w.alloc (.cells #[.int .i64 g, .int .i64 o, .slice A n cap] 24) = w0 at *
  refine (head_any w0 HT0.out).mono ?_
  rintro e w1 ⟨rfl, b1⟩
  have HX1 := Lib.hid (HX0.out.below b1 (Nat.le_refl _))
  have HA1 := Lib.hid (HA0.out.below b1)
  have HT1 := Lib.hid (HT0.out.below b1 (Nat.le_refl _))
  have B1 := Lib.hid (B0.out.trans (b1.mono B0.out.size))
  clear b1
  obtain ⟨z0, z1, z2⟩ := HX1.out.three
  have HRR := Lib.hid (tright_any g o A cap n xs w1 HN.out hc HA1.out)
  by_cases hr : Tb.right ⟨g, o, xs⟩ = true
  rotate_left
  · rw [show Tb.right ⟨g, o, xs⟩ = false by simpa using hr] at HRR
    clear hr
    go_wp2_with fail
    refine HRR.out.mono ?_
    rintro e w2 ⟨rfl, b2⟩
    go_wp2
    go_ret
    exact ⟨rfl, B1.out.trans (b2.mono B1.out.size)⟩
  rw [hr] at HRR
  have hR := Tb.right_iff.1 hr
  have hn8 : n ≤ 8 := by have := hR.n2; rw [← HN.out]; exact this
  have hn4 : 4 ≤ n := by have := hR.n1; rw [← HN.out]; exact this
  clear hr hR
  go_wp2_with fail
  refine HRR.out.mono ?_
  rintro e w2 ⟨rfl, b2⟩
  have HX2 := Lib.hid (HX1.out.below b2 (Nat.le_refl _))
  have HA2 := Lib.hid (HA1.out.below b2)
  have HT2 := Lib.hid (HT1.out.below b2 (Nat.le_refl _))
  have B2 := Lib.hid (B1.out.trans (b2.mono B1.out.size))
  clear b2 z0 z1 z2 HRR
  obtain ⟨z0, z1, z2⟩ := HX2.out.three
  obtain ⟨k, hk, hkn⟩ : ∃ k : Nat, (ka : Int) % (n : Int) = (k : Int) ∧ k < n := ⟨ka % n, by rw [Int.natCast_emod], Nat.mod_lt _ (by omega)⟩
  obtain ⟨j, hj, hjn⟩ : ∃ j : Nat, (ja : Int) % (n : Int) = (j : Int) ∧ j < n := ⟨ja % n, by rw [Int.natCast_emod], Nat.mod_lt _ (by omega)⟩
  have hnz : ((n : Int) == 0) = false := by simp; omega
  obtain ⟨ad, rfl, hadb, -⟩ := at_ext HA2.out 0 (by have := HN.out; omega)
  have HAD := Lib.hid hadb
  clear hadb
  have HBT := Lib.hid HX2.out.lt
  have ba1 : Below w2.heap.size w2 (w2.alloc (.cells #[.int .i64 g, .int .i64 o, .slice (some ad) n cap] 24)) := (Below.refl _ _).alloc (Nat.le_refl _) _
  have hs1 : (w2.alloc (.cells #[.int .i64 g, .int .i64 o, .slice (some ad) n cap] 24)).heap.size = w2.heap.size + 1 := by simp
  have ba2 : Below w2.heap.size w2 ((w2.alloc (.cells #[.int .i64 g, .int .i64 o, .slice (some ad) n cap] 24)).alloc (.cells #[] 39)) := ba1.alloc (by simp) _
  have hxa := Blk.new w2 #[.int .i64 g, .int .i64 o, .slice (some ad) n cap] 24
  have HXA := Lib.hid (hxa.below ((Below.refl _ _).alloc (Nat.le_refl _) (.cells #[] 39)) (Nat.le_refl _))
  have HXT := Lib.hid (HX2.out.below ba2 (Nat.le_refl _))
  have HLO := Lib.hid (lit_own (w2.alloc (.cells #[.int .i64 g, .int .i64 o, .slice (some ad) n cap] 24)))
  rw [hs1] at HLO
  have HA4 := Lib.hid (HA2.out.below ba2)
  have B4 := Lib.hid (B2.out.trans (ba2.mono B2.out.size))
  have HS4 := Lib.hid (show ((w2.alloc (.cells #[.int .i64 g, .int .i64 o, .slice (some ad) n cap] 24)).alloc (.cells #[] 39)).heap.size = w2.heap.size + 2 by simp)
  clear hxa ba1 ba2 hs1
  have z2' := HXT.out.cell 2
  go_wp2_with (at_builtin; refine wpList_appK rfl _ _ 22 rfl (w2.heap.size + 1) 39 i0 (.agg #[.int .i64 0, .int .i64 0]) 2 16 Tryd.underlying22 hi hz0 hz1 hz2 rfl (by omega) (.slice (some ⟨w2.heap.size + 1, 0, none⟩) 0 0) 0 [] rfl ?a1 (some ad) n cap (flatX xs) rfl ?a2 ?a3 ?a4 ?a5 ?a6 ?a7 ?a8)
  case a1 => exact HLO.out
  case a2 => rw [flatX_length, HN.out]
  case a3 => exact HA4.out
  case a4 => exact flatX_one xs
  case a5 => unfold maxLen; omega
  case a6 => omega
  case a7 => simp
  case a8 =>
    intro v5 w5 hown5 hg5 _
    obtain ⟨ga, ca, rfl, hga, hca, hrow⟩ := Row9.of hown5 (by omega)
    have hK5 := (Kept.refl [w2.heap.size + 1] _).grown hg5 (by simp)
    have hgl := hrow.lt
    have hbt := HBT.out
    have had := HAD.out
    have hsz5 := hK5.size
    rw [HS4.out] at hsz5
    have X5 := hK5.blk HXA.out (by simp)
    have XT5 := hK5.blk HXT.out (by simp; omega)
    have L5 := HA4.out.kept9 hK5 (by simp; omega)
    have B5 := Lib.hid (Kept.below B4.out hK5 (by simp; omega))
    have y2 := X5.cell 2
    have fy2 := X5.frozen 2
    have X6 : Blk (w5.setCell ⟨w2.heap.size, 2, none⟩ (.slice (some ⟨ga, 0, none⟩) n ca)) w2.heap.size #[.int .i64 g, .int .i64 o, .slice (some ⟨ga, 0, none⟩) n ca] 24 := X5.set 2 (.slice (some ⟨ga, 0, none⟩) n ca)
    have R6 : Row9 (w5.setCell ⟨w2.heap.size, 2, none⟩ (.slice (some ⟨ga, 0, none⟩) n ca)) ga n xs := hrow.kept ((Kept.refl [w2.heap.size] w5).setCell (p := ⟨w2.heap.size, 2, none⟩) (by simp) _) (by simp; omega)
    have u6 := X6.cell 2
    obtain ⟨⟨c1, hc1⟩, f1, ⟨c2, hc2⟩, f2, R7⟩ := R6.step k hkn 77 0
    have X7 : Blk (((w5.setCell ⟨w2.heap.size, 2, none⟩ (.slice (some ⟨ga, 0, none⟩) n ca)).setCell ⟨ga, k * 2, none⟩ (.int .i64 77)).setCell ⟨ga, k * 2 + 1, none⟩ (.int .i64 0)) w2.heap.size #[.int .i64 g, .int .i64 o, .slice (some ⟨ga, 0, none⟩) n ca] 24 := (((Kept.refl [ga] (w5.setCell ⟨w2.heap.size, 2, none⟩ (.slice (some ⟨ga, 0, none⟩) n ca))).setCell (p := ⟨ga, k * 2, none⟩) (by simp) _).setCell (p := ⟨ga, k * 2 + 1, none⟩) (by simp) _).blk X6 (by simp; omega)
    have u7 := X7.cell 2
    obtain ⟨⟨c3, hc3⟩, f3, ⟨c4, hc4⟩, f4, R8⟩ := R7.step j hjn 77 0
    have X8 : Blk (((((w5.setCell ⟨w2.heap.size, 2, none⟩ (.slice (some ⟨ga, 0, none⟩) n ca)).setCell ⟨ga, k * 2, none⟩ (.int .i64 77)).setCell ⟨ga, k * 2 + 1, none⟩ (.int .i64 0)).setCell ⟨ga, j * 2, none⟩ (.int .i64 77)).setCell ⟨ga, j * 2 + 1, none⟩ (.int .i64 0)) w2.heap.size #[.int .i64 g, .int .i64 o, .slice (some ⟨ga, 0, none⟩) n ca] 24 := (((Kept.refl [ga] (((w5.setCell ⟨w2.heap.size, 2, none⟩ (.slice (some ⟨ga, 0, none⟩) n ca)).setCell ⟨ga, k * 2, none⟩ (.int .i64 77)).setCell ⟨ga, k * 2 + 1, none⟩ (.int .i64 0))).setCell (p := ⟨ga, j * 2, none⟩) (by simp) _).setCell (p := ⟨ga, j * 2 + 1, none⟩) (by simp) _).blk X7 (by simp; omega)
    have u8 := X8.cell 1
    have fu8 := X8.frozen 1
    have X9 := X8.set 1 (.int .i64 (k : Int))
    have R9 : Row9 ((((((w5.setCell ⟨w2.heap.size, 2, none⟩ (.slice (some ⟨ga, 0, none⟩) n ca)).setCell ⟨ga, k * 2, none⟩ (.int .i64 77)).setCell ⟨ga, k * 2 + 1, none⟩ (.int .i64 0)).setCell ⟨ga, j * 2, none⟩ (.int .i64 77)).setCell ⟨ga, j * 2 + 1, none⟩ (.int .i64 0)).setCell ⟨w2.heap.size, 1, none⟩ (.int .i64 (k : Int))) ga n ((xs.set k ⟨77, 0⟩).set j ⟨77, 0⟩) := R8.kept ((Kept.refl [w2.heap.size] (((((w5.setCell ⟨w2.heap.size, 2, none⟩ (.slice (some ⟨ga, 0, none⟩) n ca)).setCell ⟨ga, k * 2, none⟩ (.int .i64 77)).setCell ⟨ga, k * 2 + 1, none⟩ (.int .i64 0)).setCell ⟨ga, j * 2, none⟩ (.int .i64 77)).setCell ⟨ga, j * 2 + 1, none⟩ (.int .i64 0))).setCell (p := ⟨w2.heap.size, 1, none⟩) (by simp) _) (by simp; omega)
    have K9 : Kept [w2.heap.size, ga] w5 ((((((w5.setCell ⟨w2.heap.size, 2, none⟩ (.slice (some ⟨ga, 0, none⟩) n ca)).setCell ⟨ga, k * 2, none⟩ (.int .i64 77)).setCell ⟨ga, k * 2 + 1, none⟩ (.int .i64 0)).setCell ⟨ga, j * 2, none⟩ (.int .i64 77)).setCell ⟨ga, j * 2 + 1, none⟩ (.int .i64 0)).setCell ⟨w2.heap.size, 1, none⟩ (.int .i64 (k : Int))) := (((((((Kept.refl _ _).setCell (p := ⟨w2.heap.size, 2, none⟩) (by simp) _).setCell (p := ⟨ga, k * 2, none⟩) (by simp) _).setCell (p := ⟨ga, k * 2 + 1, none⟩) (by simp) _).setCell (p := ⟨ga, j * 2, none⟩) (by simp) _).setCell (p := ⟨ga, j * 2 + 1, none⟩) (by simp) _).setCell (p := ⟨w2.heap.size, 1, none⟩) (by simp) _)
    have XT9 := K9.blk XT5 (by simp; omega)
    have L9 := L5.kept9 K9 (by simp; omega)
    have B9 := Lib.hid (Kept.below B5.out K9 (by simp; omega))
    have S9 : ((((((w5.setCell ⟨w2.heap.size, 2, none⟩ (.slice (some ⟨ga, 0, none⟩) n ca)).setCell ⟨ga, k * 2, none⟩ (.int .i64 77)).setCell ⟨ga, k * 2 + 1, none⟩ (.int .i64 0)).setCell ⟨ga, j * 2, none⟩ (.int .i64 77)).setCell ⟨ga, j * 2 + 1, none⟩ (.int .i64 0)).setCell ⟨w2.heap.size, 1, none⟩ (.int .i64 (k : Int))).heap.size = w5.heap.size := by simp
    obtain ⟨p0, p1, p2⟩ := Blk.three (show Blk ((((((w5.setCell ⟨w2.heap.size, 2, none⟩ (.slice (some ⟨ga, 0, none⟩) n ca)).setCell ⟨ga, k * 2, none⟩ (.int .i64 77)).setCell ⟨ga, k * 2 + 1, none⟩ (.int .i64 0)).setCell ⟨ga, j * 2, none⟩ (.int .i64 77)).setCell ⟨ga, j * 2 + 1, none⟩ (.int .i64 0)).setCell ⟨w2.heap.size, 1, none⟩ (.int .i64 (k : Int))) w2.heap.size #[.int .i64 g, .int .i64 (k : Int), .slice (some ⟨ga, 0, none⟩) n ca] 24 from X9)
    have hb := Blk.new ((((((w5.setCell ⟨w2.heap.size, 2, none⟩ (.slice (some ⟨ga, 0, none⟩) n ca)).setCell ⟨ga, k * 2, none⟩ (.int .i64 77)).setCell ⟨ga, k * 2 + 1, none⟩ (.int .i64 0)).setCell ⟨ga, j * 2, none⟩ (.int .i64 77)).setCell ⟨ga, j * 2 + 1, none⟩ (.int .i64 0)).setCell ⟨w2.heap.size, 1, none⟩ (.int .i64 (k : Int))) #[.int .i64 g, .int .i64 (k : Int), .slice (some ⟨ga, 0, none⟩) n ca] 24
    have bb1 : Below ((((((w5.setCell ⟨w2.heap.size, 2, none⟩ (.slice (some ⟨ga, 0, none⟩) n ca)).setCell ⟨ga, k * 2, none⟩ (.int .i64 77)).setCell ⟨ga, k * 2 + 1, none⟩ (.int .i64 0)).setCell ⟨ga, j * 2, none⟩ (.int .i64 77)).setCell ⟨ga, j * 2 + 1, none⟩ (.int .i64 0)).setCell ⟨w2.heap.size, 1, none⟩ (.int .i64 (k : Int))).heap.size ((((((w5.setCell ⟨w2.heap.size, 2, none⟩ (.slice (some ⟨ga, 0, none⟩) n ca)).setCell ⟨ga, k * 2, none⟩ (.int .i64 77)).setCell ⟨ga, k * 2 + 1, none⟩ (.int .i64 0)).setCell ⟨ga, j * 2, none⟩ (.int .i64 77)).setCell ⟨ga, j * 2 + 1, none⟩ (.int .i64 0)).setCell ⟨w2.heap.size, 1, none⟩ (.int .i64 (k : Int))) (((((((w5.setCell ⟨w2.heap.size, 2, none⟩ (.slice (some ⟨ga, 0, none⟩) n ca)).setCell ⟨ga, k * 2, none⟩ (.int .i64 77)).setCell ⟨ga, k * 2 + 1, none⟩ (.int .i64 0)).setCell ⟨ga, j * 2, none⟩ (.int .i64 77)).setCell ⟨ga, j * 2 + 1, none⟩ (.int .i64 0)).setCell ⟨w2.heap.size, 1, none⟩ (.int .i64 (k : Int))).alloc (.cells #[.int .i64 g, .int .i64 (k : Int), .slice (some ⟨ga, 0, none⟩) n ca] 24)) := (Below.refl _ _).alloc (Nat.le_refl _) _
    have bb2 := bb1.alloc (by simp) (.cells #[] 39)
    have HLOb := Lib.hid (lit_own (((((((w5.setCell ⟨w2.heap.size, 2, none⟩ (.slice (some ⟨ga, 0, none⟩) n ca)).setCell ⟨ga, k * 2, none⟩ (.int .i64 77)).setCell ⟨ga, k * 2 + 1, none⟩ (.int .i64 0)).setCell ⟨ga, j * 2, none⟩ (.int .i64 77)).setCell ⟨ga, j * 2 + 1, none⟩ (.int .i64 0)).setCell ⟨w2.heap.size, 1, none⟩ (.int .i64 (k : Int))).alloc (.cells #[.int .i64 g, .int .i64 (k : Int), .slice (some ⟨ga, 0, none⟩) n ca] 24)))
    have XA11 := Lib.hid ((show Blk ((((((w5.setCell ⟨w2.heap.size, 2, none⟩ (.slice (some ⟨ga, 0, none⟩) n ca)).setCell ⟨ga, k * 2, none⟩ (.int .i64 77)).setCell ⟨ga, k * 2 + 1, none⟩ (.int .i64 0)).setCell ⟨ga, j * 2, none⟩ (.int .i64 77)).setCell ⟨ga, j * 2 + 1, none⟩ (.int .i64 0)).setCell ⟨w2.heap.size, 1, none⟩ (.int .i64 (k : Int))) w2.heap.size #[.int .i64 g, .int .i64 (k : Int), .slice (some ⟨ga, 0, none⟩) n ca] 24 from X9).below bb2 (Nat.le_refl _))
    have q2 := XA11.out.cell 2
    have XT11 := Lib.hid (XT9.below bb2 (Nat.le_refl _))
    have RA11 := Lib.hid (R9.below bb2)
    have LA11 := Lib.hid (L9.below bb2)
    have hbS := hb.below ((Below.refl _ _).alloc (Nat.le_refl _) (.cells #[] 39)) (Nat.le_refl _)
    rw [S9] at hbS
    have XB11 := Lib.hid hbS
    have HSB := Lib.hid (show ((((((((w5.setCell ⟨w2.heap.size, 2, none⟩ (.slice (some ⟨ga, 0, none⟩) n ca)).setCell ⟨ga, k * 2, none⟩ (.int .i64 77)).setCell ⟨ga, k * 2 + 1, none⟩ (.int .i64 0)).setCell ⟨ga, j * 2, none⟩ (.int .i64 77)).setCell ⟨ga, j * 2 + 1, none⟩ (.int .i64 0)).setCell ⟨w2.heap.size, 1, none⟩ (.int .i64 (k : Int))).alloc (.cells #[.int .i64 g, .int .i64 (k : Int), .slice (some ⟨ga, 0, none⟩) n ca] 24)).alloc (.cells #[] 39)).heap.size = w5.heap.size + 2 by simp)
    have B11 := Lib.hid (B9.out.trans (bb2.mono B9.out.size))
    clear hbS hb bb1 bb2 XT9 L9 K9 X9 R9 X8 R8 X7 R7 X6 R6 X5 XT5 L5 hK5 hown5 hg5 hrow
    go_wp2_with (at_builtin; refine wpList_appK rfl _ _ 22 rfl (w5.heap.size + 1) 39 i0 (.agg #[.int .i64 0, .int .i64 0]) 2 16 Tryd.underlying22 hi hz0 hz1 hz2 rfl (by omega) (.slice (some ⟨w5.heap.size + 1, 0, none⟩) 0 0) 0 [] rfl ?b1 (some ⟨ga, 0, none⟩) n ca (flatX ((xs.set k ⟨77, 0⟩).set j ⟨77, 0⟩)) rfl ?b2 ?b3 ?b4 ?b5 ?b6 ?b7 ?b8)
    case b1 => simpa [S9] using HLOb.out
    case b2 => rw [flatX_length, List.length_set, List.length_set, HN.out]
    case b3 => exact RA11.out.lies
    case b4 => exact flatX_one _
    case b5 => unfold maxLen; omega
    case b6 => omega
    case b7 => simp
    case b8 =>
      intro v12 w12 hown12 hg12 _
      clear S9
      obtain ⟨gb, cb, rfl, hgb, hcb, hrow⟩ := Row9.of hown12 (by omega)
      have hK12 := (Kept.refl [w5.heap.size + 1] _).grown hg12 (by simp)
      have hgbl := hrow.lt
      have hsz12 := hK12.size
      rw [HSB.out] at hsz12
      have XA12 := hK12.blk XA11.out (by simp; omega)
      have XT12 := hK12.blk XT11.out (by simp; omega)
      have XB12 := hK12.blk XB11.out (by simp)
      have RA12 := RA11.out.kept hK12 (by simp; omega)
      have L12 := LA11.out.kept9 hK12 (by simp; omega)
      have B12 := Lib.hid (Kept.below B11.out hK12 (by simp; omega))
      clear hc1 hc2 hc3 hc4 f1 f2 f3 f4 y2 fy2 u6 u7 u8 fu8 p0 p1 p2 q2 z0 z1 z2 z2'
      have y2 := XB12.cell 2
      have fy2 := XB12.frozen 2
      have X13 : Blk (w12.setCell ⟨w5.heap.size, 2, none⟩ (.slice (some ⟨gb, 0, none⟩) n cb)) w5.heap.size #[.int .i64 g, .int .i64 (k : Int), .slice (some ⟨gb, 0, none⟩) n cb] 24 := XB12.set 2 (.slice (some ⟨gb, 0, none⟩) n cb)
      have R13 : Row9 (w12.setCell ⟨w5.heap.size, 2, none⟩ (.slice (some ⟨gb, 0, none⟩) n cb)) gb n ((xs.set k ⟨77, 0⟩).set j ⟨77, 0⟩) := hrow.kept ((Kept.refl [w5.heap.size] w12).setCell (p := ⟨w5.heap.size, 2, none⟩) (by simp) _) (by simp; omega)
      have u6 := X13.cell 2
      obtain ⟨⟨c1, hc1⟩, f1, ⟨c2, hc2⟩, f2, R14⟩ := R13.step k hkn 0 0
      have X14 : Blk (((w12.setCell ⟨w5.heap.size, 2, none⟩ (.slice (some ⟨gb, 0, none⟩) n cb)).setCell ⟨gb, k * 2, none⟩ (.int .i64 0)).setCell ⟨gb, k * 2 + 1, none⟩ (.int .i64 0)) w5.heap.size #[.int .i64 g, .int .i64 (k : Int), .slice (some ⟨gb, 0, none⟩) n cb] 24 := (((Kept.refl [gb] (w12.setCell ⟨w5.heap.size, 2, none⟩ (.slice (some ⟨gb, 0, none⟩) n cb))).setCell (p := ⟨gb, k * 2, none⟩) (by simp) _).setCell (p := ⟨gb, k * 2 + 1, none⟩) (by simp) _).blk X13 (by simp; omega)
      have K14 : Kept [w5.heap.size, gb] w12 (((w12.setCell ⟨w5.heap.size, 2, none⟩ (.slice (some ⟨gb, 0, none⟩) n cb)).setCell ⟨gb, k * 2, none⟩ (.int .i64 0)).setCell ⟨gb, k * 2 + 1, none⟩ (.int .i64 0)) := ((((Kept.refl _ _).setCell (p := ⟨w5.heap.size, 2, none⟩) (by simp) _).setCell (p := ⟨gb, k * 2, none⟩) (by simp) _).setCell (p := ⟨gb, k * 2 + 1, none⟩) (by simp) _)
      have XA14 := K14.blk XA12 (by simp; omega)
      have XT14 := K14.blk XT12 (by simp; omega)
      have RA14 := RA12.kept K14 (by simp; omega)
      have L14 := L12.kept9 K14 (by simp; omega)
      have B14 := Lib.hid (Kept.below B12.out K14 (by simp; omega))
      have S14 : (((w12.setCell ⟨w5.heap.size, 2, none⟩ (.slice (some ⟨gb, 0, none⟩) n cb)).setCell ⟨gb, k * 2, none⟩ (.int .i64 0)).setCell ⟨gb, k * 2 + 1, none⟩ (.int .i64 0)).heap.size = w12.heap.size := by simp
      obtain ⟨p0, p1, p2⟩ := XA14.three
      have hb := Blk.new (((w12.setCell ⟨w5.heap.size, 2, none⟩ (.slice (some ⟨gb, 0, none⟩) n cb)).setCell ⟨gb, k * 2, none⟩ (.int .i64 0)).setCell ⟨gb, k * 2 + 1, none⟩ (.int .i64 0)) #[.int .i64 g, .int .i64 (k : Int), .slice (some ⟨ga, 0, none⟩) n ca] 24
      have bb1 : Below (((w12.setCell ⟨w5.heap.size, 2, none⟩ (.slice (some ⟨gb, 0, none⟩) n cb)).setCell ⟨gb, k * 2, none⟩ (.int .i64 0)).setCell ⟨gb, k * 2 + 1, none⟩ (.int .i64 0)).heap.size (((w12.setCell ⟨w5.heap.size, 2, none⟩ (.slice (some ⟨gb, 0, none⟩) n cb)).setCell ⟨gb, k * 2, none⟩ (.int .i64 0)).setCell ⟨gb, k * 2 + 1, none⟩ (.int .i64 0)) ((((w12.setCell ⟨w5.heap.size, 2, none⟩ (.slice (some ⟨gb, 0, none⟩) n cb)).setCell ⟨gb, k * 2, none⟩ (.int .i64 0)).setCell ⟨gb, k * 2 + 1, none⟩ (.int .i64 0)).alloc (.cells #[.int .i64 g, .int .i64 (k : Int), .slice (some ⟨ga, 0, none⟩) n ca] 24)) := (Below.refl _ _).alloc (Nat.le_refl _) _
      have bb2 := bb1.alloc (by simp) (.cells #[] 39)
      have HLOc := Lib.hid (lit_own ((((w12.setCell ⟨w5.heap.size, 2, none⟩ (.slice (some ⟨gb, 0, none⟩) n cb)).setCell ⟨gb, k * 2, none⟩ (.int .i64 0)).setCell ⟨gb, k * 2 + 1, none⟩ (.int .i64 0)).alloc (.cells #[.int .i64 g, .int .i64 (k : Int), .slice (some ⟨ga, 0, none⟩) n ca] 24)))
      have XA16 := Lib.hid (XA14.below bb2 (Nat.le_refl _))
      have q2 := XA16.out.cell 2
      have XT16 := Lib.hid (XT14.below bb2 (Nat.le_refl _))
      have XB16 := Lib.hid (X14.below bb2 (Nat.le_refl _))
      have RA16 := Lib.hid (RA14.below bb2)
      have RB16 := Lib.hid (R14.below bb2)
      have L16 := Lib.hid (L14.below bb2)
      have hbS := hb.below ((Below.refl _ _).alloc (Nat.le_refl _) (.cells #[] 39)) (Nat.le_refl _)
      rw [S14] at hbS
      have XC16 := Lib.hid hbS
      have B16 := Lib.hid (B14.out.trans (bb2.mono B14.out.size))
      have HSC := Lib.hid (show (((((w12.setCell ⟨w5.heap.size, 2, none⟩ (.slice (some ⟨gb, 0, none⟩) n cb)).setCell ⟨gb, k * 2, none⟩ (.int .i64 0)).setCell ⟨gb, k * 2 + 1, none⟩ (.int .i64 0)).alloc (.cells #[.int .i64 g, .int .i64 (k : Int), .slice (some ⟨ga, 0, none⟩) n ca] 24)).alloc (.cells #[] 39)).heap.size = w12.heap.size + 2 by simp)
      clear hbS hb bb1 bb2 XA14 XT14 RA14 R14 L14 K14 X14 R13 X13 XB12 XA12 XT12 RA12 L12 hK12 hown12 hg12 hrow
      go_wp2_with (at_builtin; refine wpList_appK rfl _ _ 22 rfl (w12.heap.size + 1) 39 i0 (.agg #[.int .i64 0, .int .i64 0]) 2 16 Tryd.underlying22 hi hz0 hz1 hz2 rfl (by omega) (.slice (some ⟨w12.heap.size + 1, 0, none⟩) 0 0) 0 [] rfl ?d1 (some ⟨ga, 0, none⟩) n ca (flatX ((xs.set k ⟨77, 0⟩).set j ⟨77, 0⟩)) rfl ?d2 ?d3 ?d4 ?d5 ?d6 ?d7 ?d8)
      case d1 => simpa [S14] using HLOc.out
      case d2 => rw [flatX_length, List.length_set, List.length_set, HN.out]
      case d3 => exact RA16.out.lies
      case d4 => exact flatX_one _
      case d5 => unfold maxLen; omega
      case d6 => omega
      case d7 => simp
      case d8 =>
        intro v17 w17 hown17 hg17 _
        clear S14
        obtain ⟨gc, cc, rfl, hgc, hcc, hrow⟩ := Row9.of hown17 (by omega)
        have hK17 := (Kept.refl [w12.heap.size + 1] _).grown hg17 (by simp)
        have hgcl := hrow.lt
        have hsz17 := hK17.size
        rw [HSC.out] at hsz17
        have XA17 := hK17.blk XA16.out (by simp; omega)
        have XT17 := hK17.blk XT16.out (by simp; omega)
        have XB17 := hK17.blk XB16.out (by simp; omega)
        have XC17 := hK17.blk XC16.out (by simp)
        have RA17 := RA16.out.kept hK17 (by simp; omega)
        have RB17 := RB16.out.kept hK17 (by simp; omega)
        have L17 := L16.out.kept9 hK17 (by simp; omega)
        have B17 := Lib.hid (Kept.below B16.out hK17 (by simp; omega))
        clear hc1 hc2 f1 f2 y2 fy2 u6 p0 p1 p2 q2
        have y2 := XC17.cell 2
        have fy2 := XC17.frozen 2
        have X18 : Blk (w17.setCell ⟨w12.heap.size, 2, none⟩ (.slice (some ⟨gc, 0, none⟩) n cc)) w12.heap.size #[.int .i64 g, .int .i64 (k : Int), .slice (some ⟨gc, 0, none⟩) n cc] 24 := XC17.set 2 (.slice (some ⟨gc, 0, none⟩) n cc)
        have R18 : Row9 (w17.setCell ⟨w12.heap.size, 2, none⟩ (.slice (some ⟨gc, 0, none⟩) n cc)) gc n ((xs.set k ⟨77, 0⟩).set j ⟨77, 0⟩) := hrow.kept ((Kept.refl [w12.heap.size] w17).setCell (p := ⟨w12.heap.size, 2, none⟩) (by simp) _) (by simp; omega)
        have u6 := X18.cell 2
        obtain ⟨⟨c1, hc1⟩, f1, ⟨c2, hc2⟩, f2, R19⟩ := R18.step k hkn 77 1
        have X19 : Blk (((w17.setCell ⟨w12.heap.size, 2, none⟩ (.slice (some ⟨gc, 0, none⟩) n cc)).setCell ⟨gc, k * 2, none⟩ (.int .i64 77)).setCell ⟨gc, k * 2 + 1, none⟩ (.int .i64 1)) w12.heap.size #[.int .i64 g, .int .i64 (k : Int), .slice (some ⟨gc, 0, none⟩) n cc] 24 := (((Kept.refl [gc] (w17.setCell ⟨w12.heap.size, 2, none⟩ (.slice (some ⟨gc, 0, none⟩) n cc))).setCell (p := ⟨gc, k * 2, none⟩) (by simp) _).setCell (p := ⟨gc, k * 2 + 1, none⟩) (by simp) _).blk X18 (by simp; omega)
        have K19 : Kept [w12.heap.size, gc] w17 (((w17.setCell ⟨w12.heap.size, 2, none⟩ (.slice (some ⟨gc, 0, none⟩) n cc)).setCell ⟨gc, k * 2, none⟩ (.int .i64 77)).setCell ⟨gc, k * 2 + 1, none⟩ (.int .i64 1)) := ((((Kept.refl _ _).setCell (p := ⟨w12.heap.size, 2, none⟩) (by simp) _).setCell (p := ⟨gc, k * 2, none⟩) (by simp) _).setCell (p := ⟨gc, k * 2 + 1, none⟩) (by simp) _)
        have XT19 := K19.blk XT17 (by simp; omega)
        have bd : Below (((w17.setCell ⟨w12.heap.size, 2, none⟩ (.slice (some ⟨gc, 0, none⟩) n cc)).setCell ⟨gc, k * 2, none⟩ (.int .i64 77)).setCell ⟨gc, k * 2 + 1, none⟩ (.int .i64 1)).heap.size (((w17.setCell ⟨w12.heap.size, 2, none⟩ (.slice (some ⟨gc, 0, none⟩) n cc)).setCell ⟨gc, k * 2, none⟩ (.int .i64 77)).setCell ⟨gc, k * 2 + 1, none⟩ (.int .i64 1)) ((((w17.setCell ⟨w12.heap.size, 2, none⟩ (.slice (some ⟨gc, 0, none⟩) n cc)).setCell ⟨gc, k * 2, none⟩ (.int .i64 77)).setCell ⟨gc, k * 2 + 1, none⟩ (.int .i64 1)).alloc (.cells #[.int .i64 g, .int .i64 o, .slice (some ad) n cap] 24)) := (Below.refl _ _).alloc (Nat.le_refl _) _
        have be : Below (((w17.setCell ⟨w12.heap.size, 2, none⟩ (.slice (some ⟨gc, 0, none⟩) n cc)).setCell ⟨gc, k * 2, none⟩ (.int .i64 77)).setCell ⟨gc, k * 2 + 1, none⟩ (.int .i64 1)).heap.size (((w17.setCell ⟨w12.heap.size, 2, none⟩ (.slice (some ⟨gc, 0, none⟩) n cc)).setCell ⟨gc, k * 2, none⟩ (.int .i64 77)).setCell ⟨gc, k * 2 + 1, none⟩ (.int .i64 1)) ((((w17.setCell ⟨w12.heap.size, 2, none⟩ (.slice (some ⟨gc, 0, none⟩) n cc)).setCell ⟨gc, k * 2, none⟩ (.int .i64 77)).setCell ⟨gc, k * 2 + 1, none⟩ (.int .i64 1)).alloc (.cells #[.int .i64 g, .int .i64 (-1), .slice (some ad) 3 cap] 24)) := (Below.refl _ _).alloc (Nat.le_refl _) _
        obtain ⟨p0, p1, p2⟩ := XT19.three
        have q2 := (XT19.below bd (Nat.le_refl _)).cell 2
        have S19 : (((w17.setCell ⟨w12.heap.size, 2, none⟩ (.slice (some ⟨gc, 0, none⟩) n cc)).setCell ⟨gc, k * 2, none⟩ (.int .i64 77)).setCell ⟨gc, k * 2 + 1, none⟩ (.int .i64 1)).heap.size = w17.heap.size := by simp
        have hd := Blk.new (((w17.setCell ⟨w12.heap.size, 2, none⟩ (.slice (some ⟨gc, 0, none⟩) n cc)).setCell ⟨gc, k * 2, none⟩ (.int .i64 77)).setCell ⟨gc, k * 2 + 1, none⟩ (.int .i64 1)) #[.int .i64 g, .int .i64 (-1), .slice (some ad) 3 cap] 24
        rw [S19] at hd
        clear S19
        have XD21 := Lib.hid hd
        have XA21 := Lib.hid ((K19.blk XA17 (by simp; omega)).below be (Nat.le_refl _))
        have XB21 := Lib.hid ((K19.blk XB17 (by simp; omega)).below be (Nat.le_refl _))
        have XC21 := Lib.hid (X19.below be (Nat.le_refl _))
        have RA21 := Lib.hid ((RA17.kept K19 (by simp; omega)).below be)
        have RB21 := Lib.hid ((RB17.kept K19 (by simp; omega)).below be)
        have RC21 := Lib.hid (R19.below be)
        have L21 := Lib.hid ((L17.kept9 K19 (by simp; omega)).below be)
        have h19 := Kept.below B17.out K19 (by simp; omega)
        have B21 := Lib.hid (h19.trans (be.mono h19.size))
        clear h19
        have hsl : ∀ W : World, (Instr.sliceAt 22 (.slice (some ad) n cap) none (some (.int .i64 3)) none).run Tryd.prog W = .ok (.slice (some ad) 3 cap) W := fun W => slice_to W ad n cap 3 (by omega) hc
        have hRA := tright_is g (k : Int) (some ⟨ga, 0, none⟩) ca n ((xs.set k ⟨77, 0⟩).set j ⟨77, 0⟩)
        clear hd bd be XT19 K19 X19 R19 X18 R18 XC17 XB17 XA17 XT17 RA17 RB17 L17 hK17 hown17 hg17 hrow hRA
        have L3 : ∀ W : World, Lies W (some ad) (flatX xs) → Lies W (some ad) (flatX (xs.take 3)) := fun W h => by
          have := h.take (3 * 2)
          rwa [flatX_take] at this
        by_cases hkj : k = j
        · have hkb : ((k : Int) == (j : Int)) = true := by simp [hkj]
          clear hkj
          obtain ⟨a0, a1, a2⟩ := XB21.out.three
          go_wp2_with fail
          generalize (((w17.setCell ⟨w12.heap.size, 2, none⟩ (.slice (some ⟨gc, 0, none⟩) n cc)).setCell ⟨gc, k * 2, none⟩ (.int .i64 77)).setCell ⟨gc, k * 2 + 1, none⟩ (.int .i64 1)).alloc (.cells #[.int .i64 g, .int .i64 (-1), .slice (some ad) 3 cap] 24) = w21 at *
          refine (tright_is g (k : Int) (some ⟨gb, 0, none⟩) cb n (((xs.set k ⟨77, 0⟩).set j ⟨77, 0⟩).set k ⟨0, 0⟩) w21 false (by rw [List.length_set, List.length_set, List.length_set, HN.out]) hcb RB21.out.lies (Tb.open_wrong (by rw [List.length_set, List.length_set, HN.out]; exact hkn) ⟨0, 0⟩ (by simp) g)).mono ?_
          rintro e w22 ⟨rfl, b22⟩
          have B22 := Lib.hid (B21.out.trans (b22.mono B21.out.size))
          have XC22 := Lib.hid (XC21.out.below b22 (Nat.le_refl _))
          have XD22 := Lib.hid (XD21.out.below b22 (Nat.le_refl _))
          have RC22 := Lib.hid (RC21.out.below b22)
          have L22 := Lib.hid (L21.out.below b22)
          clear b22 a0 a1 a2
          obtain ⟨a0, a1, a2⟩ := XC22.out.three
          go_wp2_with fail
          refine (tright_is g (k : Int) (some ⟨gc, 0, none⟩) cc n (((xs.set k ⟨77, 0⟩).set j ⟨77, 0⟩).set k ⟨77, 1⟩) w22 false (by rw [List.length_set, List.length_set, List.length_set, HN.out]) hcc RC22.out.lies (Tb.open_wrong (by rw [List.length_set, List.length_set, HN.out]; exact hkn) ⟨77, 1⟩ (by simp) g)).mono ?_
          rintro e w23 ⟨rfl, b23⟩
          have B23 := Lib.hid (B22.out.trans (b23.mono B22.out.size))
          have XD23 := Lib.hid (XD22.out.below b23 (Nat.le_refl _))
          have L23 := Lib.hid (L22.out.below b23)
          clear b23 a0 a1 a2
          obtain ⟨a0, a1, a2⟩ := XD23.out.three
          go_wp2_with fail
          refine (tright_is g (-1) (some ad) cap 3 (xs.take 3) w23 false (by rw [List.length_take, HN.out]; omega) (by omega) (L3 w23 L23.out) (Tb.few_wrong g (-1) (xs.take 3) (by rw [List.length_take]; omega))).mono ?_
          rintro e w24 ⟨rfl, b24⟩
          have B24 := Lib.hid (B23.out.trans (b24.mono B23.out.size))
          go_wp2
          go_ret
          exact ⟨rfl, B24.out⟩
        · have hkb : ((k : Int) == (j : Int)) = false := by simp; omega
          have HKJ := Lib.hid hkj
          clear hkj
          obtain ⟨a0, a1, a2⟩ := XA21.out.three
          go_wp2_with fail
          generalize (((w17.setCell ⟨w12.heap.size, 2, none⟩ (.slice (some ⟨gc, 0, none⟩) n cc)).setCell ⟨gc, k * 2, none⟩ (.int .i64 77)).setCell ⟨gc, k * 2 + 1, none⟩ (.int .i64 1)).alloc (.cells #[.int .i64 g, .int .i64 (-1), .slice (some ad) 3 cap] 24) = w21 at *
          refine (tright_is g (k : Int) (some ⟨ga, 0, none⟩) ca n ((xs.set k ⟨77, 0⟩).set j ⟨77, 0⟩) w21 false (by rw [List.length_set, List.length_set, HN.out]) hca RA21.out.lies (Tb.twice_wrong (by rw [HN.out]; exact hkn) (by rw [HN.out]; exact hjn) HKJ.out g (k : Int))).mono ?_
          rintro e w22 ⟨rfl, b22⟩
          have B22 := Lib.hid (B21.out.trans (b22.mono B21.out.size))
          have XB22 := Lib.hid (XB21.out.below b22 (Nat.le_refl _))
          have XC22 := Lib.hid (XC21.out.below b22 (Nat.le_refl _))
          have XD22 := Lib.hid (XD21.out.below b22 (Nat.le_refl _))
          have RB22 := Lib.hid (RB21.out.below b22)
          have RC22 := Lib.hid (RC21.out.below b22)
          have L22 := Lib.hid (L21.out.below b22)
          clear b22 a0 a1 a2
          obtain ⟨a0, a1, a2⟩ := XB22.out.three
          go_wp2_with fail
          refine (tright_is g (k : Int) (some ⟨gb, 0, none⟩) cb n (((xs.set k ⟨77, 0⟩).set j ⟨77, 0⟩).set k ⟨0, 0⟩) w22 false (by rw [List.length_set, List.length_set, List.length_set, HN.out]) hcb RB22.out.lies (Tb.open_wrong (by rw [List.length_set, List.length_set, HN.out]; exact hkn) ⟨0, 0⟩ (by simp) g)).mono ?_
          rintro e w23 ⟨rfl, b23⟩
          have B23 := Lib.hid (B22.out.trans (b23.mono B22.out.size))
          have XC23 := Lib.hid (XC22.out.below b23 (Nat.le_refl _))
          have XD23 := Lib.hid (XD22.out.below b23 (Nat.le_refl _))
          have RC23 := Lib.hid (RC22.out.below b23)
          have L23 := Lib.hid (L22.out.below b23)
          clear b23 a0 a1 a2
          obtain ⟨a0, a1, a2⟩ := XC23.out.three
          go_wp2_with fail
          refine (tright_is g (k : Int) (some ⟨gc, 0, none⟩) cc n (((xs.set k ⟨77, 0⟩).set j ⟨77, 0⟩).set k ⟨77, 1⟩) w23 false (by rw [List.length_set, List.length_set, List.length_set, HN.out]) hcc RC23.out.lies (Tb.open_wrong (by rw [List.length_set, List.length_set, HN.out]; exact hkn) ⟨77, 1⟩ (by simp) g)).mono ?_
          rintro e w24 ⟨rfl, b24⟩
          have B24 := Lib.hid (B23.out.trans (b24.mono B23.out.size))
          have XD24 := Lib.hid (XD23.out.below b24 (Nat.le_refl _))
          have L24 := Lib.hid (L23.out.below b24)
          clear b24 a0 a1 a2
          obtain ⟨a0, a1, a2⟩ := XD24.out.three
          go_wp2_with fail
          refine (tright_is g (-1) (some ad) cap 3 (xs.take 3) w24 false (by rw [List.length_take, HN.out]; omega) (by omega) (L3 w24 L24.out) (Tb.few_wrong g (-1) (xs.take 3) (by rw [List.length_take]; omega))).mono ?_
          rintro e w25 ⟨rfl, b25⟩
          have B25 := Lib.hid (B24.out.trans (b25.mono B24.out.size))
          go_wp2
          go_ret
          exact ⟨rfl, B25.out⟩

theorem walk (w : World) (hT : Tab w) (g o : Int) (A : Option Addr) (cap : Nat) (xs : List Tb.Ext) (hl : xs.length ≤ cap) (_ : cap ≤ maxLen) (hA : Lies w A (flatX xs)) (a : Int) (ha : 0 ≤ a ∧ a ≤ 255) (b : Int) (hb : 0 ≤ b ∧ b ≤ 255) :
    Calls Tryd.prog 7 #[tabV g o A xs.length cap, .int .u8 a, .int .u8 b] w fun e w' => e = .returned (.bool true) ∧ Below w.heap.size w w' := by
  obtain ⟨a, rfl⟩ := Int.eq_ofNat_of_zero_le ha.1
  obtain ⟨b, rfl⟩ := Int.eq_ofNat_of_zero_le hb.1
  exact walkN w hT g o A cap xs.length xs rfl hl hA a b (by omega) (by omega)


set_option maxRecDepth 100000 in
theorem lifted (os : Os) (started : os.Started) (H : Type) (enc : TypeId × Value → H) :
    ReturnsInHanded {} Tryd.checked os 7 .any (fun w args => (Rows.tableRefusesSpec.pre enc Tryd.prog Tryd.f7 [] false w args ∧ laidMetH Tryd.prog laidHere w) ∧ sizedMet enc Tryd.prog Tryd.f7 (OpenSpec.ofChange Rows.tableRefusesSpec) false w args) (Rows.tableRefusesSpec.post enc Tryd.prog Tryd.f7 false true false false) := by
  refine returnsInHanded_of_change_and (C := Tryd.checked) (X := fun w _ => laidMetH Tryd.prog laidHere w) (fun _ _ _ hh h => h.of_heap hh) own started (by kernel_rfl) Tryd.func7
    (ChangeSpec.witness_shaped (enc := enc) (C := Tryd.checked) (os := os) (X := fun w _ => laidMetH Tryd.prog laidHere w) false (World.doorLaid Tryd.prog doorSteps os) #[.agg #[.int .i64 0, .int .i64 0, .slice none 0 0], .int .u8 0, .int .u8 0] 8 rfl (World.shaped_of_RefB (by kernel_rfl) (by kernel_rfl)) (by kernel_rfl) (by kernel_rfl) (by kernel_rfl) (door_met os _)) ?_
  intro W base args ds gs before hval0 hW _ _ hL _
  have hval : ∀ (j : Nat) t v, Tryd.f7.params[j]? = some t → args[j]? = some v → Value.okWide Tryd.prog W .any base t v := hval0
  have hfin := fun W' => law_post (enc := enc) (P := Tryd.prog) (f := Tryd.f7) (s := Rows.tableRefusesSpec) (tb := 4) (W := W) (W' := W') (args := args) (ds := ds) (gs := gs) (before := before) laidOut rfl (by kernel_rfl) Tryd.underlying4 (by kernel_rfl) (fun xs h => by rw [Tryd.params7] at h; match xs, h with | [_, _, _], _ => rfl) hW
  have hlt : ∀ x ∈ before, x.block < W.heap.size := fun x hx => hW.lt x hx
  obtain ⟨p, q, hA0, hV, rfl, hfz, hnd⟩ := hW
  have hA : DataW.TrodAll enc Tryd.prog W 0 (fun _ => true) true Tryd.f7.params.toList args.toList ds p := hA0
  rw [Tryd.params7] at hA hval
  obtain ⟨v0, vs0, d0, ds0, p0, q0, hargs, rfl, rfl, h0, r0⟩ := trodAll_cons hA
  obtain ⟨v1, vs1, d1, ds1, p1, q1, rfl, rfl, rfl, h1, r1⟩ := trodAll_cons r0
  obtain ⟨v2, vs2, d2, ds2, p2, q2, rfl, rfl, rfl, h2, r2⟩ := trodAll_cons r1
  obtain ⟨rfl, rfl, rfl⟩ := trodAll_nil r2
  obtain rfl : args = #[v0, v1, v2] := by cases args; simp_all
  obtain ⟨g0, o0, A0, cap0, l0, rfl, hl0, hm0, hB0⟩ := open_table (hval 0 24 v0 rfl rfl) h0 (fun x hx => hlt x (by simp [hx]))
  obtain ⟨a1, rfl, rfl, rfl, w1⟩ := open_int Tryd.underlying5 (hval 1 5 v1 rfl rfl) h1
  obtain ⟨a2, rfl, rfl, rfl, w2⟩ := open_int Tryd.underlying5 (hval 2 5 v2 rfl rfl) h2
  refine (walk W (of_laid hL) g0 o0 A0 cap0 l0 hl0 hm0 hB0 a1 (bounds_u8 w1) a2 (bounds_u8 w2)).mono fun e W' ⟨he, hg⟩ => ?_
  subst he
  exact ⟨_, rfl, hfin W' hg⟩

theorem proved : Rows.TableRefusesSaid :=
  OpenClaim.holds_of_wide 7 Tryd.f7 rfl rfl rfl rfl rfl rfl rfl ⟨rfl, rfl, rfl, rfl, rfl⟩ rfl rfl rfl rfl rfl (by kernel_rfl) Tryd.func7 (by kernel_rfl)
    (of_decide_eq_true (by kernel_rfl)) (by unfold Func.isWrapper; first | (rw [if_pos (by decide +kernel)]; kernel_rfl) | (rw [if_neg (by decide +kernel)]; exact ⟨rfl, rfl⟩))
    (fun os started H enc _ => lifted os started H enc)

set_option maxRecDepth 100000 in
theorem card : Rows.TableRefusesCardSaid :=
  Claim7.holds_tied_plain_at .later [] laidKindsHere true _ false
    proved (fun _ h => by cases h) (by kernel_rfl) (fun _ h => by cases h) tableRefuses_row_tie rfl ⟨rfl, rfl⟩ (by kernel_rfl) rfl
    (fun f fn hf hfn => by
      obtain rfl : f = 7 := Option.some.inj ((show Tryd.prog.funcNamed "turntable/turntablelaw09.TableRefuses" = some 7 by kernel_rfl).symm.trans hf) |>.symm
      obtain rfl : fn = Tryd.f7 := (Option.some.inj (Tryd.func7.symm.trans hfn)).symm
      exact ⟨by kernel_rfl, fun j t ht => by
        rw [Tryd.params7] at ht
        have hm : t ∈ [24, 5, 5] := Array.mem_def.1 (Array.mem_of_getElem? ht)
        have hall : ([24, 5, 5].all fun u => !Tryd.prog.wantsStandIn u) = true := by kernel_rfl
        exact (show Tryd.prog.wantsStandIn t = false by simpa using List.all_eq_true.1 hall t hm)⟩)
    (by kernel_rfl)
#print axioms card
end Go.Proofs.YtbjaieopjkbijaaDoor.tableRefuses
