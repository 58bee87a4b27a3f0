/-
  P9.1, TableChanges: for all tables and places the law returns true: an extent that is freed is told as free, and one that is used with the greatest number as the last one; all others as they were. No condition but that the program's table starts as its text lays it.
-/
import Derived.Test.YtbjaieopjkbijaaDoorL9R
import Derived.Test.YtbjaieopjkbijaaDoorSoftL
import Derived.Test.YtbjaieopjkbijaaDoorLaid2
import Derived.BigRegion
import Derived.BigQuiet
namespace Go.Proofs.YtbjaieopjkbijaaDoor.tableChanges
open Go.ChangeShapes Go.WideShapes Go.ChangeAt Go.RowKit

theorem late_store {P : Program} {W w' : World} {a : Act} {o : Oper} {x y : Operand} {t : TypeId} {K : Act → World → Prop} {Q : Exit → Act → World → Prop} (ho : o.op = .store t x y) (hr : (Instr.storeAt t (a.eval x) (a.eval y)).run P W = .ok () w') (hK : K (a.put o.dst undef) w') : o.wp P a W K Q := by
  unfold Oper.wp
  simp [execOp, ho, hr, Result.andThen]
  exact hK
theorem soft_built {w : World} {ρ : Operand → Value} {o : Oper} {x : Operand} {v : Int} (hx : ρ x = .int .i64 v) (ho : o.op = .build 39 #[(0, x)]) : softUpon Tryd.prog w (Fact.is (.agg #[.int .i64 v, .int .i64 0])) ((execOp ρ o).run Tryd.prog w) := by
  have e : (execOp ρ o).run Tryd.prog w = .ok (.value (.agg #[.int .i64 v, .int .i64 0])) w := by
    simp [execOp, ho, hx]
    go_simp
  rw [e]
  exact ⟨rfl, Below.refl _ _⟩
theorem run_storeX (W : World) (b i : Nat) (q l : Int) (u v : Value) (h0 : W.cell? ⟨b, i, none⟩ = some u) (f0 : W.frozen? ⟨b, i, none⟩ = false) (h1 : (W.setCell ⟨b, i, none⟩ (.int .i64 q)).cell? ⟨b, i + 1, none⟩ = some v) (f1 : (W.setCell ⟨b, i, none⟩ (.int .i64 q)).frozen? ⟨b, i + 1, none⟩ = false) :
    (Instr.storeAt 39 (.pointer (some ⟨b, i, none⟩)) (.agg #[.int .i64 q, .int .i64 l])).run Tryd.prog W = .ok () ((W.setCell ⟨b, i, none⟩ (.int .i64 q)).setCell ⟨b, i + 1, none⟩ (.int .i64 l)) := by
  go_simp

set_option maxHeartbeats 8000000 in
set_option maxRecDepth 100000 in
theorem walkN (w : World) (hT : Tab w) (g o : Int) (A : Option Addr) (cap n : Nat) (xs : List Tb.Ext) (hn : xs.length = n) (hc : n ≤ cap) (hA : Lies w A (flatX xs)) (ka : Nat) (hka : ka < 256) :
    Calls Tryd.prog 9 #[tabV g o A n cap, .int .u8 (ka : Int)] w fun e w' => e = .returned (.bool true) ∧ Below w.heap.size w w' := by
  obtain ⟨i0, hi, hz0, hz1, hz2⟩ := info_parts infoEx
  have HX0 := Lib.hid (Blk.new w #[.int .i64 g, .int .i64 o, .slice A n cap] 24)
  have B0 := Lib.hid ((Below.refl w.heap.size w).alloc (Nat.le_refl _) (.cells #[.int .i64 g, .int .i64 o, .slice A n cap] 24))
  have HA0 := Lib.hid (hA.below B0.out)
  have HT0 := Lib.hid (hT.below B0.out (Nat.le_refl _))
  have HN := Lib.hid hn
  clear hA hT hn
  go_enter Tryd.func9, Tryd.ntmps9
  go_wp2_with fail
  generalize w.alloc (.cells #[.int .i64 g, .int .i64 o, .slice A n cap] 24) = w0 at *
  refine (head_any w0 HT0.out).mono ?_
  rintro e w1 ⟨rfl, b1⟩
  have HX1 := Lib.hid (HX0.out.below b1 (Nat.le_refl _))
  have HA1 := Lib.hid (HA0.out.below b1)
  have HT1 := Lib.hid (HT0.out.below b1 (Nat.le_refl _))
  have B1 := Lib.hid (B0.out.trans (b1.mono B0.out.size))
  clear b1
  obtain ⟨z0, z1, z2⟩ := HX1.out.three
  have HRR := Lib.hid (tright_any g o A cap n xs w1 HN.out hc HA1.out)
  by_cases hr : Tb.right ⟨g, o, xs⟩ = true
  rotate_left
  · rw [show Tb.right ⟨g, o, xs⟩ = false by simpa using hr] at HRR
    clear hr
    go_wp2_with fail
    refine HRR.out.mono ?_
    rintro e w2 ⟨rfl, b2⟩
    go_wp2
    go_ret
    exact ⟨rfl, B1.out.trans (b2.mono B1.out.size)⟩
  have HRI := Lib.hid hr
  rw [hr] at HRR
  have hR := Tb.right_iff.1 hr
  have HRT := Lib.hid hR
  have hn8 : n ≤ 8 := by have := hR.n2; rw [← HN.out]; exact this
  have hn4 : 4 ≤ n := by have := hR.n1; rw [← HN.out]; exact this
  clear hr hR
  go_wp2_with fail
  refine HRR.out.mono ?_
  rintro e w2 ⟨rfl, b2⟩
  have HX2 := Lib.hid (HX1.out.below b2 (Nat.le_refl _))
  have HA2 := Lib.hid (HA1.out.below b2)
  have HT2 := Lib.hid (HT1.out.below b2 (Nat.le_refl _))
  have B2 := Lib.hid (B1.out.trans (b2.mono B1.out.size))
  clear b2 z0 z1 z2 HRR
  obtain ⟨z0, z1, z2⟩ := HX2.out.three
  obtain ⟨V, hV⟩ : ∃ V, Tb.last xs = V := ⟨_, rfl⟩
  have hV0 : 0 ≤ V := by have := (@Tb.last_ge xs).1; omega
  have HV := Lib.hid hV
  have HLT := Lib.hid (fun (W : World) (hW : Lies W A (flatX xs)) => tlast_is g o A cap n xs W V HN.out hc hW (by rw [if_pos HRI.out]; exact HV.out))
  clear hV
  go_wp2_with fail
  refine (HLT.out w2 HA2.out).mono ?_
  rintro e w3 ⟨rfl, b3⟩
  have HX3 := Lib.hid (HX2.out.below b3 (Nat.le_refl _))
  have HA3 := Lib.hid (HA2.out.below b3)
  have HT3 := Lib.hid (HT2.out.below b3 (Nat.le_refl _))
  have B3 := Lib.hid (B2.out.trans (b3.mono B2.out.size))
  clear b3 z0 z1 z2
  obtain ⟨z0, z1, z2⟩ := HX3.out.three
  by_cases hv : 2147483648 ≤ V
  · have t1 : decide ((2147483648 : Int) ≤ V) = true := by simpa using hv
    clear hv
    go_wp2
    go_ret
    exact ⟨rfl, B3.out⟩
  have hv2 : V < 2147483648 := by omega
  have HVL := Lib.hid hv2
  have t1 : decide ((2147483648 : Int) ≤ V) = false := by simpa using hv
  clear hv
  obtain ⟨k, hk, hkn⟩ : ∃ k : Nat, (ka : Int) % (n : Int) = (k : Int) ∧ k < n := ⟨ka % n, by rw [Int.natCast_emod], Nat.mod_lt _ (by omega)⟩
  have hnz : ((n : Int) == 0) = false := by simp; omega
  obtain ⟨ad, rfl, hadb, -⟩ := at_ext HA3.out 0 (by have := HN.out; omega)
  have HAD := Lib.hid hadb
  clear hadb
  have HBT := Lib.hid HX3.out.lt
  have ba1 : Below w3.heap.size w3 (w3.alloc (.cells #[.int .i64 g, .int .i64 o, .slice (some ad) n cap] 24)) := (Below.refl _ _).alloc (Nat.le_refl _) _
  have hs1 : (w3.alloc (.cells #[.int .i64 g, .int .i64 o, .slice (some ad) n cap] 24)).heap.size = w3.heap.size + 1 := by simp
  have ba2 : Below w3.heap.size w3 ((w3.alloc (.cells #[.int .i64 g, .int .i64 o, .slice (some ad) n cap] 24)).alloc (.cells #[] 39)) := ba1.alloc (by simp) _
  have hxa := Blk.new w3 #[.int .i64 g, .int .i64 o, .slice (some ad) n cap] 24
  have HXA := Lib.hid (hxa.below ((Below.refl _ _).alloc (Nat.le_refl _) (.cells #[] 39)) (Nat.le_refl _))
  have HXT := Lib.hid (HX3.out.below ba2 (Nat.le_refl _))
  have HLO := Lib.hid (lit_own (w3.alloc (.cells #[.int .i64 g, .int .i64 o, .slice (some ad) n cap] 24)))
  rw [hs1] at HLO
  have HA4 := Lib.hid (HA3.out.below ba2)
  have HT4 := Lib.hid (HT3.out.below ba2 (Nat.le_refl _))
  have B4 := Lib.hid (B3.out.trans (ba2.mono B3.out.size))
  have HS4 := Lib.hid (show ((w3.alloc (.cells #[.int .i64 g, .int .i64 o, .slice (some ad) n cap] 24)).alloc (.cells #[] 39)).heap.size = w3.heap.size + 2 by simp)
  clear hxa ba1 ba2 hs1
  have z2' := HXT.out.cell 2
  go_wp2_with (at_builtin; refine wpList_appK rfl _ _ 22 rfl (w3.heap.size + 1) 39 i0 (.agg #[.int .i64 0, .int .i64 0]) 2 16 Tryd.underlying22 hi hz0 hz1 hz2 rfl (by omega) (.slice (some ⟨w3.heap.size + 1, 0, none⟩) 0 0) 0 [] rfl ?a1 (some ad) n cap (flatX xs) rfl ?a2 ?a3 ?a4 ?a5 ?a6 ?a7 ?a8)
  case a1 => exact HLO.out
  case a2 => rw [flatX_length, HN.out]
  case a3 => exact HA4.out
  case a4 => exact flatX_one xs
  case a5 => unfold maxLen; omega
  case a6 => omega
  case a7 => simp
  case a8 =>
    intro v5 w5 hown5 hg5 _
    obtain ⟨ga, ca, rfl, hga, hca, hrow⟩ := Row9.of hown5 (by omega)
    have hK5 := (Kept.refl [w3.heap.size + 1] _).grown hg5 (by simp)
    have hgl := hrow.lt
    have hbt := HBT.out
    have had := HAD.out
    have hsz5 := hK5.size
    rw [HS4.out] at hsz5
    have X5 := hK5.blk HXA.out (by simp)
    have XT5 := hK5.blk HXT.out (by simp; omega)
    have L5 := HA4.out.kept9 hK5 (by simp; omega)
    have B5 := Lib.hid (Kept.below B4.out hK5 (by simp; omega))
    have y2 := X5.cell 2
    have fy2 := X5.frozen 2
    have X6 : Blk (w5.setCell ⟨w3.heap.size, 2, none⟩ (.slice (some ⟨ga, 0, none⟩) n ca)) w3.heap.size #[.int .i64 g, .int .i64 o, .slice (some ⟨ga, 0, none⟩) n ca] 24 := X5.set 2 (.slice (some ⟨ga, 0, none⟩) n ca)
    have R6 : Row9 (w5.setCell ⟨w3.heap.size, 2, none⟩ (.slice (some ⟨ga, 0, none⟩) n ca)) ga n xs := hrow.kept ((Kept.refl [w3.heap.size] w5).setCell (p := ⟨w3.heap.size, 2, none⟩) (by simp) _) (by simp; omega)
    have u6 := X6.cell 2
    obtain ⟨⟨c1, hc1⟩, f1, ⟨c2, hc2⟩, f2, R7⟩ := R6.step k hkn 0 0
    have X7 : Blk (((w5.setCell ⟨w3.heap.size, 2, none⟩ (.slice (some ⟨ga, 0, none⟩) n ca)).setCell ⟨ga, k * 2, none⟩ (.int .i64 0)).setCell ⟨ga, k * 2 + 1, none⟩ (.int .i64 0)) w3.heap.size #[.int .i64 g, .int .i64 o, .slice (some ⟨ga, 0, none⟩) n ca] 24 := (((Kept.refl [ga] (w5.setCell ⟨w3.heap.size, 2, none⟩ (.slice (some ⟨ga, 0, none⟩) n ca))).setCell (p := ⟨ga, k * 2, none⟩) (by simp) _).setCell (p := ⟨ga, k * 2 + 1, none⟩) (by simp) _).blk X6 (by simp; omega)
    have u7 := X7.cell 1
    have fu7 := X7.frozen 1
    have X9 : Blk ((((w5.setCell ⟨w3.heap.size, 2, none⟩ (.slice (some ⟨ga, 0, none⟩) n ca)).setCell ⟨ga, k * 2, none⟩ (.int .i64 0)).setCell ⟨ga, k * 2 + 1, none⟩ (.int .i64 0)).setCell ⟨w3.heap.size, 1, none⟩ (.int .i64 (-1))) w3.heap.size #[.int .i64 g, .int .i64 (-1), .slice (some ⟨ga, 0, none⟩) n ca] 24 := X7.set 1 (.int .i64 (-1))
    have R9 : Row9 ((((w5.setCell ⟨w3.heap.size, 2, none⟩ (.slice (some ⟨ga, 0, none⟩) n ca)).setCell ⟨ga, k * 2, none⟩ (.int .i64 0)).setCell ⟨ga, k * 2 + 1, none⟩ (.int .i64 0)).setCell ⟨w3.heap.size, 1, none⟩ (.int .i64 (-1))) ga n (xs.set k ⟨0, 0⟩) := R7.kept ((Kept.refl [w3.heap.size] (((w5.setCell ⟨w3.heap.size, 2, none⟩ (.slice (some ⟨ga, 0, none⟩) n ca)).setCell ⟨ga, k * 2, none⟩ (.int .i64 0)).setCell ⟨ga, k * 2 + 1, none⟩ (.int .i64 0))).setCell (p := ⟨w3.heap.size, 1, none⟩) (by simp) _) (by simp; omega)
    have K9 : Kept [w3.heap.size, ga] w5 ((((w5.setCell ⟨w3.heap.size, 2, none⟩ (.slice (some ⟨ga, 0, none⟩) n ca)).setCell ⟨ga, k * 2, none⟩ (.int .i64 0)).setCell ⟨ga, k * 2 + 1, none⟩ (.int .i64 0)).setCell ⟨w3.heap.size, 1, none⟩ (.int .i64 (-1))) := ((((Kept.refl _ _).setCell (p := ⟨w3.heap.size, 2, none⟩) (by simp) _).setCell (p := ⟨ga, k * 2, none⟩) (by simp) _).setCell (p := ⟨ga, k * 2 + 1, none⟩) (by simp) _).setCell (p := ⟨w3.heap.size, 1, none⟩) (by simp) _
    have XT9 := K9.blk XT5 (by simp; omega)
    have L9 := L5.kept9 K9 (by simp; omega)
    have B9 := Lib.hid (Kept.below B5.out K9 (by simp; omega))
    have S9 : ((((w5.setCell ⟨w3.heap.size, 2, none⟩ (.slice (some ⟨ga, 0, none⟩) n ca)).setCell ⟨ga, k * 2, none⟩ (.int .i64 0)).setCell ⟨ga, k * 2 + 1, none⟩ (.int .i64 0)).setCell ⟨w3.heap.size, 1, none⟩ (.int .i64 (-1))).heap.size = w5.heap.size := by simp
    obtain ⟨p0, p1, p2⟩ := Blk.three X9
    have hb := Blk.new ((((w5.setCell ⟨w3.heap.size, 2, none⟩ (.slice (some ⟨ga, 0, none⟩) n ca)).setCell ⟨ga, k * 2, none⟩ (.int .i64 0)).setCell ⟨ga, k * 2 + 1, none⟩ (.int .i64 0)).setCell ⟨w3.heap.size, 1, none⟩ (.int .i64 (-1))) #[.int .i64 g, .int .i64 (-1), .slice (some ⟨ga, 0, none⟩) n ca] 24
    have bb1 : Below ((((w5.setCell ⟨w3.heap.size, 2, none⟩ (.slice (some ⟨ga, 0, none⟩) n ca)).setCell ⟨ga, k * 2, none⟩ (.int .i64 0)).setCell ⟨ga, k * 2 + 1, none⟩ (.int .i64 0)).setCell ⟨w3.heap.size, 1, none⟩ (.int .i64 (-1))).heap.size ((((w5.setCell ⟨w3.heap.size, 2, none⟩ (.slice (some ⟨ga, 0, none⟩) n ca)).setCell ⟨ga, k * 2, none⟩ (.int .i64 0)).setCell ⟨ga, k * 2 + 1, none⟩ (.int .i64 0)).setCell ⟨w3.heap.size, 1, none⟩ (.int .i64 (-1))) (((((w5.setCell ⟨w3.heap.size, 2, none⟩ (.slice (some ⟨ga, 0, none⟩) n ca)).setCell ⟨ga, k * 2, none⟩ (.int .i64 0)).setCell ⟨ga, k * 2 + 1, none⟩ (.int .i64 0)).setCell ⟨w3.heap.size, 1, none⟩ (.int .i64 (-1))).alloc (.cells #[.int .i64 g, .int .i64 (-1), .slice (some ⟨ga, 0, none⟩) n ca] 24)) := (Below.refl _ _).alloc (Nat.le_refl _) _
    have bb2 := bb1.alloc (by simp) (.cells #[] 39)
    have HLOb := Lib.hid (lit_own (((((w5.setCell ⟨w3.heap.size, 2, none⟩ (.slice (some ⟨ga, 0, none⟩) n ca)).setCell ⟨ga, k * 2, none⟩ (.int .i64 0)).setCell ⟨ga, k * 2 + 1, none⟩ (.int .i64 0)).setCell ⟨w3.heap.size, 1, none⟩ (.int .i64 (-1))).alloc (.cells #[.int .i64 g, .int .i64 (-1), .slice (some ⟨ga, 0, none⟩) n ca] 24)))
    have XA11 := Lib.hid (X9.below bb2 (Nat.le_refl _))
    have q2 := XA11.out.cell 2
    have XT11 := Lib.hid (XT9.below bb2 (Nat.le_refl _))
    have RA11 := Lib.hid (R9.below bb2)
    have LA11 := Lib.hid (L9.below bb2)
    have hbS := hb.below ((Below.refl _ _).alloc (Nat.le_refl _) (.cells #[] 39)) (Nat.le_refl _)
    rw [S9] at hbS
    have XB11 := Lib.hid hbS
    have HSB := Lib.hid (show ((((((w5.setCell ⟨w3.heap.size, 2, none⟩ (.slice (some ⟨ga, 0, none⟩) n ca)).setCell ⟨ga, k * 2, none⟩ (.int .i64 0)).setCell ⟨ga, k * 2 + 1, none⟩ (.int .i64 0)).setCell ⟨w3.heap.size, 1, none⟩ (.int .i64 (-1))).alloc (.cells #[.int .i64 g, .int .i64 (-1), .slice (some ⟨ga, 0, none⟩) n ca] 24)).alloc (.cells #[] 39)).heap.size = w5.heap.size + 2 by simp)
    have B11 := Lib.hid (B9.out.trans (bb2.mono B9.out.size))
    clear hbS hb bb1 bb2 XT9 L9 K9 X9 R9 X7 R7 X6 R6 X5 XT5 L5 hK5 hown5 hg5 hrow
    go_wp2_with (at_builtin; refine wpList_appK rfl _ _ 22 rfl (w5.heap.size + 1) 39 i0 (.agg #[.int .i64 0, .int .i64 0]) 2 16 Tryd.underlying22 hi hz0 hz1 hz2 rfl (by omega) (.slice (some ⟨w5.heap.size + 1, 0, none⟩) 0 0) 0 [] rfl ?b1 (some ⟨ga, 0, none⟩) n ca (flatX (xs.set k ⟨0, 0⟩)) rfl ?b2 ?b3 ?b4 ?b5 ?b6 ?b7 ?b8)
    case b1 => simpa [S9] using HLOb.out
    case b2 => rw [flatX_length, List.length_set, HN.out]
    case b3 => exact RA11.out.lies
    case b4 => exact flatX_one _
    case b5 => unfold maxLen; omega
    case b6 => omega
    case b7 => simp
    case b8 =>
      intro v12 w12 hown12 hg12 _
      clear S9
      obtain ⟨gb, cb, rfl, hgb, hcb, hrow⟩ := Row9.of hown12 (by omega)
      have hK12 := (Kept.refl [w5.heap.size + 1] _).grown hg12 (by simp)
      have hgbl := hrow.lt
      have hsz12 := hK12.size
      rw [HSB.out] at hsz12
      have XA12 := hK12.blk XA11.out (by simp; omega)
      have XT12 := hK12.blk XT11.out (by simp; omega)
      have XB12 := hK12.blk XB11.out (by simp)
      have RA12 := RA11.out.kept hK12 (by simp; omega)
      have L12 := LA11.out.kept9 hK12 (by simp; omega)
      have B12 := Lib.hid (Kept.below B11.out hK12 (by simp; omega))
      clear hc1 hc2 f1 f2 y2 fy2 u6 u7 fu7 p0 p1 p2 q2 z0 z1 z2 z2'
      have y2 := XB12.cell 2
      have fy2 := XB12.frozen 2
      have K13 := (Kept.refl [w5.heap.size] w12).setCell (p := ⟨w5.heap.size, 2, none⟩) (by simp) (.slice (some ⟨gb, 0, none⟩) n cb)
      have HXB := Lib.hid (show Blk (w12.setCell ⟨w5.heap.size, 2, none⟩ (.slice (some ⟨gb, 0, none⟩) n cb)) w5.heap.size #[.int .i64 g, .int .i64 (-1), .slice (some ⟨gb, 0, none⟩) n cb] 24 from XB12.set 2 (.slice (some ⟨gb, 0, none⟩) n cb))
      have HRB := Lib.hid (hrow.kept K13 (by simp; omega))
      have HXA13 := Lib.hid (K13.blk XA12 (by simp; omega))
      have HXT13 := Lib.hid (K13.blk XT12 (by simp; omega))
      have HRA := Lib.hid (RA12.kept K13 (by simp; omega))
      have HLA := Lib.hid (L12.kept9 K13 (by simp; omega))
      have B13 := Lib.hid (Kept.below B12.out K13 (by simp; omega))
      have HL := Lib.hid (show w3.heap.size < w5.heap.size ∧ ga ≠ w3.heap.size ∧ ga < w5.heap.size ∧ w5.heap.size < gb ∧ w.heap.size < w3.heap.size ∧ ad.block < w3.heap.size from ⟨by omega, by omega, by omega, by omega, by omega, by omega⟩)
      clear K13 XA12 XT12 XB12 RA12 L12 hK12 hown12 hg12 hrow HLOb XA11 XT11 XB11 RA11 LA11 HSB HLO HXA HXT hsz12 hsz5 hgbl hgb hga hgl
      go_wp2
      generalize w12.setCell ⟨w5.heap.size, 2, none⟩ (.slice (some ⟨gb, 0, none⟩) n cb) = w13 at *
      generalize w5.heap.size = bB at *
      generalize w3.heap.size = bA at *
      have HAD1 := Lib.hid (fun (W : World) => show (binOp .add 2 (.int .i64 V) (.int .i64 1)).run Tryd.prog W = .ok (.int .i64 (V + 1)) W by
        go_simp
        rw [IntKind.wrap_i64]
        omega)
      have HC45 := Lib.hid (fun (W : World) (hW : Below w13.heap.size w13 W) => show (Instr.loadAt 22 (.pointer (some ⟨bB, 2, none⟩))).run Tryd.prog W = .ok (.slice (some ⟨gb, 0, none⟩) n cb) W by
        have c := (HXB.out.below hW (Nat.le_refl _)).cell 2
        go_simp)
      have HI51 := Lib.hid (fun (W : World) => show (Instr.indexAt 22 (.slice (some ⟨gb, 0, none⟩) n cb) (.int .i64 (k : Int))).run Tryd.prog W = .ok (.pointer (some ⟨gb, k * 2, none⟩)) W by go_simp)
      have hbd : Below w13.heap.size w13 w13.drew := (Below.refl _ _).drew
      clear y2 fy2 hbt had hV0 t1
      refine wp_late (by kernel_rfl) 106 [(44, [8]), (45, [44]), (46, [6]), (47, [2]), (48, [47]), (49, [48]), (50, [49]), (51, [45, 46]), (1008, [51, 50])]
        [Fact.is (.pointer (some ⟨bB, 2, none⟩)), Fact.is (.slice (some ⟨gb, 0, none⟩) n cb), Fact.is (.int .i64 (k : Int)), Fact.is (tabV g o (some ad) n cap), Fact.is (.int .i64 V), Fact.is (.int .i64 (V + 1)), Fact.is (.agg #[.int .i64 (V + 1), .int .i64 0]), Fact.is (.pointer (some ⟨gb, k * 2, none⟩)), default]
        [1, 1, 1, 1, 1, 1, 1, 1, 2] [8] [] [44, 45, 46, 47, 48, 49, 50, 51] ((fun _ _ w' => ∃ W, Below w13.heap.size w13 W ∧ w' = (W.setCell ⟨gb, k * 2, none⟩ (.int .i64 (V + 1))).setCell ⟨gb, k * 2 + 1, none⟩ (.int .i64 0)))
        (by kernel_rfl) (by kernel_rfl) rfl rfl ⟨?s0, ?s1, ?s2, ?s3, ?s4, ?s5, ?s6, ?s7, trivial⟩ ?late ?fin
      case s0 =>
        intro ρ W hb hc hf hr
        obtain ⟨r8, -⟩ := hr
        have e8 : ρ (.tmp 8) = .pointer (some ⟨bB, 0, none⟩) := r8
        clear r8
        refine under_none rfl ?_
        exact soft_field e8 rfl (fun W => by go_simp)
      case s1 =>
        intro ρ W hb hc hf hr
        obtain ⟨r44, -⟩ := hr
        have e44 : ρ (.tmp 44) = .pointer (some ⟨bB, 2, none⟩) := r44
        clear r44
        refine under_none rfl ?_
        exact soft_load e44 (HC45.out W (hbd.trans (hb.mono (by simp)))) rfl
      case s2 =>
        intro ρ W hb hc hf hr
        obtain ⟨r6, -⟩ := hr
        have e6 : ρ (.tmp 6) = .int .i64 (k : Int) := r6
        clear r6
        refine under_none rfl ?_
        exact ⟨e6, Below.refl _ _⟩
      case s3 =>
        intro ρ W hb hc hf hr
        obtain ⟨r2, -⟩ := hr
        have e2 : ρ (.tmp 2) = .pointer (some ⟨w.heap.size, 0, none⟩) := r2
        clear r2
        refine under_none rfl ?_
        exact soft_load e2 (load_tab W w.heap.size g o (some ad) n cap (HXT13.out.below (hbd.trans (hb.mono (by simp))) (Nat.le_refl _))) rfl
      case s4 =>
        intro ρ W hb hc hf hr
        obtain ⟨r47, -⟩ := hr
        have e47 : ρ (.tmp 47) = tabV g o (some ad) n cap := r47
        clear r47
        refine under_none rfl ?_
        exact soft_call1 hf e47 (HLT.out W (HLA.out.below (hbd.trans (hb.mono (by simp))))) rfl (by kernel_rfl) below_is
      case s5 =>
        intro ρ W hb hc hf hr
        obtain ⟨r48, -⟩ := hr
        have e48 : ρ (.tmp 48) = .int .i64 V := r48
        clear r48
        refine under_none rfl ?_
        exact soft_bin e48 (hc _) rfl rfl (HAD1.out W)
      case s6 =>
        intro ρ W hb hc hf hr
        obtain ⟨r49, -⟩ := hr
        have e49 : ρ (.tmp 49) = .int .i64 (V + 1) := r49
        clear r49
        refine under_none rfl ?_
        exact soft_built e49 rfl
      case s7 =>
        intro ρ W hb hc hf hr
        obtain ⟨r45, r46, -⟩ := hr
        have e45 : ρ (.tmp 45) = .slice (some ⟨gb, 0, none⟩) n cb := r45
        clear r45
        have e46 : ρ (.tmp 46) = .int .i64 (k : Int) := r46
        clear r46
        refine under_none rfl ?_
        exact soft_index e45 e46 (HI51.out W) rfl
      case late =>
        intro p j o hj ho a W hsz h0 h1 hfr hou
        match p, hj with
        | 0, hj =>
          obtain rfl : 8 = j := Option.some.inj hj
          obtain rfl := Option.some.inj ho
          clear hj ho
          obtain ⟨hb, hhard⟩ := h0 rfl
          have e51 : a.eval (.tmp 51) = .pointer (some ⟨gb, k * 2, none⟩) := hhard 51 7 rfl rfl
          have e50 : a.eval (.tmp 50) = .agg #[.int .i64 (V + 1), .int .i64 0] := hhard 50 6 rfl rfl
          clear h0 h1 hhard hfr hou
          have hW := hbd.trans (hb.mono (by simp))
          obtain ⟨⟨c1, hc1⟩, f1, ⟨c2, hc2⟩, f2, -⟩ := (HRB.out.below hW).step k hkn (V + 1) 0
          refine late_store (x := .tmp 51) (y := .tmp 50) (w' := (W.setCell ⟨gb, k * 2, none⟩ (.int .i64 (V + 1))).setCell ⟨gb, k * 2 + 1, none⟩ (.int .i64 0)) rfl (by rw [e51, e50]; exact run_storeX W gb (k * 2) (V + 1) 0 c1 c2 hc1 f1 hc2 f2) ⟨undef, rfl, W, hW, rfl⟩
        | q + 1, hj => cases hj
      case fin =>
        intro a w14 ha hP
        obtain ⟨W, hW, hw14⟩ := hP
        have hl := HL.out
        have hbb := HRB.out.lt
        obtain ⟨-, -, -, -, R14⟩ := (HRB.out.below hW).step k hkn (V + 1) 0
        have K14 : Kept [gb] w13 ((W.setCell ⟨gb, k * 2, none⟩ (.int .i64 (V + 1))).setCell ⟨gb, k * 2 + 1, none⟩ (.int .i64 0)) := ((Kept.of hW [gb]).setCell (p := ⟨gb, k * 2, none⟩) (by simp) _).setCell (p := ⟨gb, k * 2 + 1, none⟩) (by simp) _
        rw [← hw14] at R14 K14
        clear hW hw14
        have X14 := K14.blk HXB.out (by simp; omega)
        have HXA14 := Lib.hid (K14.blk HXA13.out (by simp; omega))
        have HXT14 := Lib.hid (K14.blk HXT13.out (by simp; omega))
        have HRA14 := Lib.hid (HRA.out.kept K14 (by simp; omega))
        have HLA14 := Lib.hid (HLA.out.kept9 K14 (by simp; omega))
        have B14 := Lib.hid (Kept.below B13.out K14 (by simp; omega))
        have HRB14 := Lib.hid R14
        clear K14 R14 hl hbb
        have y1 := X14.cell 1
        have fy1 := X14.frozen 1
        have X15 : Blk (w14.setCell ⟨bB, 1, none⟩ (.int .i64 (k : Int))) bB #[.int .i64 g, .int .i64 (k : Int), .slice (some ⟨gb, 0, none⟩) n cb] 24 := X14.set 1 (.int .i64 (k : Int))
        have HX15 := Lib.hid X15
        have HX14 := Lib.hid X14
        obtain ⟨x0, x1, x2⟩ := X15.three
        clear X14 X15
        simp only [List.foldl_cons, List.foldl_nil] at ha
        generalize a.tmps.getD 44 undef = v44 at ha
        generalize a.tmps.getD 45 undef = v45 at ha
        generalize a.tmps.getD 46 undef = v46 at ha
        generalize a.tmps.getD 47 undef = v47 at ha
        generalize a.tmps.getD 48 undef = v48 at ha
        generalize a.tmps.getD 49 undef = v49 at ha
        generalize a.tmps.getD 50 undef = v50 at ha
        generalize a.tmps.getD 51 undef = v51 at ha
        simp only [Act.put, List.setIfInBounds_toArray, List.set_cons_succ, List.set_cons_zero] at ha
        subst ha
        go_wp2_with fail
        have hXB : ((xs.set k ⟨0, 0⟩).set k ⟨V + 1, 0⟩).length = n := by rw [List.length_set, List.length_set, HN.out]
        have hXA : (xs.set k ⟨0, 0⟩).length = n := by rw [List.length_set, HN.out]
        have HAl := Lib.hid hXA
        have HBl := Lib.hid hXB
        have hkx : k < xs.length := by rw [HN.out]; exact hkn
        have hlv : Tb.last xs < 2147483648 := by rw [HV.out]; exact HVL.out
        have HFL := HRT.out.filled (k := k) hkx hlv ⟨0, 0⟩
        have HFR := HRT.out.freed (k := k) hkx
        have HOF := Tb.ord_filled HRT.out hkx hlv
        have HLF := Tb.last_filled HRT.out hkx hlv
        have HFF := Tb.free_filled HRT.out hkx hlv
        simp only [HV.out] at HFL HOF HLF HFF
        obtain ⟨FA, hFA⟩ : ∃ l, Tb.free (xs.set k ⟨0, 0⟩) = l := ⟨_, rfl⟩
        obtain ⟨FB, hFB⟩ : ∃ l, Tb.free ((xs.set k ⟨0, 0⟩).set k ⟨V + 1, 0⟩) = l := ⟨_, rfl⟩
        obtain ⟨OA, hOA⟩ : ∃ l, Tb.ord (xs.set k ⟨0, 0⟩) = l := ⟨_, rfl⟩
        obtain ⟨fa, hfa⟩ : ∃ m, FA.length = m := ⟨_, rfl⟩
        obtain ⟨fb, hfb⟩ : ∃ m, FB.length = m := ⟨_, rfl⟩
        obtain ⟨m, hm⟩ : ∃ m, OA.length = m := ⟨_, rfl⟩
        obtain ⟨M, hM⟩ : ∃ M, m + 1 = M := ⟨_, rfl⟩
        have hpl := Tb.parts_length (xs.set k ⟨0, 0⟩)
        rw [hFA, hFB, hfa, hfb] at HFF
        rw [hOA] at HOF
        rw [hFA, hOA, hfa, hm, hXA] at hpl
        have HOB := Lib.hid HOF
        have HOL := Lib.hid (show (OA ++ [k]).length = M by rw [List.length_append, hm, ← hM]; rfl)
        have HRA1 := Lib.hid (Tb.right_iff.2 HFR)
        have HRB1 := Lib.hid (Tb.right_iff.2 HFL)
        have HFA := Lib.hid hFA
        have HFB := Lib.hid hFB
        have HOA := Lib.hid hOA
        have Hfa := Lib.hid hfa
        have Hfb := Lib.hid hfb
        have Hm := Lib.hid hm
        have HLF1 := Lib.hid HLF
        have k15 : Kept [bB] w14 (w14.setCell ⟨bB, 1, none⟩ (.int .i64 (k : Int))) := (Kept.refl _ _).setCell (p := ⟨bB, 1, none⟩) (by simp) _
        have hl := HL.out
        have HXA15 := Lib.hid (k15.blk HXA14.out (by simp; omega))
        have HXT15 := Lib.hid (k15.blk HXT14.out (by simp; omega))
        have HRA15 := Lib.hid (HRA14.out.kept k15 (by simp; omega))
        have HRB15 := Lib.hid (HRB14.out.kept k15 (by simp; omega))
        have HLA15 := Lib.hid (HLA14.out.kept9 k15 (by simp; omega))
        have B15 := Lib.hid (Kept.below B14.out k15 (by simp; omega))
        clear hFA hFB hOA hfa hfb HFL HFR HOF HLF hXA hXB hkx hlv k15 hl y1 fy1 x0 x1 x2
        generalize w14.setCell ⟨bB, 1, none⟩ (.int .i64 (k : Int)) = w15 at *
        refine (torder_is g (k : Int) (some ⟨gb, 0, none⟩) cb n M ((xs.set k ⟨0, 0⟩).set k ⟨V + 1, 0⟩) (OA ++ [k]) w15 HBl.out hcb HRB15.out.lies (by rw [if_pos HRB1.out, HOB.out]) HOL.out).mono ?_
        rintro e w16 ⟨Ao, co, rfl, hco, hAo, b16⟩
        obtain ⟨ao, rfl, haob, hcell⟩ := at_num hAo m (by rw [List.length_append, hm]; simp)
        have hcell : ∀ u, Below w16.heap.size w16 u → u.cell? (ao.add m) = some (.int .i64 (k : Int)) := by
          intro u hu
          have := hcell u hu
          rw [List.getElem_append_right (by omega)] at this
          simpa [hm] using this
        have hMz : ((M : Int) == 0) = false := by simp; omega
        have HLO := Lib.hid (fun (W : World) (hW : Below w16.heap.size w16 W) => show Lies W (some ao) (nums OA) by
          have h := (hAo.below hW).take m
          rwa [show (nums (OA ++ [k])).take m = nums OA by unfold nums; rw [← List.map_take, List.take_append_of_le_length (by omega), List.take_of_length_le (by omega)]] at h)
        have HXA := Lib.hid (fun (W : World) (hW : Below w16.heap.size w16 W) => (HXA15.out.below b16 (Nat.le_refl _)).below hW (Nat.le_refl _))
        have HXB := Lib.hid (fun (W : World) (hW : Below w16.heap.size w16 W) => (HX15.out.below b16 (Nat.le_refl _)).below hW (Nat.le_refl _))
        have HXT := Lib.hid (fun (W : World) (hW : Below w16.heap.size w16 W) => (HXT15.out.below b16 (Nat.le_refl _)).below hW (Nat.le_refl _))
        have HLA6 := Lib.hid (fun (W : World) (hW : Below w16.heap.size w16 W) => (HRA15.out.lies.below b16).below hW)
        have HLB6 := Lib.hid (fun (W : World) (hW : Below w16.heap.size w16 W) => (HRB15.out.lies.below b16).below hW)
        have HLT6 := Lib.hid (fun (W : World) (hW : Below w16.heap.size w16 W) => (HLA15.out.below b16).below hW)
        have HRGA := Lib.hid (fun (W : World) (hW : Below w16.heap.size w16 W) => tright_is g (-1) (some ⟨ga, 0, none⟩) ca n (xs.set k ⟨0, 0⟩) W true HAl.out hca (HLA6.out W hW) HRA1.out)
        have HRGB := Lib.hid (fun (W : World) (hW : Below w16.heap.size w16 W) => tright_is g (k : Int) (some ⟨gb, 0, none⟩) cb n ((xs.set k ⟨0, 0⟩).set k ⟨V + 1, 0⟩) W true HBl.out hcb (HLB6.out W hW) HRB1.out)
        have HFRA := Lib.hid (fun (W : World) (hW : Below w16.heap.size w16 W) => tfree_is g (-1) (some ⟨ga, 0, none⟩) ca n fa (xs.set k ⟨0, 0⟩) FA W HAl.out hca (HLA6.out W hW) (by rw [if_pos HRA1.out, HFA.out]) Hfa.out)
        have HFRB := Lib.hid (fun (W : World) (hW : Below w16.heap.size w16 W) => tfree_is g (k : Int) (some ⟨gb, 0, none⟩) cb n fb ((xs.set k ⟨0, 0⟩).set k ⟨V + 1, 0⟩) FB W HBl.out hcb (HLB6.out W hW) (by rw [if_pos HRB1.out, HFB.out]) Hfb.out)
        have HORA := Lib.hid (fun (W : World) (hW : Below w16.heap.size w16 W) => torder_is g (-1) (some ⟨ga, 0, none⟩) ca n m (xs.set k ⟨0, 0⟩) OA W HAl.out hca (HLA6.out W hW) (by rw [if_pos HRA1.out, HOA.out]) Hm.out)
        have HLSB := Lib.hid (fun (W : World) (hW : Below w16.heap.size w16 W) => tlast_is g (k : Int) (some ⟨gb, 0, none⟩) cb n ((xs.set k ⟨0, 0⟩).set k ⟨V + 1, 0⟩) W (V + 1) HBl.out hcb (HLB6.out W hW) (by rw [if_pos HRB1.out, HLF1.out]))
        have HLST := Lib.hid (fun (W : World) (hW : Below w16.heap.size w16 W) => HLT.out W (HLT6.out W hW))
        have hm8 : m ≤ 8 := by omega
        have HFF1 := Lib.hid HFF
        have HM1 := Lib.hid hM
        clear HFF
        have HSI := Lib.hid (fun (W : World) (A9 : Option Addr) (c9 : Nat) (hW : Below w16.heap.size w16 W) (h9 : Lies W A9 (nums OA)) => sameInts_is (some ao) A9 m m co c9 OA OA W Hm.out Hm.out (by omega) rfl (HLO.out W hW) h9)
        have hMz : ((M : Int) == 0) = false := by simp; omega
        have HE1 := Lib.hid (fun (W : World) => show (binOp .add 3 (.int .i64 (fb : Int)) (.int .i64 1)).run Tryd.prog W = .ok (.int .i64 (fa : Int)) W by
          have e : (fb : Int) + 1 = (fa : Int) := by have := HFF1.out; omega
          go_simp
          rw [IntKind.wrap_i64]
          omega)
        have HE2 := Lib.hid (fun (W : World) => show (binOp .eql 3 (.int .i64 (fa : Int)) (.int .i64 (fa : Int))).run Tryd.prog W = .ok (.bool true) W by go_simp)
        have HE3 := Lib.hid (fun (W : World) => show (binOp .sub 3 (.int .i64 (M : Int)) (.int .i64 1)).run Tryd.prog W = .ok (.int .i64 (m : Int)) W by
          have e : (M : Int) - 1 = (m : Int) := by omega
          clear hM hMz
          go_simp
          rw [IntKind.wrap_i64]
          omega)
        have HI := Lib.hid (fun (W : World) => show (Instr.indexAt 32 (.slice (some ao) M co) (.int .i64 (m : Int))).run Tryd.prog W = .ok (.pointer (some (ao.add m))) W by
          have hml : m < M := by omega
          go_simp)
        have HK := Lib.hid (fun (W : World) (hW : Below w16.heap.size w16 W) => show (Instr.loadAt 3 (.pointer (some (ao.add m)))).run Tryd.prog W = .ok (.int .i64 (k : Int)) W by
          have c := hcell W hW
          go_simp)
        have HE4 := Lib.hid (fun (W : World) => show (binOp .eql 3 (.int .i64 (k : Int)) (.int .i64 (k : Int))).run Tryd.prog W = .ok (.bool true) W by go_simp)
        have HE5 := Lib.hid (fun (W : World) => show (binOp .eql 2 (.int .i64 (V + 1)) (.int .i64 (V + 1))).run Tryd.prog W = .ok (.bool true) W by go_simp)
        have HSL := Lib.hid (fun (W : World) => show (Instr.sliceAt 32 (.slice (some ao) M co) none (some (.int .i64 (m : Int))) none).run Tryd.prog W = .ok (.slice (some ao) m co) W by
          have h1 : m ≤ M := by omega
          have h2 : m ≤ co := by omega
          go_simp)
        have HB16 := Lib.hid (B15.out.trans (b16.mono B15.out.size))
        clear hAo b16 hcell HXA15 HX15 HXT15 HRA15 HRB15 HLA15 B15
        go_wp2_with fail
        refine wp_softS (by kernel_rfl) 106 [(59, [5]), (60, [59]), (61, [7, 60]), (62, [61, 60]), (63, [60, 62]), (64, [63]), (65, [8, 64]), (66, [65, 64]), (67, [64, 66]), (68, [67]), (69, [7, 68]), (70, [69, 68]), (71, [70, 68]), (72, [8, 68]), (73, [72, 68]), (74, [73, 68]), (75, [74, 68]), (76, [71, 75, 68]), (77, [68, 76]), (78, [77]), (79, [9, 78]), (80, [9, 78]), (81, [80, 78]), (82, [81, 78]), (83, [79, 82, 78]), (84, [83, 78]), (85, [6, 78]), (86, [84, 85, 78]), (87, [78, 86]), (88, [87]), (89, [9, 88]), (90, [9, 88]), (91, [90, 88]), (92, [91, 88]), (93, [89, 92, 88]), (94, [7, 88]), (95, [94, 88]), (96, [93, 95, 88]), (97, [88, 96]), (98, [97]), (99, [8, 98]), (100, [99, 98]), (101, [2, 98]), (102, [101, 98]), (103, [102, 98]), (104, [100, 103, 98]), (105, [98, 104]), (4, [105])]
          [Fact.is (.bool true), Fact.is (.bool true), Fact.is (tabV g (-1) (some ⟨ga, 0, none⟩) n ca), Fact.is (.bool true), Fact.is (.bool true), Fact.is (.bool true), Fact.is (tabV g (k : Int) (some ⟨gb, 0, none⟩) n cb), Fact.is (.bool true), Fact.is (.bool true), Fact.is (.bool true), Fact.is (tabV g (-1) (some ⟨ga, 0, none⟩) n ca), Fact.places FA fa, Fact.is (.int .i64 (fa : Int)), Fact.is (tabV g (k : Int) (some ⟨gb, 0, none⟩) n cb), Fact.places FB fb, Fact.is (.int .i64 (fb : Int)), Fact.is (.int .i64 (fa : Int)), Fact.is (.bool true), Fact.is (.bool true), Fact.is (.bool true), Fact.is (.slice (some ao) M co), Fact.is (.slice (some ao) M co), Fact.is (.int .i64 M), Fact.is (.int .i64 (m : Int)), Fact.is (.pointer (some (ao.add m))), Fact.is (.int .i64 (k : Int)), Fact.is (.int .i64 (k : Int)), Fact.is (.bool true), Fact.is (.bool true), Fact.is (.bool true), Fact.is (.slice (some ao) M co), Fact.is (.slice (some ao) M co), Fact.is (.int .i64 M), Fact.is (.int .i64 (m : Int)), Fact.is (.slice (some ao) m co), Fact.is (tabV g (-1) (some ⟨ga, 0, none⟩) n ca), Fact.places OA m, Fact.is (.bool true), Fact.is (.bool true), Fact.is (.bool true), Fact.is (tabV g (k : Int) (some ⟨gb, 0, none⟩) n cb), Fact.is (.int .i64 (V + 1)), Fact.is (tabV g o (some ad) n cap), Fact.is (.int .i64 V), Fact.is (.int .i64 (V + 1)), Fact.is (.bool true), Fact.is (.bool true), Fact.is (.bool true)]
          (by kernel_rfl) rfl rfl ⟨?s0, ?s1, ?s2, ?s3, ?s4, ?s5, ?s6, ?s7, ?s8, ?s9, ?s10, ?s11, ?s12, ?s13, ?s14, ?s15, ?s16, ?s17, ?s18, ?s19, ?s20, ?s21, ?s22, ?s23, ?s24, ?s25, ?s26, ?s27, ?s28, ?s29, ?s30, ?s31, ?s32, ?s33, ?s34, ?s35, ?s36, ?s37, ?s38, ?s39, ?s40, ?s41, ?s42, ?s43, ?s44, ?s45, ?s46, ?s47, trivial⟩ ?fin
        case s0 =>
          intro ρ W hb hc hf hr
          obtain ⟨r5, -⟩ := hr
          have e5 : ρ (.tmp 5) = .bool true := r5
          clear r5
          refine under_none rfl ?_
          exact ⟨e5, Below.refl _ _⟩
        case s1 =>
          intro ρ W hb hc hf hr
          obtain ⟨r59, -⟩ := hr
          have e59 : ρ (.tmp 59) = .bool true := r59
          clear r59
          refine under_none rfl ?_
          exact ⟨e59, Below.refl _ _⟩
        case s2 =>
          intro ρ W hb hc hf hr
          obtain ⟨r7, r60, -⟩ := hr
          have e7 : ρ (.tmp 7) = .pointer (some ⟨bA, 0, none⟩) := r7
          clear r7
          have e60 : ρ (.tmp 60) = .bool true := r60
          clear r60
          refine ⟨60, rfl, .inl ⟨e60, ?_⟩⟩
          exact soft_load e7 (load_tab W bA g (-1) (some ⟨ga, 0, none⟩) n ca (HXA.out W (undrew hb))) rfl
        case s3 =>
          intro ρ W hb hc hf hr
          obtain ⟨r61, r60, -⟩ := hr
          have e61 : ρ (.tmp 61) = tabV g (-1) (some ⟨ga, 0, none⟩) n ca := r61
          clear r61
          have e60 : ρ (.tmp 60) = .bool true := r60
          clear r60
          refine ⟨60, rfl, .inl ⟨e60, ?_⟩⟩
          exact soft_call1 hf e61 (HRGA.out W (undrew hb)) rfl (by kernel_rfl) below_is
        case s4 =>
          intro ρ W hb hc hf hr
          obtain ⟨r60, r62, -⟩ := hr
          have e60 : ρ (.tmp 60) = .bool true := r60
          clear r60
          have e62 : ρ (.tmp 62) = .bool true := r62
          clear r62
          refine under_none rfl ?_
          simp [execOp, e60, e62, go_sem, softUpon, Fact.is, Below.refl]
        case s5 =>
          intro ρ W hb hc hf hr
          obtain ⟨r63, -⟩ := hr
          have e63 : ρ (.tmp 63) = .bool true := r63
          clear r63
          refine under_none rfl ?_
          exact ⟨e63, Below.refl _ _⟩
        case s6 =>
          intro ρ W hb hc hf hr
          obtain ⟨r8, r64, -⟩ := hr
          have e8 : ρ (.tmp 8) = .pointer (some ⟨bB, 0, none⟩) := r8
          clear r8
          have e64 : ρ (.tmp 64) = .bool true := r64
          clear r64
          refine ⟨64, rfl, .inl ⟨e64, ?_⟩⟩
          exact soft_load e8 (load_tab W bB g (k : Int) (some ⟨gb, 0, none⟩) n cb (HXB.out W (undrew hb))) rfl
        case s7 =>
          intro ρ W hb hc hf hr
          obtain ⟨r65, r64, -⟩ := hr
          have e65 : ρ (.tmp 65) = tabV g (k : Int) (some ⟨gb, 0, none⟩) n cb := r65
          clear r65
          have e64 : ρ (.tmp 64) = .bool true := r64
          clear r64
          refine ⟨64, rfl, .inl ⟨e64, ?_⟩⟩
          exact soft_call1 hf e65 (HRGB.out W (undrew hb)) rfl (by kernel_rfl) below_is
        case s8 =>
          intro ρ W hb hc hf hr
          obtain ⟨r64, r66, -⟩ := hr
          have e64 : ρ (.tmp 64) = .bool true := r64
          clear r64
          have e66 : ρ (.tmp 66) = .bool true := r66
          clear r66
          refine under_none rfl ?_
          simp [execOp, e64, e66, go_sem, softUpon, Fact.is, Below.refl]
        case s9 =>
          intro ρ W hb hc hf hr
          obtain ⟨r67, -⟩ := hr
          have e67 : ρ (.tmp 67) = .bool true := r67
          clear r67
          refine under_none rfl ?_
          exact ⟨e67, Below.refl _ _⟩
        case s10 =>
          intro ρ W hb hc hf hr
          obtain ⟨r7, r68, -⟩ := hr
          have e7 : ρ (.tmp 7) = .pointer (some ⟨bA, 0, none⟩) := r7
          clear r7
          have e68 : ρ (.tmp 68) = .bool true := r68
          clear r68
          refine ⟨68, rfl, .inl ⟨e68, ?_⟩⟩
          exact soft_load e7 (load_tab W bA g (-1) (some ⟨ga, 0, none⟩) n ca (HXA.out W (undrew hb))) rfl
        case s11 =>
          intro ρ W hb hc hf hr
          obtain ⟨r69, r68, -⟩ := hr
          have e69 : ρ (.tmp 69) = tabV g (-1) (some ⟨ga, 0, none⟩) n ca := r69
          clear r69
          have e68 : ρ (.tmp 68) = .bool true := r68
          clear r68
          refine ⟨68, rfl, .inl ⟨e68, ?_⟩⟩
          exact soft_call1 hf e69 (HFRA.out W (undrew hb)) rfl (by kernel_rfl) places_is
        case s12 =>
          intro ρ W hb hc hf hr
          obtain ⟨r70, r68, -⟩ := hr
          have e68 : ρ (.tmp 68) = .bool true := r68
          clear r68
          refine ⟨68, rfl, .inl ⟨e68, ?_⟩⟩
          (obtain ⟨A9, c9, e9, -⟩ := r70; simp [e9, go_sem, softUpon, Fact.is, Below.refl])
        case s13 =>
          intro ρ W hb hc hf hr
          obtain ⟨r8, r68, -⟩ := hr
          have e8 : ρ (.tmp 8) = .pointer (some ⟨bB, 0, none⟩) := r8
          clear r8
          have e68 : ρ (.tmp 68) = .bool true := r68
          clear r68
          refine ⟨68, rfl, .inl ⟨e68, ?_⟩⟩
          exact soft_load e8 (load_tab W bB g (k : Int) (some ⟨gb, 0, none⟩) n cb (HXB.out W (undrew hb))) rfl
        case s14 =>
          intro ρ W hb hc hf hr
          obtain ⟨r72, r68, -⟩ := hr
          have e72 : ρ (.tmp 72) = tabV g (k : Int) (some ⟨gb, 0, none⟩) n cb := r72
          clear r72
          have e68 : ρ (.tmp 68) = .bool true := r68
          clear r68
          refine ⟨68, rfl, .inl ⟨e68, ?_⟩⟩
          exact soft_call1 hf e72 (HFRB.out W (undrew hb)) rfl (by kernel_rfl) places_is
        case s15 =>
          intro ρ W hb hc hf hr
          obtain ⟨r73, r68, -⟩ := hr
          have e68 : ρ (.tmp 68) = .bool true := r68
          clear r68
          refine ⟨68, rfl, .inl ⟨e68, ?_⟩⟩
          (obtain ⟨A9, c9, e9, -⟩ := r73; simp [e9, go_sem, softUpon, Fact.is, Below.refl])
        case s16 =>
          intro ρ W hb hc hf hr
          obtain ⟨r74, r68, -⟩ := hr
          have e74 : ρ (.tmp 74) = .int .i64 (fb : Int) := r74
          clear r74
          have e68 : ρ (.tmp 68) = .bool true := r68
          clear r68
          refine ⟨68, rfl, .inl ⟨e68, ?_⟩⟩
          exact soft_bin e74 (hc _) rfl rfl (HE1.out W)
        case s17 =>
          intro ρ W hb hc hf hr
          obtain ⟨r71, r75, r68, -⟩ := hr
          have e71 : ρ (.tmp 71) = .int .i64 (fa : Int) := r71
          clear r71
          have e75 : ρ (.tmp 75) = .int .i64 (fa : Int) := r75
          clear r75
          have e68 : ρ (.tmp 68) = .bool true := r68
          clear r68
          refine ⟨68, rfl, .inl ⟨e68, ?_⟩⟩
          exact soft_bin e71 e75 rfl rfl (HE2.out W)
        case s18 =>
          intro ρ W hb hc hf hr
          obtain ⟨r68, r76, -⟩ := hr
          have e68 : ρ (.tmp 68) = .bool true := r68
          clear r68
          have e76 : ρ (.tmp 76) = .bool true := r76
          clear r76
          refine under_none rfl ?_
          simp [execOp, e68, e76, go_sem, softUpon, Fact.is, Below.refl]
        case s19 =>
          intro ρ W hb hc hf hr
          obtain ⟨r77, -⟩ := hr
          have e77 : ρ (.tmp 77) = .bool true := r77
          clear r77
          refine under_none rfl ?_
          exact ⟨e77, Below.refl _ _⟩
        case s20 =>
          intro ρ W hb hc hf hr
          obtain ⟨r9, r78, -⟩ := hr
          have e9 : ρ (.tmp 9) = .slice (some ao) M co := r9
          clear r9
          have e78 : ρ (.tmp 78) = .bool true := r78
          clear r78
          refine ⟨78, rfl, .inl ⟨e78, ?_⟩⟩
          exact ⟨e9, Below.refl _ _⟩
        case s21 =>
          intro ρ W hb hc hf hr
          obtain ⟨r9, r78, -⟩ := hr
          have e9 : ρ (.tmp 9) = .slice (some ao) M co := r9
          clear r9
          have e78 : ρ (.tmp 78) = .bool true := r78
          clear r78
          refine ⟨78, rfl, .inl ⟨e78, ?_⟩⟩
          exact ⟨e9, Below.refl _ _⟩
        case s22 =>
          intro ρ W hb hc hf hr
          obtain ⟨r80, r78, -⟩ := hr
          have e80 : ρ (.tmp 80) = .slice (some ao) M co := r80
          clear r80
          have e78 : ρ (.tmp 78) = .bool true := r78
          clear r78
          refine ⟨78, rfl, .inl ⟨e78, ?_⟩⟩
          simp [e80, go_sem, softUpon, Fact.is, Below.refl]
        case s23 =>
          intro ρ W hb hc hf hr
          obtain ⟨r81, r78, -⟩ := hr
          have e81 : ρ (.tmp 81) = .int .i64 M := r81
          clear r81
          have e78 : ρ (.tmp 78) = .bool true := r78
          clear r78
          refine ⟨78, rfl, .inl ⟨e78, ?_⟩⟩
          exact soft_bin e81 (hc _) rfl rfl (HE3.out W)
        case s24 =>
          intro ρ W hb hc hf hr
          obtain ⟨r79, r82, r78, -⟩ := hr
          have e79 : ρ (.tmp 79) = .slice (some ao) M co := r79
          clear r79
          have e82 : ρ (.tmp 82) = .int .i64 (m : Int) := r82
          clear r82
          have e78 : ρ (.tmp 78) = .bool true := r78
          clear r78
          refine ⟨78, rfl, .inl ⟨e78, ?_⟩⟩
          exact soft_index e79 e82 (HI.out W) rfl
        case s25 =>
          intro ρ W hb hc hf hr
          obtain ⟨r83, r78, -⟩ := hr
          have e83 : ρ (.tmp 83) = .pointer (some (ao.add m)) := r83
          clear r83
          have e78 : ρ (.tmp 78) = .bool true := r78
          clear r78
          refine ⟨78, rfl, .inl ⟨e78, ?_⟩⟩
          exact soft_load e83 (HK.out W (undrew hb)) rfl
        case s26 =>
          intro ρ W hb hc hf hr
          obtain ⟨r6, r78, -⟩ := hr
          have e6 : ρ (.tmp 6) = .int .i64 (k : Int) := r6
          clear r6
          have e78 : ρ (.tmp 78) = .bool true := r78
          clear r78
          refine ⟨78, rfl, .inl ⟨e78, ?_⟩⟩
          exact ⟨e6, Below.refl _ _⟩
        case s27 =>
          intro ρ W hb hc hf hr
          obtain ⟨r84, r85, r78, -⟩ := hr
          have e84 : ρ (.tmp 84) = .int .i64 (k : Int) := r84
          clear r84
          have e85 : ρ (.tmp 85) = .int .i64 (k : Int) := r85
          clear r85
          have e78 : ρ (.tmp 78) = .bool true := r78
          clear r78
          refine ⟨78, rfl, .inl ⟨e78, ?_⟩⟩
          exact soft_bin e84 e85 rfl rfl (HE4.out W)
        case s28 =>
          intro ρ W hb hc hf hr
          obtain ⟨r78, r86, -⟩ := hr
          have e78 : ρ (.tmp 78) = .bool true := r78
          clear r78
          have e86 : ρ (.tmp 86) = .bool true := r86
          clear r86
          refine under_none rfl ?_
          simp [execOp, e78, e86, go_sem, softUpon, Fact.is, Below.refl]
        case s29 =>
          intro ρ W hb hc hf hr
          obtain ⟨r87, -⟩ := hr
          have e87 : ρ (.tmp 87) = .bool true := r87
          clear r87
          refine under_none rfl ?_
          exact ⟨e87, Below.refl _ _⟩
        case s30 =>
          intro ρ W hb hc hf hr
          obtain ⟨r9, r88, -⟩ := hr
          have e9 : ρ (.tmp 9) = .slice (some ao) M co := r9
          clear r9
          have e88 : ρ (.tmp 88) = .bool true := r88
          clear r88
          refine ⟨88, rfl, .inl ⟨e88, ?_⟩⟩
          exact ⟨e9, Below.refl _ _⟩
        case s31 =>
          intro ρ W hb hc hf hr
          obtain ⟨r9, r88, -⟩ := hr
          have e9 : ρ (.tmp 9) = .slice (some ao) M co := r9
          clear r9
          have e88 : ρ (.tmp 88) = .bool true := r88
          clear r88
          refine ⟨88, rfl, .inl ⟨e88, ?_⟩⟩
          exact ⟨e9, Below.refl _ _⟩
        case s32 =>
          intro ρ W hb hc hf hr
          obtain ⟨r90, r88, -⟩ := hr
          have e90 : ρ (.tmp 90) = .slice (some ao) M co := r90
          clear r90
          have e88 : ρ (.tmp 88) = .bool true := r88
          clear r88
          refine ⟨88, rfl, .inl ⟨e88, ?_⟩⟩
          simp [e90, go_sem, softUpon, Fact.is, Below.refl]
        case s33 =>
          intro ρ W hb hc hf hr
          obtain ⟨r91, r88, -⟩ := hr
          have e91 : ρ (.tmp 91) = .int .i64 M := r91
          clear r91
          have e88 : ρ (.tmp 88) = .bool true := r88
          clear r88
          refine ⟨88, rfl, .inl ⟨e88, ?_⟩⟩
          exact soft_bin e91 (hc _) rfl rfl (HE3.out W)
        case s34 =>
          intro ρ W hb hc hf hr
          obtain ⟨r89, r92, r88, -⟩ := hr
          have e89 : ρ (.tmp 89) = .slice (some ao) M co := r89
          clear r89
          have e92 : ρ (.tmp 92) = .int .i64 (m : Int) := r92
          clear r92
          have e88 : ρ (.tmp 88) = .bool true := r88
          clear r88
          refine ⟨88, rfl, .inl ⟨e88, ?_⟩⟩
          exact soft_slice e89 e92 (HSL.out W) rfl
        case s35 =>
          intro ρ W hb hc hf hr
          obtain ⟨r7, r88, -⟩ := hr
          have e7 : ρ (.tmp 7) = .pointer (some ⟨bA, 0, none⟩) := r7
          clear r7
          have e88 : ρ (.tmp 88) = .bool true := r88
          clear r88
          refine ⟨88, rfl, .inl ⟨e88, ?_⟩⟩
          exact soft_load e7 (load_tab W bA g (-1) (some ⟨ga, 0, none⟩) n ca (HXA.out W (undrew hb))) rfl
        case s36 =>
          intro ρ W hb hc hf hr
          obtain ⟨r94, r88, -⟩ := hr
          have e94 : ρ (.tmp 94) = tabV g (-1) (some ⟨ga, 0, none⟩) n ca := r94
          clear r94
          have e88 : ρ (.tmp 88) = .bool true := r88
          clear r88
          refine ⟨88, rfl, .inl ⟨e88, ?_⟩⟩
          exact soft_call1 hf e94 (HORA.out W (undrew hb)) rfl (by kernel_rfl) places_is
        case s37 =>
          intro ρ W hb hc hf hr
          obtain ⟨r93, r95, r88, -⟩ := hr
          have e93 : ρ (.tmp 93) = .slice (some ao) m co := r93
          clear r93
          have e88 : ρ (.tmp 88) = .bool true := r88
          clear r88
          refine ⟨88, rfl, .inl ⟨e88, ?_⟩⟩
          (obtain ⟨A9, c9, e9, -, h9⟩ := r95; exact soft_call2 hf e93 e9 (HSI.out W A9 c9 (undrew hb) h9) rfl (by kernel_rfl) below_is)
        case s38 =>
          intro ρ W hb hc hf hr
          obtain ⟨r88, r96, -⟩ := hr
          have e88 : ρ (.tmp 88) = .bool true := r88
          clear r88
          have e96 : ρ (.tmp 96) = .bool true := r96
          clear r96
          refine under_none rfl ?_
          simp [execOp, e88, e96, go_sem, softUpon, Fact.is, Below.refl]
        case s39 =>
          intro ρ W hb hc hf hr
          obtain ⟨r97, -⟩ := hr
          have e97 : ρ (.tmp 97) = .bool true := r97
          clear r97
          refine under_none rfl ?_
          exact ⟨e97, Below.refl _ _⟩
        case s40 =>
          intro ρ W hb hc hf hr
          obtain ⟨r8, r98, -⟩ := hr
          have e8 : ρ (.tmp 8) = .pointer (some ⟨bB, 0, none⟩) := r8
          clear r8
          have e98 : ρ (.tmp 98) = .bool true := r98
          clear r98
          refine ⟨98, rfl, .inl ⟨e98, ?_⟩⟩
          exact soft_load e8 (load_tab W bB g (k : Int) (some ⟨gb, 0, none⟩) n cb (HXB.out W (undrew hb))) rfl
        case s41 =>
          intro ρ W hb hc hf hr
          obtain ⟨r99, r98, -⟩ := hr
          have e99 : ρ (.tmp 99) = tabV g (k : Int) (some ⟨gb, 0, none⟩) n cb := r99
          clear r99
          have e98 : ρ (.tmp 98) = .bool true := r98
          clear r98
          refine ⟨98, rfl, .inl ⟨e98, ?_⟩⟩
          exact soft_call1 hf e99 (HLSB.out W (undrew hb)) rfl (by kernel_rfl) below_is
        case s42 =>
          intro ρ W hb hc hf hr
          obtain ⟨r2, r98, -⟩ := hr
          have e2 : ρ (.tmp 2) = .pointer (some ⟨w.heap.size, 0, none⟩) := r2
          clear r2
          have e98 : ρ (.tmp 98) = .bool true := r98
          clear r98
          refine ⟨98, rfl, .inl ⟨e98, ?_⟩⟩
          exact soft_load e2 (load_tab W w.heap.size g o (some ad) n cap (HXT.out W (undrew hb))) rfl
        case s43 =>
          intro ρ W hb hc hf hr
          obtain ⟨r101, r98, -⟩ := hr
          have e101 : ρ (.tmp 101) = tabV g o (some ad) n cap := r101
          clear r101
          have e98 : ρ (.tmp 98) = .bool true := r98
          clear r98
          refine ⟨98, rfl, .inl ⟨e98, ?_⟩⟩
          exact soft_call1 hf e101 (HLST.out W (undrew hb)) rfl (by kernel_rfl) below_is
        case s44 =>
          intro ρ W hb hc hf hr
          obtain ⟨r102, r98, -⟩ := hr
          have e102 : ρ (.tmp 102) = .int .i64 V := r102
          clear r102
          have e98 : ρ (.tmp 98) = .bool true := r98
          clear r98
          refine ⟨98, rfl, .inl ⟨e98, ?_⟩⟩
          exact soft_bin e102 (hc _) rfl rfl (HAD1.out W)
        case s45 =>
          intro ρ W hb hc hf hr
          obtain ⟨r100, r103, r98, -⟩ := hr
          have e100 : ρ (.tmp 100) = .int .i64 (V + 1) := r100
          clear r100
          have e103 : ρ (.tmp 103) = .int .i64 (V + 1) := r103
          clear r103
          have e98 : ρ (.tmp 98) = .bool true := r98
          clear r98
          refine ⟨98, rfl, .inl ⟨e98, ?_⟩⟩
          exact soft_bin e100 e103 rfl rfl (HE5.out W)
        case s46 =>
          intro ρ W hb hc hf hr
          obtain ⟨r98, r104, -⟩ := hr
          have e98 : ρ (.tmp 98) = .bool true := r98
          clear r98
          have e104 : ρ (.tmp 104) = .bool true := r104
          clear r104
          refine under_none rfl ?_
          simp [execOp, e98, e104, go_sem, softUpon, Fact.is, Below.refl]
        case s47 =>
          intro ρ W hb hc hf hr
          obtain ⟨r105, -⟩ := hr
          have e105 : ρ (.tmp 105) = .bool true := r105
          clear r105
          refine under_none rfl ?_
          exact ⟨e105, Below.refl _ _⟩
        case fin =>
          intro a w1 hb hd hsz hk
          have ea := act_puts hd hsz rfl hk
          have k59 : a.tmps.getD 59 undef = .bool true := hk 59
          have k60 : a.tmps.getD 60 undef = .bool true := hk 60
          have k61 : a.tmps.getD 61 undef = tabV g (-1) (some ⟨ga, 0, none⟩) n ca := hk 61
          have k62 : a.tmps.getD 62 undef = .bool true := hk 62
          have k63 : a.tmps.getD 63 undef = .bool true := hk 63
          have k64 : a.tmps.getD 64 undef = .bool true := hk 64
          have k65 : a.tmps.getD 65 undef = tabV g (k : Int) (some ⟨gb, 0, none⟩) n cb := hk 65
          have k66 : a.tmps.getD 66 undef = .bool true := hk 66
          have k67 : a.tmps.getD 67 undef = .bool true := hk 67
          have k68 : a.tmps.getD 68 undef = .bool true := hk 68
          have k69 : a.tmps.getD 69 undef = tabV g (-1) (some ⟨ga, 0, none⟩) n ca := hk 69
          have k70 : (Fact.places FA fa).φ (a.tmps.getD 70 undef) w1 := hk 70
          have k71 : a.tmps.getD 71 undef = .int .i64 (fa : Int) := hk 71
          have k72 : a.tmps.getD 72 undef = tabV g (k : Int) (some ⟨gb, 0, none⟩) n cb := hk 72
          have k73 : (Fact.places FB fb).φ (a.tmps.getD 73 undef) w1 := hk 73
          have k74 : a.tmps.getD 74 undef = .int .i64 (fb : Int) := hk 74
          have k75 : a.tmps.getD 75 undef = .int .i64 (fa : Int) := hk 75
          have k76 : a.tmps.getD 76 undef = .bool true := hk 76
          have k77 : a.tmps.getD 77 undef = .bool true := hk 77
          have k78 : a.tmps.getD 78 undef = .bool true := hk 78
          have k79 : a.tmps.getD 79 undef = .slice (some ao) M co := hk 79
          have k80 : a.tmps.getD 80 undef = .slice (some ao) M co := hk 80
          have k81 : a.tmps.getD 81 undef = .int .i64 M := hk 81
          have k82 : a.tmps.getD 82 undef = .int .i64 (m : Int) := hk 82
          have k83 : a.tmps.getD 83 undef = .pointer (some (ao.add m)) := hk 83
          have k84 : a.tmps.getD 84 undef = .int .i64 (k : Int) := hk 84
          have k85 : a.tmps.getD 85 undef = .int .i64 (k : Int) := hk 85
          have k86 : a.tmps.getD 86 undef = .bool true := hk 86
          have k87 : a.tmps.getD 87 undef = .bool true := hk 87
          have k88 : a.tmps.getD 88 undef = .bool true := hk 88
          have k89 : a.tmps.getD 89 undef = .slice (some ao) M co := hk 89
          have k90 : a.tmps.getD 90 undef = .slice (some ao) M co := hk 90
          have k91 : a.tmps.getD 91 undef = .int .i64 M := hk 91
          have k92 : a.tmps.getD 92 undef = .int .i64 (m : Int) := hk 92
          have k93 : a.tmps.getD 93 undef = .slice (some ao) m co := hk 93
          have k94 : a.tmps.getD 94 undef = tabV g (-1) (some ⟨ga, 0, none⟩) n ca := hk 94
          have k95 : (Fact.places OA m).φ (a.tmps.getD 95 undef) w1 := hk 95
          have k96 : a.tmps.getD 96 undef = .bool true := hk 96
          have k97 : a.tmps.getD 97 undef = .bool true := hk 97
          have k98 : a.tmps.getD 98 undef = .bool true := hk 98
          have k99 : a.tmps.getD 99 undef = tabV g (k : Int) (some ⟨gb, 0, none⟩) n cb := hk 99
          have k100 : a.tmps.getD 100 undef = .int .i64 (V + 1) := hk 100
          have k101 : a.tmps.getD 101 undef = tabV g o (some ad) n cap := hk 101
          have k102 : a.tmps.getD 102 undef = .int .i64 V := hk 102
          have k103 : a.tmps.getD 103 undef = .int .i64 (V + 1) := hk 103
          have k104 : a.tmps.getD 104 undef = .bool true := hk 104
          have k105 : a.tmps.getD 105 undef = .bool true := hk 105
          have k4 : a.tmps.getD 4 undef = .bool true := hk 4
          clear hk hd hsz
          simp only [List.map_cons, List.map_nil, List.foldl_cons, List.foldl_nil, k59, k60, k61, k62, k63, k64, k65, k66, k67, k68, k69, k71, k72, k74, k75, k76, k77, k78, k79, k80, k81, k82, k83, k84, k85, k86, k87, k88, k89, k90, k91, k92, k93, k94, k96, k97, k98, k99, k100, k101, k102, k103, k104, k105, k4] at ea
          clear k59 k60 k61 k62 k63 k64 k65 k66 k67 k68 k69 k71 k72 k74 k75 k76 k77 k78 k79 k80 k81 k82 k83 k84 k85 k86 k87 k88 k89 k90 k91 k92 k93 k94 k96 k97 k98 k99 k100 k101 k102 k103 k104 k105 k4
          generalize a.tmps.getD 70 undef = v70 at ea k70
          generalize a.tmps.getD 73 undef = v73 at ea k73
          generalize a.tmps.getD 95 undef = v95 at ea k95
          simp only [Act.put, List.setIfInBounds_toArray, List.set_cons_succ, List.set_cons_zero] at ea
          subst ea
          have c5 := HB16.out.trans ((undrew hb).mono HB16.out.size)
          go_wp2
          go_ret
          exact ⟨rfl, c5⟩

theorem walk (w : World) (hT : Tab w) (g o : Int) (A : Option Addr) (cap : Nat) (xs : List Tb.Ext) (hl : xs.length ≤ cap) (_ : cap ≤ maxLen) (hA : Lies w A (flatX xs)) (a : Int) (ha : 0 ≤ a ∧ a ≤ 255) :
    Calls Tryd.prog 9 #[tabV g o A xs.length cap, .int .u8 a] w fun e w' => e = .returned (.bool true) ∧ Below w.heap.size w w' := by
  obtain ⟨a, rfl⟩ := Int.eq_ofNat_of_zero_le ha.1
  exact walkN w hT g o A cap xs.length xs rfl hl hA a (by omega)


set_option maxRecDepth 100000 in
theorem lifted (os : Os) (started : os.Started) (H : Type) (enc : TypeId × Value → H) :
    ReturnsInHanded {} Tryd.checked os 9 .any (fun w args => (Rows.tableChangesSpec.pre enc Tryd.prog Tryd.f9 [] false w args ∧ laidMetH Tryd.prog laidHere w) ∧ sizedMet enc Tryd.prog Tryd.f9 (OpenSpec.ofChange Rows.tableChangesSpec) false w args) (Rows.tableChangesSpec.post enc Tryd.prog Tryd.f9 false true false false) := by
  refine returnsInHanded_of_change_and (C := Tryd.checked) (X := fun w _ => laidMetH Tryd.prog laidHere w) (fun _ _ _ hh h => h.of_heap hh) own started (by kernel_rfl) Tryd.func9
    (ChangeSpec.witness_shaped (enc := enc) (C := Tryd.checked) (os := os) (X := fun w _ => laidMetH Tryd.prog laidHere w) false (World.doorLaid Tryd.prog doorSteps os) #[.agg #[.int .i64 0, .int .i64 0, .slice none 0 0], .int .u8 0] 8 rfl (World.shaped_of_RefB (by kernel_rfl) (by kernel_rfl)) (by kernel_rfl) (by kernel_rfl) (by kernel_rfl) (door_met os _)) ?_
  intro W base args ds gs before hval0 hW _ _ hL _
  have hval : ∀ (j : Nat) t v, Tryd.f9.params[j]? = some t → args[j]? = some v → Value.okWide Tryd.prog W .any base t v := hval0
  have hfin := fun W' => law_post (enc := enc) (P := Tryd.prog) (f := Tryd.f9) (s := Rows.tableChangesSpec) (tb := 4) (W := W) (W' := W') (args := args) (ds := ds) (gs := gs) (before := before) laidOut rfl (by kernel_rfl) Tryd.underlying4 (by kernel_rfl) (fun xs h => by rw [Tryd.params9] at h; match xs, h with | [_, _], _ => rfl) hW
  have hlt : ∀ x ∈ before, x.block < W.heap.size := fun x hx => hW.lt x hx
  obtain ⟨p, q, hA0, hV, rfl, hfz, hnd⟩ := hW
  have hA : DataW.TrodAll enc Tryd.prog W 0 (fun _ => true) true Tryd.f9.params.toList args.toList ds p := hA0
  rw [Tryd.params9] at hA hval
  obtain ⟨v0, vs0, d0, ds0, p0, q0, hargs, rfl, rfl, h0, r0⟩ := trodAll_cons hA
  obtain ⟨v1, vs1, d1, ds1, p1, q1, rfl, rfl, rfl, h1, r1⟩ := trodAll_cons r0
  obtain ⟨rfl, rfl, rfl⟩ := trodAll_nil r1
  obtain rfl : args = #[v0, v1] := by cases args; simp_all
  obtain ⟨g0, o0, A0, cap0, l0, rfl, hl0, hm0, hB0⟩ := open_table (hval 0 24 v0 rfl rfl) h0 (fun x hx => hlt x (by simp [hx]))
  obtain ⟨a1, rfl, rfl, rfl, w1⟩ := open_int Tryd.underlying5 (hval 1 5 v1 rfl rfl) h1
  refine (walk W (of_laid hL) g0 o0 A0 cap0 l0 hl0 hm0 hB0 a1 (bounds_u8 w1)).mono fun e W' ⟨he, hg⟩ => ?_
  subst he
  exact ⟨_, rfl, hfin W' hg⟩

theorem proved : Rows.TableChangesSaid :=
  OpenClaim.holds_of_wide 9 Tryd.f9 rfl rfl rfl rfl rfl rfl rfl ⟨rfl, rfl, rfl, rfl, rfl⟩ rfl rfl rfl rfl rfl (by kernel_rfl) Tryd.func9 (by kernel_rfl)
    (of_decide_eq_true (by kernel_rfl)) (by unfold Func.isWrapper; first | (rw [if_pos (by decide +kernel)]; kernel_rfl) | (rw [if_neg (by decide +kernel)]; exact ⟨rfl, rfl⟩))
    (fun os started H enc _ => lifted os started H enc)

set_option maxRecDepth 100000 in
theorem card : Rows.TableChangesCardSaid :=
  Claim7.holds_tied_plain_at .later [] laidKindsHere true _ false
    proved (fun _ h => by cases h) (by kernel_rfl) (fun _ h => by cases h) tableChanges_row_tie rfl ⟨rfl, rfl⟩ (by kernel_rfl) rfl
    (fun f fn hf hfn => by
      obtain rfl : f = 9 := Option.some.inj ((show Tryd.prog.funcNamed "turntable/turntablelaw09.TableChanges" = some 9 by kernel_rfl).symm.trans hf) |>.symm
      obtain rfl : fn = Tryd.f9 := (Option.some.inj (Tryd.func9.symm.trans hfn)).symm
      exact ⟨by kernel_rfl, fun j t ht => by
        rw [Tryd.params9] at ht
        have hm : t ∈ [24, 5] := Array.mem_def.1 (Array.mem_of_getElem? ht)
        have hall : ([24, 5].all fun u => !Tryd.prog.wantsStandIn u) = true := by kernel_rfl
        exact (show Tryd.prog.wantsStandIn t = false by simpa using List.all_eq_true.1 hall t hm)⟩)
    (by kernel_rfl)
#print axioms card
end Go.Proofs.YtbjaieopjkbijaaDoor.tableChanges
