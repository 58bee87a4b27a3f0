/-
  Layer 9: places, at the question of Order and at that of Free; Free: what they answer, of any table. Assumed: that the extents lie in memory.
-/
import Derived.Test.YtbjaieopjkbijaaDoorTbG

namespace Go.Proofs.YtbjaieopjkbijaaDoor
open Go.RowKit
set_option maxRecDepth 100000

theorem infoInt : (Tryd.prog.info? 3).map (fun i => (i.zero, i.size, i.bytes)) = some (some (.int .i64 0), 1, 8) := by kernel_rfl
theorem own_base {w : World} {B B' size n : Nat} {e : TypeId} {v : Value} {xs : List Value} (h : w.ownsRow B e size v n xs) (hb : B' ≤ B) : w.ownsRow B' e size v n xs := by
  refine ⟨h.1, ?_⟩
  rcases h.2 with h | ⟨g, cap, cur, h1, h2, h3⟩
  · exact .inl h
  · exact .inr ⟨g, cap, cur, h1, Nat.le_trans hb h2, h3⟩
/-- places that were handed back: memory of one's own -/
def MadeI (w : World) (l : List Nat) (e : Ending) (w' : World) : Prop := ∃ v, e = .returned v ∧ w'.ownsRow w.heap.size 3 1 v l.length (nums l) ∧ Below w.heap.size w w'

theorem used_any (x : Tb.Ext) (w : World) : Calls Tryd.prog 41 #[exV x] w fun e w' => e = .returned (.bool (!decide (x.q = 0))) ∧ Below w.heap.size w w' := by
  obtain ⟨q, l⟩ := x
  have HB := Lib.hid ((Below.refl w.heap.size w).alloc (Nat.le_refl _) (.cells #[.int .i64 q, .int .i64 l] 39))
  by_cases h : q = 0
  · subst h
    go_enter Tryd.func41, Tryd.ntmps41
    go_wp2
    go_ret
    exact ⟨rfl, HB.out⟩
  · have hb1 : (q == 0) = false := by simpa using h
    have hb2 : (q != 0) = true := by simpa using h
    have HD := Lib.hid (decide_eq_false h)
    clear h
    simp only [HD.out]
    go_enter Tryd.func41, Tryd.ntmps41
    go_wp2
    go_ret
    exact ⟨by first | rfl | simp, HB.out⟩

theorem free_any (x : Tb.Ext) (w : World) : Calls Tryd.prog 45 #[exV x] w fun e w' => e = .returned (.bool (decide (x.q = 0))) ∧ Below w.heap.size w w' := by
  obtain ⟨q, l⟩ := x
  have HB := Lib.hid ((Below.refl w.heap.size w).alloc (Nat.le_refl _) (.cells #[.int .i64 q, .int .i64 l] 39))
  by_cases h : q = 0
  · subst h
    go_enter Tryd.func45, Tryd.ntmps45
    go_wp2
    go_ret
    exact ⟨rfl, HB.out⟩
  · have hb1 : (q == 0) = false := by simpa using h
    have hb2 : (q != 0) = true := by simpa using h
    have HD := Lib.hid (decide_eq_false h)
    clear h
    simp only [HD.out]
    go_enter Tryd.func45, Tryd.ntmps45
    go_wp2
    go_ret
    exact ⟨by first | rfl | simp, HB.out⟩

set_option maxHeartbeats 2000000 in
theorem places_used (g o : Int) (A : Option Addr) (cap n : Nat) (xs : List Tb.Ext) (w : World) (hn : xs.length = n) (hc : n ≤ cap) (hA : Lies w A (flatX xs)) :
    Calls Tryd.prog 40 #[tabV g o A n cap, .func (.func 41) #[] #[]] w (MadeI w (if Tb.right ⟨g, o, xs⟩ = true then Tb.used xs else [])) := by
  unfold MadeI
  obtain ⟨i0, hi, hz0, hz1, hz2⟩ := info_parts infoInt
  have HRG := Lib.hid (fun (W : World) (hA : Lies W A (flatX xs)) => tright_any g o A cap n xs W hn hc hA)
  have HN8 := Lib.hid (show Tb.right ⟨g, o, xs⟩ = true → n ≤ 8 from fun h => by have := (Tb.right_iff.1 h).n2; simp only at this; omega)
  have HB0 := Lib.hid ((Below.refl w.heap.size w).alloc (Nat.le_refl _) (.cells #[.int .i64 g, .int .i64 o, .slice A n cap] 24))
  have HA0 := Lib.hid (hA.below HB0.out)
  have HBX := Lib.hid (Blk.new w #[.int .i64 g, .int .i64 o, .slice A n cap] 24)
  have HA := Lib.hid hA
  have HN := Lib.hid hn
  generalize Tb.right ⟨g, o, xs⟩ = R at *
  clear hA hn
  go_enter Tryd.func40, Tryd.ntmps40
  go_wp2_with fail
  refine (HRG.out _ HA0.out).mono ?_
  rintro e w1 ⟨rfl, d1⟩
  have HB1 := Lib.hid (HB0.out.trans (d1.mono HB0.out.size))
  obtain ⟨z0, z1, z2⟩ := (HBX.out.below d1 (Nat.le_refl _)).three
  clear d1 z0 z1
  rcases R with _ | _
  · go_wp2
    go_ret
    exact ⟨_, rfl, World.ownsRow_nil _ _ _ 1, HB1.out⟩
  have hn8 := HN8.out rfl
  go_wp2_with fail
  clear z2
  go_loopw [5, 14] (fun vo vi wr => ∃ i : Nat, vi = .int .i64 i ∧ i ≤ n ∧ wr.ownsRow w.heap.size 3 1 vo ((List.range i).filter (fun k => !decide (Tb.qAt xs k = 0))).length (nums ((List.range i).filter (fun k => !decide (Tb.qAt xs k = 0)))) ∧ Below w.heap.size w wr) (fun _ vi _ => n - (intOf vi).toNat)
  case atStart => exact ⟨0, rfl, by omega, World.ownsRow_nil _ _ _ 1, HB1.out⟩
  case round =>
    obtain ⟨i, rfl, hin2, hown, hbr⟩ := hrel
    have HOW := Lib.hid hown
    by_cases hin : i < n
    · have hil : i < xs.length := by have := HN.out; omega
      obtain ⟨ad, rfl, hadb, hcx⟩ := at_ext HA.out i hil
      obtain ⟨x0, x1⟩ := hcx wr hbr
      have HS := Lib.hid (show (List.range (i + 1)).filter (fun k => !decide (Tb.qAt xs k = 0)) = (List.range i).filter (fun k => !decide (Tb.qAt xs k = 0)) ++ if (fun k => !decide (Tb.qAt xs k = 0)) i = true then [i] else [] by
        rw [List.range_succ, List.filter_append, List.filter_cons, List.filter_nil])
      have HQ := Lib.hid (Tb.qAt_eq hil)
      simp only [HQ.out] at HS
      have HLL := Lib.hid (show ((List.range i).filter (fun k => !decide (Tb.qAt xs k = 0))).length ≤ 8 from Nat.le_trans (List.length_filter_le _ _) (by rw [List.length_range]; omega))
      have HIN := Lib.hid (show i + 1 ≤ n by omega)
      clear hcx hown
      obtain ⟨M, hM⟩ : ∃ M, (List.range i).filter (fun k => !decide (Tb.qAt xs k = 0)) = M := ⟨_, rfl⟩
      obtain ⟨M2, hM2⟩ : ∃ M2, (List.range (i + 1)).filter (fun k => !decide (Tb.qAt xs k = 0)) = M2 := ⟨_, rfl⟩
      rw [hM] at HOW HS HLL
      rw [hM2] at HS
      have HM2 := Lib.hid hM2
      clear hM hM2
      generalize xs[i] = x at *
      obtain ⟨xq, xl⟩ := x
      have y0 : wr.cell? (ad.add (i * 2)) = some (.int .i64 xq) := x0
      have y1 : wr.cell? ⟨(ad.add (i * 2)).block, (ad.add (i * 2)).off + 1, none⟩ = some (.int .i64 xl) := x1
      have HW := Lib.hid (fun (W : World) => used_any ⟨xq, xl⟩ W)
      simp only at HS HW
      have bx := Blk.new wr #[.int .i64 xq, .int .i64 xl] 39
      have HBe := Lib.hid (hbr.alloc hbr.size (.cells #[.int .i64 xq, .int .i64 xl] 39))
      have HOe := Lib.hid (HOW.out.alloc (.cells #[.int .i64 xq, .int .i64 xl] 39))
      clear x0 x1 bx
      go_wp2_with fail
      refine (HW.out _).mono ?_
      rintro e w2 ⟨rfl, d2⟩
      have HO2 := Lib.hid (row_keep HOe.out d2)
      have HB2 := Lib.hid (HBe.out.trans (d2.mono HBe.out.size))
      clear d2 y0 y1 HW
      by_cases hq : xq ≠ 0
      · have hd : (!decide (xq = 0)) = true := by simp [hq]
        have HS2 := Lib.hid (show M2 = M ++ [i] by rw [HS.out]; simp [hq])
        clear hq
        have hlen := HLL.out
        go_wp2_with (at_builtin; refine wpList_appK rfl _ _ 32 rfl w.heap.size 3 i0 (.int .i64 0) 1 8 Tryd.underlying32 hi hz0 hz1 hz2 rfl (by omega) _ M.length (nums M) rfl ?a1 (some ⟨w2.heap.size, 0, none⟩) 1 1 [.int .i64 (i : Int)] rfl rfl ?a2 ?a3 ?a4 ?a5 ?a6 ?a7)
        case a1 => exact HO2.out.alloc _
        case a2 => exact Lies.new w2 #[.int .i64 (i : Int)] 3
        case a3 => simp [Value.oneCell']
        case a4 => unfold maxLen; omega
        case a5 => omega
        case a6 => have := HB2.out.size; simp; omega
        case a7 =>
          intro v3 w3 hown3 hg3 hat3
          have HB3 := Lib.hid ((HB2.out.alloc HB2.out.size _).grown hg3 (by have := HB2.out.size; simp; omega) (fun g hg => (HO2.out.lt g hg).1))
          have HO3 := Lib.hid (show w3.ownsRow w.heap.size 3 1 v3 M2.length (nums M2) by
            rw [HS2.out, List.length_append]
            simpa [nums] using hown3)
          clear hown3 hg3 hat3
          go_wp2
          go_roundw
          case rel => exact ⟨i + 1, by go_num, HIN.out, by rw [HM2.out]; exact HO3.out, HB3.out⟩
          case measure => have := HIN.out; first | omega | (simp [intOf]; omega)
      · have hd : (!decide (xq = 0)) = false := by simpa using hq
        have HS2 := Lib.hid (show M2 = M by rw [HS.out]; simp [hq])
        clear hq
        go_wp2
        go_roundw
        case rel => exact ⟨i + 1, by go_num, HIN.out, by rw [HM2.out, HS2.out]; exact HO2.out, HB2.out⟩
        case measure => have := HIN.out; first | omega | (simp [intOf]; omega)
    · obtain rfl : i = n := by omega
      have HE := Lib.hid (show (List.range i).filter (fun k => !decide (Tb.qAt xs k = 0)) = Tb.used xs by unfold Tb.used; rw [HN.out])
      rw [HE.out] at HOW
      clear hown
      go_wp2
      go_ret
      exact ⟨_, rfl, HOW.out, hbr⟩

set_option maxHeartbeats 2000000 in
theorem places_free (g o : Int) (A : Option Addr) (cap n : Nat) (xs : List Tb.Ext) (w : World) (hn : xs.length = n) (hc : n ≤ cap) (hA : Lies w A (flatX xs)) :
    Calls Tryd.prog 40 #[tabV g o A n cap, .func (.func 45) #[] #[]] w (MadeI w (if Tb.right ⟨g, o, xs⟩ = true then Tb.free xs else [])) := by
  unfold MadeI
  obtain ⟨i0, hi, hz0, hz1, hz2⟩ := info_parts infoInt
  have HRG := Lib.hid (fun (W : World) (hA : Lies W A (flatX xs)) => tright_any g o A cap n xs W hn hc hA)
  have HN8 := Lib.hid (show Tb.right ⟨g, o, xs⟩ = true → n ≤ 8 from fun h => by have := (Tb.right_iff.1 h).n2; simp only at this; omega)
  have HB0 := Lib.hid ((Below.refl w.heap.size w).alloc (Nat.le_refl _) (.cells #[.int .i64 g, .int .i64 o, .slice A n cap] 24))
  have HA0 := Lib.hid (hA.below HB0.out)
  have HBX := Lib.hid (Blk.new w #[.int .i64 g, .int .i64 o, .slice A n cap] 24)
  have HA := Lib.hid hA
  have HN := Lib.hid hn
  generalize Tb.right ⟨g, o, xs⟩ = R at *
  clear hA hn
  go_enter Tryd.func40, Tryd.ntmps40
  go_wp2_with fail
  refine (HRG.out _ HA0.out).mono ?_
  rintro e w1 ⟨rfl, d1⟩
  have HB1 := Lib.hid (HB0.out.trans (d1.mono HB0.out.size))
  obtain ⟨z0, z1, z2⟩ := (HBX.out.below d1 (Nat.le_refl _)).three
  clear d1 z0 z1
  rcases R with _ | _
  · go_wp2
    go_ret
    exact ⟨_, rfl, World.ownsRow_nil _ _ _ 1, HB1.out⟩
  have hn8 := HN8.out rfl
  go_wp2_with fail
  clear z2
  go_loopw [5, 14] (fun vo vi wr => ∃ i : Nat, vi = .int .i64 i ∧ i ≤ n ∧ wr.ownsRow w.heap.size 3 1 vo ((List.range i).filter (fun k => decide (Tb.qAt xs k = 0))).length (nums ((List.range i).filter (fun k => decide (Tb.qAt xs k = 0)))) ∧ Below w.heap.size w wr) (fun _ vi _ => n - (intOf vi).toNat)
  case atStart => exact ⟨0, rfl, by omega, World.ownsRow_nil _ _ _ 1, HB1.out⟩
  case round =>
    obtain ⟨i, rfl, hin2, hown, hbr⟩ := hrel
    have HOW := Lib.hid hown
    by_cases hin : i < n
    · have hil : i < xs.length := by have := HN.out; omega
      obtain ⟨ad, rfl, hadb, hcx⟩ := at_ext HA.out i hil
      obtain ⟨x0, x1⟩ := hcx wr hbr
      have HS := Lib.hid (show (List.range (i + 1)).filter (fun k => decide (Tb.qAt xs k = 0)) = (List.range i).filter (fun k => decide (Tb.qAt xs k = 0)) ++ if (fun k => decide (Tb.qAt xs k = 0)) i = true then [i] else [] by
        rw [List.range_succ, List.filter_append, List.filter_cons, List.filter_nil])
      have HQ := Lib.hid (Tb.qAt_eq hil)
      simp only [HQ.out] at HS
      have HLL := Lib.hid (show ((List.range i).filter (fun k => decide (Tb.qAt xs k = 0))).length ≤ 8 from Nat.le_trans (List.length_filter_le _ _) (by rw [List.length_range]; omega))
      have HIN := Lib.hid (show i + 1 ≤ n by omega)
      clear hcx hown
      obtain ⟨M, hM⟩ : ∃ M, (List.range i).filter (fun k => decide (Tb.qAt xs k = 0)) = M := ⟨_, rfl⟩
      obtain ⟨M2, hM2⟩ : ∃ M2, (List.range (i + 1)).filter (fun k => decide (Tb.qAt xs k = 0)) = M2 := ⟨_, rfl⟩
      rw [hM] at HOW HS HLL
      rw [hM2] at HS
      have HM2 := Lib.hid hM2
      clear hM hM2
      generalize xs[i] = x at *
      obtain ⟨xq, xl⟩ := x
      have y0 : wr.cell? (ad.add (i * 2)) = some (.int .i64 xq) := x0
      have y1 : wr.cell? ⟨(ad.add (i * 2)).block, (ad.add (i * 2)).off + 1, none⟩ = some (.int .i64 xl) := x1
      have HW := Lib.hid (fun (W : World) => free_any ⟨xq, xl⟩ W)
      simp only at HS HW
      have bx := Blk.new wr #[.int .i64 xq, .int .i64 xl] 39
      have HBe := Lib.hid (hbr.alloc hbr.size (.cells #[.int .i64 xq, .int .i64 xl] 39))
      have HOe := Lib.hid (HOW.out.alloc (.cells #[.int .i64 xq, .int .i64 xl] 39))
      clear x0 x1 bx
      go_wp2_with fail
      refine (HW.out _).mono ?_
      rintro e w2 ⟨rfl, d2⟩
      have HO2 := Lib.hid (row_keep HOe.out d2)
      have HB2 := Lib.hid (HBe.out.trans (d2.mono HBe.out.size))
      clear d2 y0 y1 HW
      by_cases hq : xq = 0
      · have hd : decide (xq = 0) = true := by simp [hq]
        have HS2 := Lib.hid (show M2 = M ++ [i] by rw [HS.out]; simp [hq])
        clear hq
        have hlen := HLL.out
        go_wp2_with (at_builtin; refine wpList_appK rfl _ _ 32 rfl w.heap.size 3 i0 (.int .i64 0) 1 8 Tryd.underlying32 hi hz0 hz1 hz2 rfl (by omega) _ M.length (nums M) rfl ?a1 (some ⟨w2.heap.size, 0, none⟩) 1 1 [.int .i64 (i : Int)] rfl rfl ?a2 ?a3 ?a4 ?a5 ?a6 ?a7)
        case a1 => exact HO2.out.alloc _
        case a2 => exact Lies.new w2 #[.int .i64 (i : Int)] 3
        case a3 => simp [Value.oneCell']
        case a4 => unfold maxLen; omega
        case a5 => omega
        case a6 => have := HB2.out.size; simp; omega
        case a7 =>
          intro v3 w3 hown3 hg3 hat3
          have HB3 := Lib.hid ((HB2.out.alloc HB2.out.size _).grown hg3 (by have := HB2.out.size; simp; omega) (fun g hg => (HO2.out.lt g hg).1))
          have HO3 := Lib.hid (show w3.ownsRow w.heap.size 3 1 v3 M2.length (nums M2) by
            rw [HS2.out, List.length_append]
            simpa [nums] using hown3)
          clear hown3 hg3 hat3
          go_wp2
          go_roundw
          case rel => exact ⟨i + 1, by go_num, HIN.out, by rw [HM2.out]; exact HO3.out, HB3.out⟩
          case measure => have := HIN.out; first | omega | (simp [intOf]; omega)
      · have hd : decide (xq = 0) = false := by simp [hq]
        have HS2 := Lib.hid (show M2 = M by rw [HS.out]; simp [hq])
        clear hq
        go_wp2
        go_roundw
        case rel => exact ⟨i + 1, by go_num, HIN.out, by rw [HM2.out, HS2.out]; exact HO2.out, HB2.out⟩
        case measure => have := HIN.out; first | omega | (simp [intOf]; omega)
    · obtain rfl : i = n := by omega
      have HE := Lib.hid (show (List.range i).filter (fun k => decide (Tb.qAt xs k = 0)) = Tb.free xs by unfold Tb.free; rw [HN.out])
      rw [HE.out] at HOW
      clear hown
      go_wp2
      go_ret
      exact ⟨_, rfl, HOW.out, hbr⟩

theorem tfree_any (g o : Int) (A : Option Addr) (cap n : Nat) (xs : List Tb.Ext) (w : World) (hn : xs.length = n) (hc : n ≤ cap) (hA : Lies w A (flatX xs)) :
    Calls Tryd.prog 20 #[tabV g o A n cap] w (MadeI w (if Tb.right ⟨g, o, xs⟩ = true then Tb.free xs else [])) := by
  have HB0 := Lib.hid ((Below.refl w.heap.size w).alloc (Nat.le_refl _) (.cells #[.int .i64 g, .int .i64 o, .slice A n cap] 24))
  have HP := Lib.hid (places_free g o A cap n xs (w.alloc (.cells #[.int .i64 g, .int .i64 o, .slice A n cap] 24)) hn hc (hA.below HB0.out))
  generalize (if Tb.right ⟨g, o, xs⟩ = true then Tb.free xs else []) = l at *
  clear hA hn
  unfold MadeI at *
  go_enter Tryd.func20, Tryd.ntmps20
  go_wp2_with fail
  refine HP.out.mono ?_
  rintro e w1 ⟨v, rfl, hown, d1⟩
  have HO := Lib.hid (own_base (B' := w.heap.size) hown (by simp))
  have HB := Lib.hid (HB0.out.trans (d1.mono HB0.out.size))
  clear hown d1
  go_wp2
  go_ret
  exact ⟨v, rfl, HO.out, HB.out⟩
end Go.Proofs.YtbjaieopjkbijaaDoor
