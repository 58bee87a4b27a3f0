/-
  Layer 9, the document's answer: its Free and Last: what they answer, of any table. Assumed: that the extents lie in memory.
-/
import Derived.Test.YtbjaieopjkbijaaDoorRr9

namespace Go.Proofs.YtbjaieopjkbijaaDoor
open Go.RowKit
set_option maxRecDepth 100000

set_option maxHeartbeats 2000000 in
theorem rfree9_any (g o : Int) (A : Option Addr) (cap n : Nat) (xs : List Tb.Ext) (w : World) (hn : xs.length = n) (hA : Lies w A (flatX xs)) :
    Calls Tryd.prog 21 #[tabV g o A n cap] w (MadeI w (if Tb.right ⟨g, o, xs⟩ = true then Tb.free xs else [])) := by
  unfold MadeI
  obtain ⟨i0, hi, hz0, hz1, hz2⟩ := info_parts infoInt
  have HX0 := Lib.hid (Blk.new w #[.int .i64 g, .int .i64 o, .slice A n cap] 24)
  have HB0 := Lib.hid ((Below.refl w.heap.size w).alloc (Nat.le_refl _) (.cells #[.int .i64 g, .int .i64 o, .slice A n cap] 24))
  have HA0 := Lib.hid (hA.below HB0.out)
  have HN := Lib.hid hn
  have HN8 := Lib.hid (show Tb.right ⟨g, o, xs⟩ = true → n ≤ 8 from fun h => by have := (Tb.right_iff.1 h).n2; simp only at this; omega)
  have HRR := Lib.hid (fun (W : World) (hA : Lies W A (flatX xs)) => rright9_any g o A cap n xs W hn hA)
  clear hA hn
  by_cases hr : Tb.right ⟨g, o, xs⟩ = true
  rotate_left
  · have hrf : Tb.right ⟨g, o, xs⟩ = false := by simpa using hr
    rw [if_neg hr]
    rw [hrf] at HRR
    clear hr hrf
    go_enter Tryd.func21, Tryd.ntmps21
    go_wp2_with fail
    generalize w.alloc (.cells #[.int .i64 g, .int .i64 o, .slice A n cap] 24) = w0 at *
    obtain ⟨z0, z1, z2⟩ := HX0.out.three
    refine wp_loop_rounds 1 ?_
    rw [rounds_succ]
    rcases Nat.eq_zero_or_pos n with h0 | h0
    · subst h0
      go_wp2
      go_ret
      exact ⟨_, rfl, World.ownsRow_nil _ _ _ 1, HB0.out⟩
    · go_wp2_with fail
      refine (HRR.out w0 HA0.out).mono ?_
      rintro e w1 ⟨rfl, d1⟩
      have HB1 := Lib.hid (HB0.out.trans (d1.mono HB0.out.size))
      clear d1 z0 z1 z2
      go_wp2
      go_ret
      exact ⟨_, rfl, World.ownsRow_nil _ _ _ 1, HB1.out⟩
  rw [if_pos hr]
  rw [hr] at HRR
  have hn8 := HN8.out hr
  clear hr
  go_enter Tryd.func21, Tryd.ntmps21
  go_wp2_with fail
  generalize w.alloc (.cells #[.int .i64 g, .int .i64 o, .slice A n cap] 24) = w0 at *
  go_loopw [3, 4] (fun vo vi wr => ∃ i : Nat, vi = .int .i64 i ∧ i ≤ n ∧ wr.ownsRow w0.heap.size 3 1 vo ((List.range i).filter (fun k => decide (Tb.qAt xs k = 0))).length (nums ((List.range i).filter (fun k => decide (Tb.qAt xs k = 0)))) ∧ Below w0.heap.size w0 wr) (fun _ vi _ => n - (intOf vi).toNat)
  case atStart => exact ⟨0, rfl, by omega, World.ownsRow_nil _ _ _ 1, Below.refl _ _⟩
  case round =>
    obtain ⟨i, rfl, hin2, hown, hbr⟩ := hrel
    have HOW := Lib.hid hown
    have HXR := Lib.hid (HX0.out.below hbr (Nat.le_refl _))
    have HBR := Lib.hid (HB0.out.trans (hbr.mono HB0.out.size))
    obtain ⟨z0, z1, z2⟩ := HXR.out.three
    clear hown
    by_cases hin : i < n
    · have hil : i < xs.length := by have := HN.out; omega
      obtain ⟨ad, rfl, hadb, hcx⟩ := at_ext HA0.out i hil
      have HS := Lib.hid (show (List.range (i + 1)).filter (fun k => decide (Tb.qAt xs k = 0)) = (List.range i).filter (fun k => decide (Tb.qAt xs k = 0)) ++ if decide (Tb.qAt xs i = 0) = true then [i] else [] by
        rw [List.range_succ, List.filter_append, List.filter_cons, List.filter_nil])
      have HQ := Lib.hid (Tb.qAt_eq hil)
      rw [HQ.out] at HS
      have HLL := Lib.hid (show ((List.range i).filter (fun k => decide (Tb.qAt xs k = 0))).length ≤ 8 from Nat.le_trans (List.length_filter_le _ _) (by rw [List.length_range]; omega))
      have HIN := Lib.hid (show i + 1 ≤ n by omega)
      have HCX := Lib.hid hcx
      obtain ⟨M, hM⟩ : ∃ M, (List.range i).filter (fun k => decide (Tb.qAt xs k = 0)) = M := ⟨_, rfl⟩
      obtain ⟨M2, hM2⟩ : ∃ M2, (List.range (i + 1)).filter (fun k => decide (Tb.qAt xs k = 0)) = M2 := ⟨_, rfl⟩
      rw [hM] at HOW HS HLL
      rw [hM2] at HS
      have HM2 := Lib.hid hM2
      clear hM hM2 hcx
      go_wp2_with fail
      refine (HRR.out wr (HA0.out.below hbr)).mono ?_
      rintro e w1 ⟨rfl, d1⟩
      have HO1 := Lib.hid (row_keep HOW.out d1)
      have HB1 := Lib.hid (hbr.trans (d1.mono hbr.size))
      have HBZ := Lib.hid (HBR.out.trans (d1.mono HBR.out.size))
      obtain ⟨y0, y1⟩ := HCX.out w1 HB1.out
      have z2' : w1.cell? ⟨w.heap.size, 2, none⟩ = some (.slice (some ad) n cap) := (HXR.out.below d1 (Nat.le_refl _)).cell 2
      clear d1 z0 z1 z2 y1
      generalize xs[i].q = xq at *
      by_cases hq : xq = 0
      · have hd : (xq == 0) = true := by simp [hq]
        have HS2 := Lib.hid (show M2 = M ++ [i] by rw [HS.out]; simp [hq])
        clear hq
        have hlen := HLL.out
        go_wp2_with (at_builtin; refine wpList_appK rfl _ _ 32 rfl w0.heap.size 3 i0 (.int .i64 0) 1 8 Tryd.underlying32 hi hz0 hz1 hz2 rfl (by omega) _ M.length (nums M) rfl ?a1 (some ⟨w1.heap.size, 0, none⟩) 1 1 [.int .i64 (i : Int)] rfl rfl ?a2 ?a3 ?a4 ?a5 ?a6 ?a7)
        case a1 => exact HO1.out.alloc _
        case a2 => exact Lies.new w1 #[.int .i64 (i : Int)] 3
        case a3 => simp [Value.oneCell']
        case a4 => unfold maxLen; omega
        case a5 => omega
        case a6 => have := HB1.out.size; simp; omega
        case a7 =>
          intro v3 w3 hown3 hg3 _
          have HB3 := Lib.hid ((HB1.out.alloc HB1.out.size (.cells #[.int .i64 (i : Int)] 3)).grown hg3 (by have := HB1.out.size; simp; omega) (fun g hg => (HO1.out.lt g hg).1))
          have HO3 := Lib.hid (show w3.ownsRow w0.heap.size 3 1 v3 M2.length (nums M2) by
            rw [HS2.out, List.length_append]
            simpa [nums] using hown3)
          clear hown3 hg3
          go_wp2
          go_roundw
          case rel => exact ⟨i + 1, by go_num, HIN.out, by rw [HM2.out]; exact HO3.out, HB3.out⟩
          case measure => have := HIN.out; first | omega | (simp [intOf]; omega)
      · have hd : (xq == 0) = false := by simp [hq]
        have HS2 := Lib.hid (show M2 = M by rw [HS.out]; simp [hq])
        clear hq
        go_wp2
        go_roundw
        case rel => exact ⟨i + 1, by go_num, HIN.out, by rw [HM2.out, HS2.out]; exact HO1.out, HB1.out⟩
        case measure => have := HIN.out; first | omega | (simp [intOf]; omega)
    · obtain rfl : i = n := by omega
      have HE := Lib.hid (show (List.range i).filter (fun k => decide (Tb.qAt xs k = 0)) = Tb.free xs by unfold Tb.free; rw [HN.out])
      rw [HE.out] at HOW
      have HOZ := Lib.hid (own_base (B' := w.heap.size) HOW.out HB0.out.size)
      go_wp2
      go_ret
      exact ⟨_, rfl, HOZ.out, HBR.out⟩

theorem max_at (a b : Int) (W : World) : (Builtin.max_ #[2, 2] 2 #[.int .i64 a, .int .i64 b]).run Tryd.prog W = .ok (.int .i64 (max a b)) W := by
  rcases Int.lt_or_le a b with h | h
  · have e : max a b = b := by omega
    rw [e]
    simp [Builtin.max_, Builtin.max2, go_sem]
    omega
  · have e : max a b = a := by omega
    rw [e]
    simp [Builtin.max_, Builtin.max2, go_sem]
    omega
set_option maxHeartbeats 2000000 in
theorem rlast9_any (g o : Int) (A : Option Addr) (cap n : Nat) (xs : List Tb.Ext) (w : World) (hn : xs.length = n) (hA : Lies w A (flatX xs)) :
    Calls Tryd.prog 23 #[tabV g o A n cap] w fun e w' => e = .returned (.int .i64 (if Tb.right ⟨g, o, xs⟩ = true then Tb.last xs else 0)) ∧ Below w.heap.size w w' := by
  have HX0 := Lib.hid (Blk.new w #[.int .i64 g, .int .i64 o, .slice A n cap] 24)
  have HB0 := Lib.hid ((Below.refl w.heap.size w).alloc (Nat.le_refl _) (.cells #[.int .i64 g, .int .i64 o, .slice A n cap] 24))
  have HA0 := Lib.hid (hA.below HB0.out)
  have HN := Lib.hid hn
  have HN8 := Lib.hid (show Tb.right ⟨g, o, xs⟩ = true → n ≤ 8 from fun h => by have := (Tb.right_iff.1 h).n2; simp only at this; omega)
  have HRR := Lib.hid (fun (W : World) (hA : Lies W A (flatX xs)) => rright9_any g o A cap n xs W hn hA)
  clear hA hn
  by_cases hr : Tb.right ⟨g, o, xs⟩ = true
  rotate_left
  · have hrf : Tb.right ⟨g, o, xs⟩ = false := by simpa using hr
    rw [if_neg hr]
    rw [hrf] at HRR
    clear hr hrf
    go_enter Tryd.func23, Tryd.ntmps23
    go_wp2_with fail
    generalize w.alloc (.cells #[.int .i64 g, .int .i64 o, .slice A n cap] 24) = w0 at *
    obtain ⟨z0, z1, z2⟩ := HX0.out.three
    refine wp_loop_rounds 1 ?_
    rw [rounds_succ]
    rcases Nat.eq_zero_or_pos n with h0 | h0
    · subst h0
      go_wp2
      go_ret
      exact ⟨rfl, HB0.out⟩
    · go_wp2_with fail
      refine (HRR.out w0 HA0.out).mono ?_
      rintro e w1 ⟨rfl, d1⟩
      have HB1 := Lib.hid (HB0.out.trans (d1.mono HB0.out.size))
      clear d1 z0 z1 z2
      go_wp2
      go_ret
      exact ⟨rfl, HB1.out⟩
  rw [if_pos hr]
  rw [hr] at HRR
  have hn8 := HN8.out hr
  clear hr
  go_enter Tryd.func23, Tryd.ntmps23
  go_wp2_with fail
  generalize w.alloc (.cells #[.int .i64 g, .int .i64 o, .slice A n cap] 24) = w0 at *
  go_loopw [3, 4] (fun vo vi wr => ∃ i : Nat, vi = .int .i64 i ∧ i ≤ n ∧ vo = .int .i64 (Tb.last (xs.take i)) ∧ Below w0.heap.size w0 wr) (fun _ vi _ => n - (intOf vi).toNat)
  case atStart => exact ⟨0, rfl, by omega, rfl, Below.refl _ _⟩
  case round =>
    obtain ⟨i, rfl, hin2, rfl, hbr⟩ := hrel
    have HXR := Lib.hid (HX0.out.below hbr (Nat.le_refl _))
    have HBR := Lib.hid (HB0.out.trans (hbr.mono HB0.out.size))
    obtain ⟨z0, z1, z2⟩ := HXR.out.three
    by_cases hin : i < n
    · have hil : i < xs.length := by have := HN.out; omega
      obtain ⟨ad, rfl, hadb, hcx⟩ := at_ext HA0.out i hil
      have HS := Lib.hid (show Tb.last (xs.take (i + 1)) = max (Tb.last (xs.take i)) xs[i].q by unfold Tb.last; rw [List.take_succ_eq_append_getElem hil, List.foldl_append]; rfl)
      have HIN := Lib.hid (show i + 1 ≤ n by omega)
      have HCX := Lib.hid hcx
      clear hcx
      have hmax := max_at (Tb.last (xs.take i)) xs[i].q
      go_wp2_with fail
      refine (HRR.out wr (HA0.out.below hbr)).mono ?_
      rintro e w1 ⟨rfl, d1⟩
      have HB1 := Lib.hid (hbr.trans (d1.mono hbr.size))
      obtain ⟨y0, y1⟩ := HCX.out w1 HB1.out
      have z2' : w1.cell? ⟨w.heap.size, 2, none⟩ = some (.slice (some ad) n cap) := (HXR.out.below d1 (Nat.le_refl _)).cell 2
      clear d1 z0 z1 z2 y1
      generalize xs[i].q = xq at *
      generalize Tb.last (xs.take i) = lst at *
      go_wp2
      go_roundw
      case rel => exact ⟨i + 1, by go_num, HIN.out, by rw [HS.out], HB1.out⟩
      case measure => have := HIN.out; first | omega | (simp [intOf]; omega)
    · obtain rfl : i = n := by omega
      have HE := Lib.hid (show Tb.last (xs.take i) = Tb.last xs by rw [← HN.out, List.take_length])
      rw [HE.out]
      go_wp2
      go_ret
      exact ⟨rfl, HBR.out⟩
end Go.Proofs.YtbjaieopjkbijaaDoor
