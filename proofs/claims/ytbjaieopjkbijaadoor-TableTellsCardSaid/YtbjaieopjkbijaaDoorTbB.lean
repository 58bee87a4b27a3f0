/-
  Layer 9: slices.ContainsFunc with wrong and with apart's question; apart, rightOpen, Right: what they answer, of any tables. Assumed: that the extents lie in memory.
-/
import Derived.Test.YtbjaieopjkbijaaDoorTbA

namespace Go.Proofs.YtbjaieopjkbijaaDoor
open Go.RowKit
set_option maxRecDepth 100000

set_option maxHeartbeats 1000000 in
theorem index_wrong (A : Option Addr) (cap n : Nat) (xs : List Tb.Ext) (w : World) (hn : xs.length = n) (hm : n ≤ 8) (hA : Lies w A (flatX xs)) :
    Calls Tryd.prog 48 #[.slice A n cap, .func (.func 32) #[] #[]] w fun e w' => ∃ r : Int, e = .returned (.int .i64 r) ∧ (decide (0 ≤ r) = xs.any fun x => !Tb.okE x) ∧ Below w.heap.size w w' := by
  have HA := Lib.hid hA
  have HN := Lib.hid hn
  clear hA hn
  go_enter Tryd.func48, Tryd.ntmps48
  go_wp2_with fail
  go_loopw [8] (fun vi wr => ∃ i : Nat, vi = .int .i64 i ∧ i ≤ n ∧ (xs.take i).any (fun x => !Tb.okE x) = false ∧ Below w.heap.size w wr) (fun vi _ => n - (intOf vi).toNat)
  case atStart => exact ⟨0, rfl, by omega, by simp, Below.refl _ _⟩
  case round =>
    obtain ⟨i, rfl, hi, hno, hbr⟩ := hrel
    have HNO := Lib.hid hno
    clear hno
    by_cases hin : i < n
    · have hil : i < xs.length := by have := HN.out; omega
      obtain ⟨ad, rfl, hadb, hc⟩ := at_ext HA.out i hil
      obtain ⟨x0, x1⟩ := hc wr hbr
      have HS := Lib.hid (show (xs.take (i + 1)).any (fun x => !Tb.okE x) = (fun x : Tb.Ext => !Tb.okE x) xs[i] by rw [List.take_succ_eq_append_getElem hil, List.any_append, HNO.out]; simp)
      have HAN := Lib.hid (show (fun x : Tb.Ext => !Tb.okE x) xs[i] = true → xs.any (fun x => !Tb.okE x) = true from fun h => List.any_eq_true.2 ⟨xs[i], List.getElem_mem hil, h⟩)
      clear hc
      generalize xs[i] = x at *
      obtain ⟨xq, xl⟩ := x
      have y0 : wr.cell? (ad.add (i * 2)) = some (.int .i64 xq) := x0
      have y1 : wr.cell? ⟨(ad.add (i * 2)).block, (ad.add (i * 2)).off + 1, none⟩ = some (.int .i64 xl) := x1
      have HIN := Lib.hid (show i + 1 ≤ n by omega)
      clear x0 x1
      have HW := Lib.hid (fun (W : World) => wrong_any ⟨xq, xl⟩ W)
      obtain ⟨B, hB⟩ : ∃ B, (!Tb.okE ⟨xq, xl⟩) = B := ⟨_, rfl⟩
      simp only [hB] at HS HAN HW
      clear hB
      go_wp2_with fail
      refine (HW.out wr).mono ?_
      rintro e w1 ⟨rfl, d1⟩
      have HB2 := Lib.hid (hbr.trans (d1.mono hbr.size))
      clear y0 y1 d1
      rcases B with _ | _
      · go_wp2
        go_roundw
        case rel => exact ⟨i + 1, by go_num, HIN.out, HS.out, HB2.out⟩
        case measure => have := HIN.out; simp [intOf]; omega
      · go_wp2
        go_ret
        exact ⟨(i : Int), rfl, by rw [HAN.out (by first | rfl | trivial), decide_eq_true (by omega)], HB2.out⟩
    · obtain rfl : i = n := by omega
      have HAL := Lib.hid (show xs.any (fun x => !Tb.okE x) = false by have := HNO.out; rwa [← HN.out, List.take_length] at this)
      go_wp2
      go_ret
      exact ⟨-1, rfl, by rw [HAL.out]; rfl, hbr⟩

theorem contains_wrong (A : Option Addr) (cap n : Nat) (xs : List Tb.Ext) (w : World) (hn : xs.length = n) (hm : n ≤ 8) (hA : Lies w A (flatX xs)) :
    Calls Tryd.prog 31 #[.slice A n cap, .func (.func 32) #[] #[]] w fun e w' => e = .returned (.bool (xs.any fun x => !Tb.okE x)) ∧ Below w.heap.size w w' := by
  have HI := Lib.hid (index_wrong A cap n xs w hn hm hA)
  clear hA hn
  go_enter Tryd.func31, Tryd.ntmps31
  go_wp2_with fail
  refine HI.out.mono ?_
  rintro e w1 ⟨r, rfl, hr, hb⟩
  have HR := Lib.hid hr
  have HB := Lib.hid hb
  clear hr hb HI
  by_cases h0 : 0 ≤ r
  · have HD := Lib.hid (show decide (0 ≤ r) = true from decide_eq_true h0)
    go_wp2
    go_ret
    exact ⟨by rw [← HR.out]; first | rfl | simp [h0] | (rw [HD.out]), HB.out⟩
  · have HD := Lib.hid (show decide (0 ≤ r) = false from decide_eq_false h0)
    go_wp2
    go_ret
    exact ⟨by rw [← HR.out]; first | rfl | simp [h0] | (rw [HD.out]), HB.out⟩

/-- apart's question -/
theorem same_any (g : Nat) (q : Int) (x : Tb.Ext) (w : World) (hc : w.cell? ⟨g, 0, none⟩ = some (.int .i64 q)) (hg : g < w.heap.size) : Calls Tryd.prog 49 #[exV x, .pointer (some ⟨g, 0, none⟩)] w fun e w' => e = .returned (.bool (decide (x.q = q))) ∧ Below w.heap.size w w' := by
  obtain ⟨xq, xl⟩ := x
  have hc2 := (World.cell?_alloc_lt w (.cells #[.int .i64 xq, .int .i64 xl] 39) (⟨g, 0, none⟩ : Addr) hg).trans hc
  have HB := Lib.hid ((Below.refl w.heap.size w).alloc (Nat.le_refl _) (.cells #[.int .i64 xq, .int .i64 xl] 39))
  clear hc
  by_cases h : xq = q
  · have HD := Lib.hid (show decide (xq = q) = true from decide_eq_true h)
    have hb : (xq == q) = true := by simpa using h
    clear h
    simp only [HD.out]
    go_enter Tryd.func49, Tryd.ntmps49
    go_wp2
    go_ret
    exact ⟨by simp, HB.out⟩
  · have HD := Lib.hid (show decide (xq = q) = false from decide_eq_false h)
    have hb : (xq == q) = false := by simpa using h
    clear h
    simp only [HD.out]
    go_enter Tryd.func49, Tryd.ntmps49
    go_wp2
    go_ret
    exact ⟨by simp, HB.out⟩

set_option maxHeartbeats 1000000 in
theorem index_same (g : Nat) (q : Int) (A : Option Addr) (cap n : Nat) (xs : List Tb.Ext) (w : World) (hn : xs.length = n) (hm : n ≤ 8) (hA : Lies w A (flatX xs)) (hc : w.cell? ⟨g, 0, none⟩ = some (.int .i64 q)) (hg : g < w.heap.size) :
    Calls Tryd.prog 48 #[.slice A n cap, .func (.func 49) #[] #[.pointer (some ⟨g, 0, none⟩)]] w fun e w' => ∃ r : Int, e = .returned (.int .i64 r) ∧ (decide (0 ≤ r) = xs.any fun x => decide (x.q = q)) ∧ Below w.heap.size w w' := by
  have HA := Lib.hid hA
  have HN := Lib.hid hn
  have HC := Lib.hid hc
  have HG := Lib.hid hg
  clear hc hg
  clear hA hn
  go_enter Tryd.func48, Tryd.ntmps48
  go_wp2_with fail
  go_loopw [8] (fun vi wr => ∃ i : Nat, vi = .int .i64 i ∧ i ≤ n ∧ (xs.take i).any (fun x => decide (x.q = q)) = false ∧ Below w.heap.size w wr) (fun vi _ => n - (intOf vi).toNat)
  case atStart => exact ⟨0, rfl, by omega, by simp, Below.refl _ _⟩
  case round =>
    obtain ⟨i, rfl, hi, hno, hbr⟩ := hrel
    have HNO := Lib.hid hno
    clear hno
    by_cases hin : i < n
    · have hil : i < xs.length := by have := HN.out; omega
      obtain ⟨ad, rfl, hadb, hc⟩ := at_ext HA.out i hil
      obtain ⟨x0, x1⟩ := hc wr hbr
      have HS := Lib.hid (show (xs.take (i + 1)).any (fun x => decide (x.q = q)) = (fun x : Tb.Ext => decide (x.q = q)) xs[i] by rw [List.take_succ_eq_append_getElem hil, List.any_append, HNO.out]; simp)
      have HAN := Lib.hid (show (fun x : Tb.Ext => decide (x.q = q)) xs[i] = true → xs.any (fun x => decide (x.q = q)) = true from fun h => List.any_eq_true.2 ⟨xs[i], List.getElem_mem hil, h⟩)
      clear hc
      generalize xs[i] = x at *
      obtain ⟨xq, xl⟩ := x
      have y0 : wr.cell? (ad.add (i * 2)) = some (.int .i64 xq) := x0
      have y1 : wr.cell? ⟨(ad.add (i * 2)).block, (ad.add (i * 2)).off + 1, none⟩ = some (.int .i64 xl) := x1
      have HIN := Lib.hid (show i + 1 ≤ n by omega)
      clear x0 x1
      have HW := Lib.hid (fun (W : World) (hc : W.cell? ⟨g, 0, none⟩ = some (.int .i64 q)) (hg : g < W.heap.size) => same_any g q ⟨xq, xl⟩ W hc hg)
      have hgc := (hbr.cell (p := ⟨g, 0, none⟩) HG.out).trans HC.out
      have HGC := Lib.hid hgc
      have HGL := Lib.hid (Nat.lt_of_lt_of_le HG.out hbr.size)
      clear hgc
      obtain ⟨B, hB⟩ : ∃ B, decide (xq = q) = B := ⟨_, rfl⟩
      simp only [hB] at HS HAN HW
      clear hB
      go_wp2_with fail
      refine (HW.out wr HGC.out HGL.out).mono ?_
      rintro e w1 ⟨rfl, d1⟩
      have HB2 := Lib.hid (hbr.trans (d1.mono hbr.size))
      clear y0 y1 d1
      rcases B with _ | _
      · go_wp2
        go_roundw
        case rel => exact ⟨i + 1, by go_num, HIN.out, HS.out, HB2.out⟩
        case measure => have := HIN.out; simp [intOf]; omega
      · go_wp2
        go_ret
        exact ⟨(i : Int), rfl, by rw [HAN.out (by first | rfl | trivial), decide_eq_true (by omega)], HB2.out⟩
    · obtain rfl : i = n := by omega
      have HAL := Lib.hid (show xs.any (fun x => decide (x.q = q)) = false by have := HNO.out; rwa [← HN.out, List.take_length] at this)
      go_wp2
      go_ret
      exact ⟨-1, rfl, by rw [HAL.out]; rfl, hbr⟩

theorem contains_same (g : Nat) (q : Int) (A : Option Addr) (cap n : Nat) (xs : List Tb.Ext) (w : World) (hn : xs.length = n) (hm : n ≤ 8) (hA : Lies w A (flatX xs)) (hc : w.cell? ⟨g, 0, none⟩ = some (.int .i64 q)) (hg : g < w.heap.size) :
    Calls Tryd.prog 31 #[.slice A n cap, .func (.func 49) #[] #[.pointer (some ⟨g, 0, none⟩)]] w fun e w' => e = .returned (.bool (xs.any fun x => decide (x.q = q))) ∧ Below w.heap.size w w' := by
  have HI := Lib.hid (index_same g q A cap n xs w hn hm hA hc hg)
  clear hA hn
  go_enter Tryd.func31, Tryd.ntmps31
  go_wp2_with fail
  refine HI.out.mono ?_
  rintro e w1 ⟨r, rfl, hr, hb⟩
  have HR := Lib.hid hr
  have HB := Lib.hid hb
  clear hr hb HI
  by_cases h0 : 0 ≤ r
  · have HD := Lib.hid (show decide (0 ≤ r) = true from decide_eq_true h0)
    go_wp2
    go_ret
    exact ⟨by rw [← HR.out]; first | rfl | simp [h0] | (rw [HD.out]), HB.out⟩
  · have HD := Lib.hid (show decide (0 ≤ r) = false from decide_eq_false h0)
    go_wp2
    go_ret
    exact ⟨by rw [← HR.out]; first | rfl | simp [h0] | (rw [HD.out]), HB.out⟩

end Go.Proofs.YtbjaieopjkbijaaDoor
