/-
  TbA: Layer 9: tables and extents in memory; what table's small functions answer: within, wrong, slices.ContainsFunc with wrong and with apart's, apart, rightOpen, Right. Assumed: that the extents lie in memory.
  TbB: Layer 9: slices.ContainsFunc with wrong and with apart's question; apart, rightOpen, Right: what they answer, of any tables. Assumed: that the extents lie in memory.
  TbC: Layer 9: apart, rightOpen, Right: what they answer, of any tables. Assumed: that the extents lie in memory.
  TbR: Layer 9: table.Right: what it answers, of any table. Assumed: that the extents lie in memory.
-/
import Derived.Test.YtehnhjnkbclnlaaGreatDoorMath9
import Derived.Test.YtehnhjnkbclnlaaGreatDoorCel

namespace Go.Proofs.YtehnhjnkbclnlaaGreatDoor
open Go.RowKit
set_option maxRecDepth 100000

/-- an extent as a value, and as cells; a table as a value -/
abbrev exV (x : Tb.Ext) : Value := .agg #[.int .i64 x.q, .int .i64 x.l]
def exCells (x : Tb.Ext) : List Value := [.int .i64 x.q, .int .i64 x.l]
abbrev tabV (g o : Int) (A : Option Addr) (n cap : Nat) : Value := .agg #[.int .i64 g, .int .i64 o, .slice A n cap]
theorem exCells_length (x : Tb.Ext) : (exCells x).length = 2 := rfl
def flatX (xs : List Tb.Ext) : List Value := xs.flatMap exCells
theorem flatX_length (xs : List Tb.Ext) : (flatX xs).length = xs.length * 2 := by
  induction xs with
  | nil => rfl
  | cons x xs ih => simp only [flatX, List.flatMap_cons, List.length_append, List.length_cons, exCells_length] at ih ⊢; omega
theorem flatX_append (xs ys : List Tb.Ext) : flatX (xs ++ ys) = flatX xs ++ flatX ys := by simp [flatX]
theorem flatX_at (xs : List Tb.Ext) (i j : Nat) (x : Tb.Ext) (h : xs[i]? = some x) (hj : j < 2) : (flatX xs)[i * 2 + j]? = (exCells x)[j]? := by
  induction xs generalizing i with
  | nil => simp at h
  | cons y ys ih =>
    cases i with
    | zero =>
      simp only [List.getElem?_cons_zero, Option.some.injEq] at h
      subst h
      simp only [flatX, List.flatMap_cons]
      rw [List.getElem?_append_left (by rw [exCells_length]; omega)]
      simp
    | succ i =>
      have := ih i (by simpa using h)
      simp only [flatX, List.flatMap_cons] at this ⊢
      rw [List.getElem?_append_right (by rw [exCells_length]; omega), exCells_length, show (i + 1) * 2 + j - 2 = i * 2 + j by omega]
      exact this
theorem flatX_one (xs : List Tb.Ext) : ∀ u ∈ flatX xs, u.oneCell' = true := by
  intro u hu
  obtain ⟨x, _, hx⟩ := List.mem_flatMap.1 hu
  simp only [exCells, List.mem_cons, List.not_mem_nil, or_false] at hx
  rcases hx with rfl | rfl <;> rfl
theorem flatX_take (xs : List Tb.Ext) (k : Nat) : (flatX xs).take (k * 2) = flatX (xs.take k) := by
  induction xs generalizing k with
  | nil => simp [flatX]
  | cons x xs ih =>
    cases k with
    | zero => simp [flatX]
    | succ k =>
      have e : flatX (x :: xs) = exCells x ++ flatX xs := rfl
      rw [e, List.take_succ_cons, show (k + 1) * 2 = (exCells x).length + k * 2 by rw [exCells_length]; omega, List.take_length_add_append, ih k]
      rfl
theorem at_ext {w : World} {A : Option Addr} {l : List Tb.Ext} (h : Lies w A (flatX l)) (k : Nat) (hk : k < l.length) :
    ∃ ad, A = some ad ∧ ad.block < w.heap.size ∧ ∀ u, Below w.heap.size w u → u.cell? (ad.add (k * 2)) = some (.int .i64 l[k].q) ∧ u.cell? ⟨(ad.add (k * 2)).block, (ad.add (k * 2)).off + 1, none⟩ = some (.int .i64 l[k].l) := by
  obtain ⟨ad, rfl, hadb, -⟩ := h.at_ (k := k * 2) (by rw [flatX_length]; omega)
  refine ⟨ad, rfl, hadb, ?_⟩
  have hc2 : ∀ j u, (exCells l[k])[j]? = some u → w.cell? ((ad.add (k * 2)).add j) = some u := fun j u hu => by
    have hj : j < 2 := by
      rcases Nat.lt_or_ge j 2 with h | h
      · exact h
      · rw [List.getElem?_eq_none (by rw [exCells_length]; exact h)] at hu; cases hu
    have hf := flatX_at l k j l[k] (List.getElem?_eq_getElem hk) hj
    rw [hu] at hf
    rw [addr_add]
    rcases h with h | ⟨ad', e, _, hc⟩
    · rw [h] at hf; simp at hf
    · injection e with e; subst e; exact hc _ _ hf
  have hpb : (ad.add (k * 2)).block < w.heap.size := by rw [addr_block]; exact hadb
  exact fun u hu => ⟨(hu.cell hpb).trans (hc2 0 _ rfl), (hu.cell (p := ⟨(ad.add (k * 2)).block, (ad.add (k * 2)).off + 1, none⟩) hpb).trans (hc2 1 _ rfl)⟩

theorem withinI_any (n a b : Int) (r : Bool) (h : decide (a ≤ n ∧ n ≤ b) = r) (w : World) : Calls Tryz.prog 49 #[.int .i64 n, .int .i64 a, .int .i64 b] w fun e w' => e = .returned (.bool r) ∧ w = w' := by
  have HR := Lib.hid h
  clear h
  by_cases h1 : a ≤ n
  · by_cases h2 : n ≤ b
    · go_enter Tryz.func49, Tryz.ntmps49
      go_wp2
      go_ret
      exact ⟨by rw [← HR.out, decide_eq_true (by omega)]; rfl, rfl⟩
    · go_enter Tryz.func49, Tryz.ntmps49
      go_wp2
      go_ret
      exact ⟨by rw [← HR.out, decide_eq_false (by omega)]; rfl, rfl⟩
  · go_enter Tryz.func49, Tryz.ntmps49
    go_wp2
    go_ret
    exact ⟨by rw [← HR.out, decide_eq_false (by omega)]; rfl, rfl⟩
theorem withinL_any (n a b : Int) (r : Bool) (h : decide (a ≤ n ∧ n ≤ b) = r) (w : World) : Calls Tryz.prog 48 #[.int .i64 n, .int .i64 a, .int .i64 b] w fun e w' => e = .returned (.bool r) ∧ w = w' := by
  have HR := Lib.hid h
  clear h
  by_cases h1 : a ≤ n
  · by_cases h2 : n ≤ b
    · go_enter Tryz.func48, Tryz.ntmps48
      go_wp2
      go_ret
      exact ⟨by rw [← HR.out, decide_eq_true (by omega)]; rfl, rfl⟩
    · go_enter Tryz.func48, Tryz.ntmps48
      go_wp2
      go_ret
      exact ⟨by rw [← HR.out, decide_eq_false (by omega)]; rfl, rfl⟩
  · go_enter Tryz.func48, Tryz.ntmps48
    go_wp2
    go_ret
    exact ⟨by rw [← HR.out, decide_eq_false (by omega)]; rfl, rfl⟩

set_option maxHeartbeats 1000000 in
theorem wrong_any (x : Tb.Ext) (w : World) : Calls Tryz.prog 51 #[exV x] w fun e w' => e = .returned (.bool (!Tb.okE x)) ∧ Below w.heap.size w w' := by
  obtain ⟨q, l⟩ := x
  have HQ := Lib.hid (show Tb.okE ⟨q, l⟩ = ((decide ((0 : Int) ≤ q ∧ q ≤ 2147483648) && decide ((0 : Int) ≤ l ∧ l ≤ 3776)) && !(decide (q = 0) && !decide (l = 0))) by unfold Tb.okE; simp only [Bool.decide_and])
  have H1 := Lib.hid (fun (r : Bool) (h : decide ((0 : Int) ≤ q ∧ q ≤ 2147483648) = r) (W : World) => withinL_any q 0 2147483648 r h W)
  have H2 := Lib.hid (fun (r : Bool) (h : decide ((0 : Int) ≤ l ∧ l ≤ 3776) = r) (W : World) => withinI_any l 0 3776 r h W)
  have HB := Lib.hid ((Below.refl w.heap.size w).alloc (Nat.le_refl _) (.cells #[.int .i64 q, .int .i64 l] 81))
  generalize Tb.okE ⟨q, l⟩ = R at *
  generalize decide ((0 : Int) ≤ q ∧ q ≤ 2147483648) = b1 at *
  generalize decide ((0 : Int) ≤ l ∧ l ≤ 3776) = b2 at *
  go_enter Tryz.func51, Tryz.ntmps51
  go_wp2_with fail
  refine (H1.out b1 rfl _).mono ?_
  rintro e w1 ⟨rfl, rfl⟩
  rcases b1 with _ | _
  · go_wp2
    go_ret
    exact ⟨by rw [HQ.out]; rfl, HB.out⟩
  go_wp2_with fail
  refine (H2.out b2 rfl _).mono ?_
  rintro e w1 ⟨rfl, rfl⟩
  rcases b2 with _ | _
  · go_wp2
    go_ret
    exact ⟨by rw [HQ.out]; rfl, HB.out⟩
  by_cases hq : q = 0
  · have hqb : (q == 0) = true := by simpa using hq
    by_cases hl : l = 0
    · have hlb : (l != 0) = false := by simpa using hl
      have HZ := Lib.hid (show R = true by rw [HQ.out, hq, hl]; rfl)
      clear hq hl HQ
      go_wp2
      go_ret
      exact ⟨by rw [HZ.out]; rfl, HB.out⟩
    · have hlb : (l != 0) = true := by simpa using hl
      have HZ := Lib.hid (show R = false by rw [HQ.out, decide_eq_true hq, decide_eq_false hl]; rfl)
      clear hq hl HQ
      go_wp2
      go_ret
      exact ⟨by rw [HZ.out]; rfl, HB.out⟩
  · have hqb : (q == 0) = false := by simpa using hq
    have HZ := Lib.hid (show R = true by rw [HQ.out, decide_eq_false hq]; rfl)
    clear hq HQ
    go_wp2
    go_ret
    exact ⟨by rw [HZ.out]; rfl, HB.out⟩
end Go.Proofs.YtehnhjnkbclnlaaGreatDoor

namespace Go.Proofs.YtehnhjnkbclnlaaGreatDoor
open Go.RowKit
set_option maxRecDepth 100000

set_option maxHeartbeats 1000000 in
theorem index_wrong (A : Option Addr) (cap n : Nat) (xs : List Tb.Ext) (w : World) (hn : xs.length = n) (hm : n ≤ 8) (hA : Lies w A (flatX xs)) :
    Calls Tryz.prog 65 #[.slice A n cap, .func (.func 51) #[] #[]] w fun e w' => ∃ r : Int, e = .returned (.int .i64 r) ∧ (decide (0 ≤ r) = xs.any fun x => !Tb.okE x) ∧ Below w.heap.size w w' := by
  have HA := Lib.hid hA
  have HN := Lib.hid hn
  clear hA hn
  go_enter Tryz.func65, Tryz.ntmps65
  go_wp2_with fail
  go_loopw [8] (fun vi wr => ∃ i : Nat, vi = .int .i64 i ∧ i ≤ n ∧ (xs.take i).any (fun x => !Tb.okE x) = false ∧ Below w.heap.size w wr) (fun vi _ => n - (intOf vi).toNat)
  case atStart => exact ⟨0, rfl, by omega, by simp, Below.refl _ _⟩
  case round =>
    obtain ⟨i, rfl, hi, hno, hbr⟩ := hrel
    have HNO := Lib.hid hno
    clear hno
    by_cases hin : i < n
    · have hil : i < xs.length := by have := HN.out; omega
      obtain ⟨ad, rfl, hadb, hc⟩ := at_ext HA.out i hil
      obtain ⟨x0, x1⟩ := hc wr hbr
      have HS := Lib.hid (show (xs.take (i + 1)).any (fun x => !Tb.okE x) = (fun x : Tb.Ext => !Tb.okE x) xs[i] by rw [List.take_succ_eq_append_getElem hil, List.any_append, HNO.out]; simp)
      have HAN := Lib.hid (show (fun x : Tb.Ext => !Tb.okE x) xs[i] = true → xs.any (fun x => !Tb.okE x) = true from fun h => List.any_eq_true.2 ⟨xs[i], List.getElem_mem hil, h⟩)
      clear hc
      generalize xs[i] = x at *
      obtain ⟨xq, xl⟩ := x
      have y0 : wr.cell? (ad.add (i * 2)) = some (.int .i64 xq) := x0
      have y1 : wr.cell? ⟨(ad.add (i * 2)).block, (ad.add (i * 2)).off + 1, none⟩ = some (.int .i64 xl) := x1
      have HIN := Lib.hid (show i + 1 ≤ n by omega)
      clear x0 x1
      have HW := Lib.hid (fun (W : World) => wrong_any ⟨xq, xl⟩ W)
      obtain ⟨B, hB⟩ : ∃ B, (!Tb.okE ⟨xq, xl⟩) = B := ⟨_, rfl⟩
      simp only [hB] at HS HAN HW
      clear hB
      go_wp2_with fail
      refine (HW.out wr).mono ?_
      rintro e w1 ⟨rfl, d1⟩
      have HB2 := Lib.hid (hbr.trans (d1.mono hbr.size))
      clear y0 y1 d1
      rcases B with _ | _
      · go_wp2
        go_roundw
        case rel => exact ⟨i + 1, by go_num, HIN.out, HS.out, HB2.out⟩
        case measure => have := HIN.out; simp [intOf]; omega
      · go_wp2
        go_ret
        exact ⟨(i : Int), rfl, by rw [HAN.out (by first | rfl | trivial), decide_eq_true (by omega)], HB2.out⟩
    · obtain rfl : i = n := by omega
      have HAL := Lib.hid (show xs.any (fun x => !Tb.okE x) = false by have := HNO.out; rwa [← HN.out, List.take_length] at this)
      go_wp2
      go_ret
      exact ⟨-1, rfl, by rw [HAL.out]; rfl, hbr⟩

theorem contains_wrong (A : Option Addr) (cap n : Nat) (xs : List Tb.Ext) (w : World) (hn : xs.length = n) (hm : n ≤ 8) (hA : Lies w A (flatX xs)) :
    Calls Tryz.prog 50 #[.slice A n cap, .func (.func 51) #[] #[]] w fun e w' => e = .returned (.bool (xs.any fun x => !Tb.okE x)) ∧ Below w.heap.size w w' := by
  have HI := Lib.hid (index_wrong A cap n xs w hn hm hA)
  clear hA hn
  go_enter Tryz.func50, Tryz.ntmps50
  go_wp2_with fail
  refine HI.out.mono ?_
  rintro e w1 ⟨r, rfl, hr, hb⟩
  have HR := Lib.hid hr
  have HB := Lib.hid hb
  clear hr hb HI
  by_cases h0 : 0 ≤ r
  · have HD := Lib.hid (show decide (0 ≤ r) = true from decide_eq_true h0)
    go_wp2
    go_ret
    exact ⟨by rw [← HR.out]; first | rfl | simp [h0] | (rw [HD.out]), HB.out⟩
  · have HD := Lib.hid (show decide (0 ≤ r) = false from decide_eq_false h0)
    go_wp2
    go_ret
    exact ⟨by rw [← HR.out]; first | rfl | simp [h0] | (rw [HD.out]), HB.out⟩

/-- apart's question -/
theorem same_any (g : Nat) (q : Int) (x : Tb.Ext) (w : World) (hc : w.cell? ⟨g, 0, none⟩ = some (.int .i64 q)) (hg : g < w.heap.size) : Calls Tryz.prog 66 #[exV x, .pointer (some ⟨g, 0, none⟩)] w fun e w' => e = .returned (.bool (decide (x.q = q))) ∧ Below w.heap.size w w' := by
  obtain ⟨xq, xl⟩ := x
  have hc2 := (World.cell?_alloc_lt w (.cells #[.int .i64 xq, .int .i64 xl] 81) (⟨g, 0, none⟩ : Addr) hg).trans hc
  have HB := Lib.hid ((Below.refl w.heap.size w).alloc (Nat.le_refl _) (.cells #[.int .i64 xq, .int .i64 xl] 81))
  clear hc
  by_cases h : xq = q
  · have HD := Lib.hid (show decide (xq = q) = true from decide_eq_true h)
    have hb : (xq == q) = true := by simpa using h
    clear h
    simp only [HD.out]
    go_enter Tryz.func66, Tryz.ntmps66
    go_wp2
    go_ret
    exact ⟨by simp, HB.out⟩
  · have HD := Lib.hid (show decide (xq = q) = false from decide_eq_false h)
    have hb : (xq == q) = false := by simpa using h
    clear h
    simp only [HD.out]
    go_enter Tryz.func66, Tryz.ntmps66
    go_wp2
    go_ret
    exact ⟨by simp, HB.out⟩

set_option maxHeartbeats 1000000 in
theorem index_same (g : Nat) (q : Int) (A : Option Addr) (cap n : Nat) (xs : List Tb.Ext) (w : World) (hn : xs.length = n) (hm : n ≤ 8) (hA : Lies w A (flatX xs)) (hc : w.cell? ⟨g, 0, none⟩ = some (.int .i64 q)) (hg : g < w.heap.size) :
    Calls Tryz.prog 65 #[.slice A n cap, .func (.func 66) #[] #[.pointer (some ⟨g, 0, none⟩)]] w fun e w' => ∃ r : Int, e = .returned (.int .i64 r) ∧ (decide (0 ≤ r) = xs.any fun x => decide (x.q = q)) ∧ Below w.heap.size w w' := by
  have HA := Lib.hid hA
  have HN := Lib.hid hn
  have HC := Lib.hid hc
  have HG := Lib.hid hg
  clear hc hg
  clear hA hn
  go_enter Tryz.func65, Tryz.ntmps65
  go_wp2_with fail
  go_loopw [8] (fun vi wr => ∃ i : Nat, vi = .int .i64 i ∧ i ≤ n ∧ (xs.take i).any (fun x => decide (x.q = q)) = false ∧ Below w.heap.size w wr) (fun vi _ => n - (intOf vi).toNat)
  case atStart => exact ⟨0, rfl, by omega, by simp, Below.refl _ _⟩
  case round =>
    obtain ⟨i, rfl, hi, hno, hbr⟩ := hrel
    have HNO := Lib.hid hno
    clear hno
    by_cases hin : i < n
    · have hil : i < xs.length := by have := HN.out; omega
      obtain ⟨ad, rfl, hadb, hc⟩ := at_ext HA.out i hil
      obtain ⟨x0, x1⟩ := hc wr hbr
      have HS := Lib.hid (show (xs.take (i + 1)).any (fun x => decide (x.q = q)) = (fun x : Tb.Ext => decide (x.q = q)) xs[i] by rw [List.take_succ_eq_append_getElem hil, List.any_append, HNO.out]; simp)
      have HAN := Lib.hid (show (fun x : Tb.Ext => decide (x.q = q)) xs[i] = true → xs.any (fun x => decide (x.q = q)) = true from fun h => List.any_eq_true.2 ⟨xs[i], List.getElem_mem hil, h⟩)
      clear hc
      generalize xs[i] = x at *
      obtain ⟨xq, xl⟩ := x
      have y0 : wr.cell? (ad.add (i * 2)) = some (.int .i64 xq) := x0
      have y1 : wr.cell? ⟨(ad.add (i * 2)).block, (ad.add (i * 2)).off + 1, none⟩ = some (.int .i64 xl) := x1
      have HIN := Lib.hid (show i + 1 ≤ n by omega)
      clear x0 x1
      have HW := Lib.hid (fun (W : World) (hc : W.cell? ⟨g, 0, none⟩ = some (.int .i64 q)) (hg : g < W.heap.size) => same_any g q ⟨xq, xl⟩ W hc hg)
      have hgc := (hbr.cell (p := ⟨g, 0, none⟩) HG.out).trans HC.out
      have HGC := Lib.hid hgc
      have HGL := Lib.hid (Nat.lt_of_lt_of_le HG.out hbr.size)
      clear hgc
      obtain ⟨B, hB⟩ : ∃ B, decide (xq = q) = B := ⟨_, rfl⟩
      simp only [hB] at HS HAN HW
      clear hB
      go_wp2_with fail
      refine (HW.out wr HGC.out HGL.out).mono ?_
      rintro e w1 ⟨rfl, d1⟩
      have HB2 := Lib.hid (hbr.trans (d1.mono hbr.size))
      clear y0 y1 d1
      rcases B with _ | _
      · go_wp2
        go_roundw
        case rel => exact ⟨i + 1, by go_num, HIN.out, HS.out, HB2.out⟩
        case measure => have := HIN.out; simp [intOf]; omega
      · go_wp2
        go_ret
        exact ⟨(i : Int), rfl, by rw [HAN.out (by first | rfl | trivial), decide_eq_true (by omega)], HB2.out⟩
    · obtain rfl : i = n := by omega
      have HAL := Lib.hid (show xs.any (fun x => decide (x.q = q)) = false by have := HNO.out; rwa [← HN.out, List.take_length] at this)
      go_wp2
      go_ret
      exact ⟨-1, rfl, by rw [HAL.out]; rfl, hbr⟩

theorem contains_same (g : Nat) (q : Int) (A : Option Addr) (cap n : Nat) (xs : List Tb.Ext) (w : World) (hn : xs.length = n) (hm : n ≤ 8) (hA : Lies w A (flatX xs)) (hc : w.cell? ⟨g, 0, none⟩ = some (.int .i64 q)) (hg : g < w.heap.size) :
    Calls Tryz.prog 50 #[.slice A n cap, .func (.func 66) #[] #[.pointer (some ⟨g, 0, none⟩)]] w fun e w' => e = .returned (.bool (xs.any fun x => decide (x.q = q))) ∧ Below w.heap.size w w' := by
  have HI := Lib.hid (index_same g q A cap n xs w hn hm hA hc hg)
  clear hA hn
  go_enter Tryz.func50, Tryz.ntmps50
  go_wp2_with fail
  refine HI.out.mono ?_
  rintro e w1 ⟨r, rfl, hr, hb⟩
  have HR := Lib.hid hr
  have HB := Lib.hid hb
  clear hr hb HI
  by_cases h0 : 0 ≤ r
  · have HD := Lib.hid (show decide (0 ≤ r) = true from decide_eq_true h0)
    go_wp2
    go_ret
    exact ⟨by rw [← HR.out]; first | rfl | simp [h0] | (rw [HD.out]), HB.out⟩
  · have HD := Lib.hid (show decide (0 ≤ r) = false from decide_eq_false h0)
    go_wp2
    go_ret
    exact ⟨by rw [← HR.out]; first | rfl | simp [h0] | (rw [HD.out]), HB.out⟩

end Go.Proofs.YtehnhjnkbclnlaaGreatDoor

namespace Go.Proofs.YtehnhjnkbclnlaaGreatDoor
open Go.RowKit
set_option maxRecDepth 100000

theorem apart_snoc (xs : List Tb.Ext) (i : Nat) (hi : i < xs.length) : Tb.apart (xs.take (i + 1)) = (Tb.apart (xs.take i) && (decide (xs[i].q = 0) || !(xs.take i).any fun x => decide (x.q = xs[i].q))) := by
  rw [List.take_succ_eq_append_getElem hi, Bool.eq_iff_iff]
  unfold Tb.apart
  rw [Bool.and_eq_true, decide_eq_true_eq, decide_eq_true_eq, List.pairwise_append, Bool.or_eq_true, decide_eq_true_eq, Bool.not_eq_true', List.any_eq_false]
  simp only [List.pairwise_singleton, List.mem_singleton, forall_eq, true_and, decide_eq_true_eq]
  constructor
  · rintro ⟨h1, h2⟩
    refine ⟨h1, ?_⟩
    cases Int.decEq xs[i].q 0 with
    | isTrue h => exact .inl h
    | isFalse h => exact .inr fun x hx => h2 x hx h
  · rintro ⟨h1, h2⟩
    refine ⟨h1, fun x hx h0 => ?_⟩
    rcases h2 with h2 | h2
    · exact absurd h2 h0
    · exact h2 x hx
theorem apart_take {xs : List Tb.Ext} (i : Nat) (h : Tb.apart (xs.take i) = false) : Tb.apart xs = false := by
  cases ha : Tb.apart xs with
  | false => rfl
  | true =>
    have h1 : xs.Pairwise fun a b => b.q ≠ 0 → a.q ≠ b.q := of_decide_eq_true ha
    have h2 : Tb.apart (xs.take i) = true := decide_eq_true (List.Pairwise.sublist (List.take_sublist _ _) h1)
    rw [h] at h2; cases h2
theorem slice_to (W : World) (ad : Addr) (n cap i : Nat) (hi : i < n) (hc : n ≤ cap) : (Instr.sliceAt 29 (.slice (some ad) n cap) none (some (.int .i64 (i : Int))) none).run Tryz.prog W = .ok (.slice (some ad) i cap) W := by
  have h3 : ¬ cap < i := by omega
  simp [Instr.sliceAt, Instr.slice, run_underlying Tryz.underlying29, Instr.sliceBounds, Instr.sliceBound, asIntOf, h3, Addr.add]

set_option maxHeartbeats 2000000 in
theorem apart_any (A : Option Addr) (cap n : Nat) (xs : List Tb.Ext) (w : World) (hn : xs.length = n) (hm : n ≤ 8) (hc : n ≤ cap) (hA : Lies w A (flatX xs)) :
    Calls Tryz.prog 52 #[.slice A n cap] w fun e w' => e = .returned (.bool (Tb.apart xs)) ∧ Below w.heap.size w w' := by
  have HA := Lib.hid hA
  have HN := Lib.hid hn
  clear hA hn
  go_enter Tryz.func52, Tryz.ntmps52
  go_wp2_with fail
  go_loopw [8] (fun vi wr => ∃ i : Nat, vi = .int .i64 i ∧ i ≤ n ∧ Tb.apart (xs.take i) = true ∧ Below w.heap.size w wr) (fun vi _ => n - (intOf vi).toNat)
  case atStart => exact ⟨0, rfl, by omega, rfl, Below.refl _ _⟩
  case round =>
    obtain ⟨i, rfl, hi, hyes, hbr⟩ := hrel
    have HYES := Lib.hid hyes
    clear hyes
    by_cases hin : i < n
    · have hil : i < xs.length := by have := HN.out; omega
      obtain ⟨ad, rfl, hadb, hcx⟩ := at_ext HA.out i hil
      obtain ⟨x0, x1⟩ := hcx wr hbr
      have HS := Lib.hid (apart_snoc xs i hil)
      rw [HYES.out] at HS
      have HAT := Lib.hid (fun (h : Tb.apart (xs.take (i + 1)) = false) => apart_take (i + 1) h)
      have HTL := Lib.hid (show (xs.take i).length = i by rw [List.length_take]; omega)
      have HLT := Lib.hid (show Lies w (some ad) (flatX (xs.take i)) by have := HA.out.take (i * 2); rwa [flatX_take] at this)
      have HSL := Lib.hid (fun (W : World) => slice_to W ad n cap i hin hc)
      have HCN := Lib.hid (fun (g : Nat) (W : World) (h1 : Lies W (some ad) (flatX (xs.take i))) (hc : W.cell? ⟨g, 0, none⟩ = some (.int .i64 xs[i].q)) (hg : g < W.heap.size) => contains_same g xs[i].q (some ad) cap i (xs.take i) W HTL.out (by omega) h1 hc hg)
      obtain ⟨AN, hAN⟩ : ∃ AN, Tb.apart (xs.take (i + 1)) = AN := ⟨_, rfl⟩
      rw [hAN] at HS HAT
      have HANE := Lib.hid hAN
      clear hAN
      generalize (xs.take i).any (fun x => decide (x.q = xs[i].q)) = B at *
      clear hcx
      generalize xs[i] = x at *
      obtain ⟨xq, xl⟩ := x
      have y0 : wr.cell? (ad.add (i * 2)) = some (.int .i64 xq) := x0
      have y1 : wr.cell? ⟨(ad.add (i * 2)).block, (ad.add (i * 2)).off + 1, none⟩ = some (.int .i64 xl) := x1
      clear x0 x1
      have HIN := Lib.hid (show i + 1 ≤ n by omega)
      have bx := Blk.new wr #[.int .i64 xq, .int .i64 xl] 81
      have hb1 : Below w.heap.size w (wr.alloc (.cells #[.int .i64 xq, .int .i64 xl] 81)) := hbr.alloc hbr.size _
      have HB1 := Lib.hid hb1
      have HLT1 := Lib.hid (HLT.out.below hb1)
      have HBX := Lib.hid (bx.cell 0)
      have HSZ := Lib.hid bx.lt
      clear hb1 bx
      by_cases hq : xq = 0
      · have hqb : (xq != 0) = false := by simpa using hq
        have HAN := Lib.hid (show AN = true by rw [HS.out]; simp [hq])
        have HTR := Lib.hid (show Tb.apart (xs.take (i + 1)) = true by rw [HANE.out, HAN.out])
        clear hq
        go_wp2
        go_roundw
        case rel => exact ⟨i + 1, by go_num, HIN.out, HTR.out, HB1.out⟩
        case measure => have := HIN.out; simp [intOf]; omega
      · have hqb : (xq != 0) = true := by simpa using hq
        have hsl := HSL.out
        have HAN := Lib.hid (show AN = !B by rw [HS.out]; simp [hq])
        clear hq
        go_wp2_with fail
        refine (HCN.out wr.heap.size _ HLT1.out (HBX.out.trans rfl) HSZ.out).mono ?_
        rintro e w1 ⟨rfl, d1⟩
        have HB2 := Lib.hid (HB1.out.trans (d1.mono HB1.out.size))
        clear d1 hsl
        rcases B with _ | _
        · have HTR := Lib.hid (show Tb.apart (xs.take (i + 1)) = true by rw [HANE.out, HAN.out]; rfl)
          go_wp2
          go_roundw
          case rel => exact ⟨i + 1, by go_num, HIN.out, HTR.out, HB2.out⟩
          case measure => have := HIN.out; simp [intOf]; omega
        · have HFA := Lib.hid (HAT.out HAN.out)
          go_wp2
          go_ret
          exact ⟨by rw [HFA.out]; rfl, HB2.out⟩
    · obtain rfl : i = n := by omega
      have HAL := Lib.hid (show Tb.apart xs = true by have := HYES.out; rwa [← HN.out, List.take_length] at this)
      go_wp2
      go_ret
      exact ⟨by rw [HAL.out]; rfl, hbr⟩

/-- whether the open one may be so, as a program asks -/
theorem opOk_at {g o : Int} {xs : List Tb.Ext} (k : Nat) (hk : k < xs.length) (ho : o = (k : Int)) : Tb.opOk ⟨g, o, xs⟩ = (!decide (xs[k].q = 0) && decide (xs[k].l = 0)) := by
  subst ho
  unfold Tb.opOk
  simp only [Int.toNat_natCast, List.getElem?_eq_getElem hk]
  have e1 : decide ((k : Int) = -1) = false := decide_eq_false (by omega)
  have e2 : decide (0 ≤ (k : Int)) = true := decide_eq_true (by omega)
  rw [e1, e2]
  simp
theorem opOk_out {g o : Int} {xs : List Tb.Ext} (h1 : o ≠ -1) (h2 : ¬ (0 ≤ o ∧ o < (xs.length : Int))) : Tb.opOk ⟨g, o, xs⟩ = false := by
  unfold Tb.opOk
  simp only
  rw [decide_eq_false h1]
  by_cases h3 : 0 ≤ o
  · rw [List.getElem?_eq_none (by omega)]
    simp
  · rw [decide_eq_false h3]; rfl

set_option maxHeartbeats 2000000 in
theorem rightOpen_any (g o : Int) (A : Option Addr) (cap n : Nat) (xs : List Tb.Ext) (w : World) (hn : xs.length = n) (hm : n ≤ 8) (hA : Lies w A (flatX xs)) :
    Calls Tryz.prog 53 #[tabV g o A n cap] w fun e w' => e = .returned (.bool (Tb.opOk ⟨g, o, xs⟩)) ∧ Below w.heap.size w w' := by
  have HA := Lib.hid hA
  have HN := Lib.hid hn
  have HB := Lib.hid ((Below.refl w.heap.size w).alloc (Nat.le_refl _) (.cells #[.int .i64 g, .int .i64 o, .slice A n cap] 31))
  clear hA hn
  by_cases h1 : o = -1
  · have HO := Lib.hid (show Tb.opOk ⟨g, o, xs⟩ = true by unfold Tb.opOk; simp [h1])
    subst h1
    go_enter Tryz.func53, Tryz.ntmps53
    go_wp2
    go_ret
    exact ⟨by rw [HO.out]; rfl, HB.out⟩
  · have hob : (o == -1) = false := by simpa using h1
    by_cases h2 : 0 ≤ o ∧ o < (n : Int)
    · obtain ⟨k, rfl⟩ := Int.eq_ofNat_of_zero_le h2.1
      have hkl : k < xs.length := by have := HN.out; omega
      have HO := Lib.hid (opOk_at (g := g) k hkl rfl)
      obtain ⟨ad, rfl, hadb, hcx⟩ := at_ext HA.out k hkl
      obtain ⟨x0, x1⟩ := hcx _ HB.out
      have HW := Lib.hid (fun (W : World) => withinI_any (k : Int) 0 ((n : Int) - 1) true (decide_eq_true (by omega)) W)
      have hkn : k < n := by omega
      clear hcx h1 h2
      generalize Tb.opOk ⟨g, (k : Int), xs⟩ = R at *
      generalize xs[k] = x at *
      obtain ⟨xq, xl⟩ := x
      have y0 : (w.alloc (.cells #[.int .i64 g, .int .i64 (k : Int), .slice (some ad) n cap] 31)).cell? (ad.add (k * 2)) = some (.int .i64 xq) := x0
      have y1 : (w.alloc (.cells #[.int .i64 g, .int .i64 (k : Int), .slice (some ad) n cap] 31)).cell? ⟨(ad.add (k * 2)).block, (ad.add (k * 2)).off + 1, none⟩ = some (.int .i64 xl) := x1
      clear x0 x1
      go_enter Tryz.func53, Tryz.ntmps53
      go_wp2_with fail
      refine (HW.out _).mono ?_
      rintro e w1 ⟨rfl, rfl⟩
      by_cases hq : xq = 0
      · have hqb : (xq != 0) = false := by simpa using hq
        have HZ := Lib.hid (show R = false by rw [HO.out]; simp [hq])
        clear hq
        go_wp2
        go_ret
        exact ⟨by rw [HZ.out]; rfl, HB.out⟩
      · have hqb : (xq != 0) = true := by simpa using hq
        by_cases hl : xl = 0
        · have hlb : (xl == 0) = true := by simpa using hl
          have HZ := Lib.hid (show R = true by rw [HO.out]; simp [hq, hl])
          clear hq hl
          go_wp2
          go_ret
          exact ⟨by rw [HZ.out]; rfl, HB.out⟩
        · have hlb : (xl == 0) = false := by simpa using hl
          have HZ := Lib.hid (show R = false by rw [HO.out]; simp [hq, hl])
          clear hq hl
          go_wp2
          go_ret
          exact ⟨by rw [HZ.out]; rfl, HB.out⟩
    · have HO := Lib.hid (opOk_out (g := g) h1 (by rw [HN.out]; exact h2))
      have HW := Lib.hid (fun (W : World) => withinI_any o 0 ((n : Int) - 1) false (decide_eq_false (by omega)) W)
      clear h1 h2
      go_enter Tryz.func53, Tryz.ntmps53
      go_wp2_with fail
      refine (HW.out _).mono ?_
      rintro e w1 ⟨rfl, rfl⟩
      go_wp2
      go_ret
      exact ⟨by rw [HO.out]; rfl, HB.out⟩
end Go.Proofs.YtehnhjnkbclnlaaGreatDoor

namespace Go.Proofs.YtehnhjnkbclnlaaGreatDoor
open Go.RowKit
set_option maxRecDepth 100000

set_option maxHeartbeats 2000000 in
theorem tright_any (g o : Int) (A : Option Addr) (cap n : Nat) (xs : List Tb.Ext) (w : World) (hn : xs.length = n) (hc : n ≤ cap) (hA : Lies w A (flatX xs)) :
    Calls Tryz.prog 28 #[tabV g o A n cap] w fun e w' => e = .returned (.bool (Tb.right ⟨g, o, xs⟩)) ∧ Below w.heap.size w w' := by
  have HQ := Lib.hid (show Tb.right ⟨g, o, xs⟩ = ((((decide ((1 : Int) ≤ g ∧ g ≤ 2147483648) && decide ((4 : Int) ≤ (n : Int) ∧ (n : Int) ≤ 8)) && !(xs.any fun x => !Tb.okE x)) && Tb.apart xs) && Tb.opOk ⟨g, o, xs⟩) by
    unfold Tb.right
    simp only
    rw [hn, List.not_any_eq_all_not]
    have e1 : decide ((1 : Int) ≤ g ∧ g ≤ 2147483648) = (decide (1 ≤ g) && decide (g ≤ 2147483648)) := Bool.decide_and _ _
    have e2 : decide ((4 : Int) ≤ (n : Int) ∧ (n : Int) ≤ 8) = (decide (4 ≤ n) && decide (n ≤ 8)) := by
      rw [← Bool.decide_and, decide_eq_decide]; omega
    rw [e1, e2]
    simp [Bool.and_assoc])
  have H1 := Lib.hid (fun (r : Bool) (h : decide ((1 : Int) ≤ g ∧ g ≤ 2147483648) = r) (W : World) => withinL_any g 1 2147483648 r h W)
  have H2 := Lib.hid (fun (r : Bool) (h : decide ((4 : Int) ≤ (n : Int) ∧ (n : Int) ≤ 8) = r) (W : World) => withinI_any (n : Int) 4 8 r h W)
  have h8 : decide ((4 : Int) ≤ (n : Int) ∧ (n : Int) ≤ 8) = true → n ≤ 8 := fun h => by have := of_decide_eq_true h; omega
  have HA := Lib.hid hA
  have HB := Lib.hid ((Below.refl w.heap.size w).alloc (Nat.le_refl _) (.cells #[.int .i64 g, .int .i64 o, .slice A n cap] 31))
  have HBX := Lib.hid (Blk.new w #[.int .i64 g, .int .i64 o, .slice A n cap] 31)
  have HA0 := Lib.hid (hA.below HB.out)
  generalize Tb.right ⟨g, o, xs⟩ = R at *
  generalize decide ((1 : Int) ≤ g ∧ g ≤ 2147483648) = b1 at *
  generalize decide ((4 : Int) ≤ (n : Int) ∧ (n : Int) ≤ 8) = b2 at *
  have HN := Lib.hid hn
  clear hA hn
  go_enter Tryz.func28, Tryz.ntmps28
  go_wp2_with fail
  refine (H1.out b1 rfl _).mono ?_
  rintro e w1 ⟨rfl, rfl⟩
  rcases b1 with _ | _
  · go_wp2
    go_ret
    exact ⟨by rw [HQ.out]; rfl, HB.out⟩
  go_wp2_with fail
  refine (H2.out b2 rfl _).mono ?_
  rintro e w1 ⟨rfl, rfl⟩
  rcases b2 with _ | _
  · go_wp2
    go_ret
    exact ⟨by rw [HQ.out]; rfl, HB.out⟩
  have H8 := Lib.hid (h8 rfl)
  have H3 := Lib.hid (contains_wrong A cap n xs _ HN.out H8.out HA0.out)
  generalize (xs.any fun x => !Tb.okE x) = b3 at *
  clear h8
  go_wp2_with fail
  refine H3.out.mono ?_
  rintro e w1 ⟨rfl, d1⟩
  have hb1 := HBX.out.below d1 (Nat.le_refl _)
  have HBX1 := Lib.hid hb1
  have HA1 := Lib.hid (HA0.out.below d1)
  have HB1 := Lib.hid (HB.out.trans (d1.mono HB.out.size))
  clear d1 H3
  have z2 : w1.cell? ⟨w.heap.size, 2, none⟩ = some (.slice A n cap) := hb1.cell 2
  clear hb1
  rcases b3 with _ | _
  rotate_left
  · go_wp2
    go_ret
    exact ⟨by rw [HQ.out]; rfl, HB1.out⟩
  have H4 := Lib.hid (apart_any A cap n xs w1 HN.out H8.out hc HA1.out)
  generalize Tb.apart xs = b4 at *
  go_wp2_with fail
  refine H4.out.mono ?_
  rintro e w2 ⟨rfl, d2⟩
  have hb2 := HBX1.out.below d2 (Nat.le_refl _)
  have HA2 := Lib.hid (HA1.out.below d2)
  have HB2 := Lib.hid (HB1.out.trans (d2.mono HB1.out.size))
  clear d2 H4 z2
  have z0 : w2.cell? ⟨w.heap.size, 0, none⟩ = some (.int .i64 g) := hb2.cell 0
  have z1 : w2.cell? ⟨w.heap.size, 1, none⟩ = some (.int .i64 o) := hb2.cell 1
  have z2 : w2.cell? ⟨w.heap.size, 2, none⟩ = some (.slice A n cap) := hb2.cell 2
  clear hb2
  rcases b4 with _ | _
  · go_wp2
    go_ret
    exact ⟨by rw [HQ.out]; rfl, HB2.out⟩
  have H5 := Lib.hid (rightOpen_any g o A cap n xs w2 HN.out H8.out HA2.out)
  generalize Tb.opOk ⟨g, o, xs⟩ = b5 at *
  go_wp2_with fail
  refine H5.out.mono ?_
  rintro e w3 ⟨rfl, d3⟩
  have HB3 := Lib.hid (HB2.out.trans (d3.mono HB2.out.size))
  clear d3 z0 z1 z2
  go_wp2
  go_ret
  exact ⟨by rw [HQ.out]; rfl, HB3.out⟩
end Go.Proofs.YtehnhjnkbclnlaaGreatDoor
