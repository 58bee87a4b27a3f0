/-
  Layer 9: what the laws compare with (SameInts of turntableref07, Same of turntableref09): what they answer, of any rows and tables. Assumed: that these lie in memory.
-/
import Derived.Test.YtgicjdlpkphfnaaTabO
import Derived.BigQuiet

namespace Go.Proofs.Ytgicjdlpkphfnaa
open Go.RowKit
set_option maxRecDepth 100000

theorem take_step {α : Type} [DecidableEq α] {a b : List α} {i : Nat} (ha : i < a.length) (hb : i < b.length) (h : a.take i = b.take i) : (a[i] = b[i] → a.take (i + 1) = b.take (i + 1)) ∧ (a[i] ≠ b[i] → a ≠ b) := by
  refine ⟨fun e => by rw [List.take_succ_eq_append_getElem ha, List.take_succ_eq_append_getElem hb, h, e], fun e he => e ?_⟩
  subst he
  rfl

theorem ne_ext (W : World) (x y : Tb.Ext) : (binOp .neq 44 (exV x) (exV y)).run Try.prog W = .ok (.bool (!decide (x = y))) W := by
  obtain ⟨q, l⟩ := x
  obtain ⟨q2, l2⟩ := y
  by_cases h1 : q = q2
  · subst h1
    by_cases h2 : l = l2
    · subst h2
      go_simp
    · have hb : (l == l2) = false := by simpa using h2
      rw [decide_eq_false (by simp [h2])]
      go_simp
  · have hb : (q == q2) = false := by simpa using h1
    rw [decide_eq_false (by simp [h1])]
    go_simp

set_option maxHeartbeats 4000000 in
theorem rsame_any (g o : Int) (A : Option Addr) (cap n : Nat) (xs : List Tb.Ext) (g2 o2 : Int) (D : Option Addr) (dap m : Nat) (ys : List Tb.Ext) (w : World) (hn : xs.length = n) (hm : ys.length = m) (hn9 : n ≤ 1000) (hA : Lies w A (flatX xs)) (hD : Lies w D (flatX ys)) :
    Calls Try.prog 19 #[tabV g o A n cap, tabV g2 o2 D m dap] w fun e w' => e = .returned (.bool (decide ((⟨g, o, xs⟩ : Tb.T) = ⟨g2, o2, ys⟩))) ∧ Below w.heap.size w w' := by
  have HN := Lib.hid hn
  have HM := Lib.hid hm
  have bx := Blk.new w #[.int .i64 g, .int .i64 o, .slice A n cap] 31
  obtain ⟨WA, hWA⟩ : ∃ WA, w.alloc (.cells #[.int .i64 g, .int .i64 o, .slice A n cap] 31) = WA := ⟨_, rfl⟩
  have hB0 : Below w.heap.size w (WA.alloc (.cells #[.int .i64 g2, .int .i64 o2, .slice D m dap] 31)) := by
    rw [← hWA]
    exact ((Below.refl _ _).alloc (Nat.le_refl _) _).alloc (by simp) _
  have hs : WA.heap.size = w.heap.size + 1 := by rw [← hWA]; simp
  rw [hWA] at bx
  have by_ := Blk.new WA #[.int .i64 g2, .int .i64 o2, .slice D m dap] 31
  rw [hs] at by_
  have bx2 := bx.below ((Below.refl WA.heap.size WA).alloc (Nat.le_refl _) (.cells #[.int .i64 g2, .int .i64 o2, .slice D m dap] 31)) (Nat.le_refl _)
  have HB0 := Lib.hid hB0
  have HW := Lib.hid hWA
  have HX := Lib.hid bx2
  have HY := Lib.hid by_
  have HA := Lib.hid hA
  have HD := Lib.hid hD
  have HLT := Lib.hid (show w.heap.size + 1 < (WA.alloc (.cells #[.int .i64 g2, .int .i64 o2, .slice D m dap] 31)).heap.size by simp; omega)
  obtain ⟨x0, x1, x2⟩ := bx2.three
  obtain ⟨y0, y1, y2⟩ := by_.three
  clear hWA bx by_ bx2 hs hB0 hA hD hn hm
  go_enter Try.func19, Try.ntmps19
  by_cases h1 : g = g2
  · have hb1 : (g != g2) = false := by simp [h1]
    by_cases h2 : o = o2
    · have hb2 : (o != o2) = false := by simp [h2]
      by_cases h3 : n = m
      · have hb3 : ((n : Int) != (m : Int)) = false := by simp [h3]
        have HE := Lib.hid (show decide ((⟨g, o, xs⟩ : Tb.T) = ⟨g2, o2, ys⟩) = decide (xs = ys) by rw [decide_eq_decide, h1, h2]; simp)
        have HNM := Lib.hid h3
        rw [HE.out]
        clear h1 h2 h3
        go_wp2_with fail
        rw [HW.out] at *
        go_wp2_with fail
        clear hb1 hb2 hb3 x0 x1 x2 y0 y1 y2
        go_loopw [5] (fun vi wr => ∃ i : Nat, vi = .int .i64 i ∧ i ≤ n ∧ xs.take i = ys.take i ∧ Below (w.heap.size + 2) (WA.alloc (.cells #[.int .i64 g2, .int .i64 o2, .slice D m dap] 31)) wr) (fun vi _ => n - (intOf vi).toNat)
        case atStart => exact ⟨0, rfl, by omega, rfl, Below.refl _ _⟩
        case round =>
          obtain ⟨i, rfl, hi, hab, hbr⟩ := hrel
          have HAB := Lib.hid hab
          have x2 : wr.cell? ⟨w.heap.size, 2, none⟩ = some (.slice A n cap) := (hbr.cell (p := ⟨w.heap.size, 2, none⟩) (by simp)).trans (HX.out.cell 2)
          have y2 : wr.cell? ⟨w.heap.size + 1, 2, none⟩ = some (.slice D m dap) := (hbr.cell (p := ⟨w.heap.size + 1, 2, none⟩) (by simp)).trans (HY.out.cell 2)
          have HBR := Lib.hid (HB0.out.trans (hbr.mono (by omega)))
          clear hab
          by_cases hin : i < n
          · have hia : i < xs.length := by have := HN.out; omega
            have hib : i < ys.length := by have := HM.out; have := HNM.out; omega
            obtain ⟨ad, rfl, -, hc1⟩ := at_ext HA.out i hia
            obtain ⟨ad2, rfl, -, hc2⟩ := at_ext HD.out i hib
            obtain ⟨p0, p1⟩ := hc1 wr HBR.out
            obtain ⟨q0, q1⟩ := hc2 wr HBR.out
            obtain ⟨hs1, hs2⟩ := take_step hia hib HAB.out
            have HS1 := Lib.hid hs1
            have HS2 := Lib.hid hs2
            have HIN := Lib.hid (show i + 1 ≤ n by omega)
            have him : i < m := by have := HNM.out; omega
            have hne := fun W => ne_ext W xs[i] ys[i]
            obtain ⟨B, hB⟩ : ∃ B, (!decide (xs[i] = ys[i])) = B := ⟨_, rfl⟩
            rw [hB] at hne
            have HBV := Lib.hid hB
            have HS3 := Lib.hid (show B = false → xs.take (i + 1) = ys.take (i + 1) from fun h => HS1.out (by have := HBV.out; rw [h] at this; simpa using this))
            have HS4 := Lib.hid (show B = true → xs ≠ ys from fun h => HS2.out (by have := HBV.out; rw [h] at this; simpa using this))
            clear hc1 hc2 hs1 hs2 HS1 HS2 HBV hB
            generalize xs[i] = p at *
            generalize ys[i] = q at *
            obtain ⟨pq, pl⟩ := p
            obtain ⟨qq, ql⟩ := q
            have p0' : wr.cell? (ad.add (i * 2)) = some (.int .i64 pq) := p0
            have p1' : wr.cell? ⟨(ad.add (i * 2)).block, (ad.add (i * 2)).off + 1, none⟩ = some (.int .i64 pl) := p1
            have q0' : wr.cell? (ad2.add (i * 2)) = some (.int .i64 qq) := q0
            have q1' : wr.cell? ⟨(ad2.add (i * 2)).block, (ad2.add (i * 2)).off + 1, none⟩ = some (.int .i64 ql) := q1
            clear p0 p1 q0 q1
            rcases B with _ | _
            · have HT := Lib.hid (HS3.out rfl)
              go_wp2_with fail
              go_quiet (fail)
              go_wp2
              go_roundw
              case rel => exact ⟨i + 1, by go_num, HIN.out, HT.out, below_many hbr _⟩
              case measure => have := HIN.out; first | omega | (simp [intOf]; omega)
            · have HT := Lib.hid (HS4.out rfl)
              go_wp2_with fail
              go_quiet (fail)
              go_wp2
              go_ret
              exact ⟨by rw [decide_eq_false HT.out]; rfl, below_many HBR.out _⟩
          · obtain rfl : i = n := by omega
            have HT := Lib.hid (show xs = ys by have := HAB.out; rw [← HN.out, List.take_length] at this; rw [this, HN.out, HNM.out, ← HM.out, List.take_length])
            go_wp2
            go_ret
            exact ⟨by rw [decide_eq_true HT.out]; rfl, HBR.out⟩
      · have hb3 : ((n : Int) != (m : Int)) = true := by simp; omega
        have HE := Lib.hid (show decide ((⟨g, o, xs⟩ : Tb.T) = ⟨g2, o2, ys⟩) = false from decide_eq_false (fun h => h3 (by have := congrArg (fun t => t.xs.length) h; simp only at this; rw [← HN.out, ← HM.out]; exact this)))
        rw [HE.out]
        clear h1 h2 h3
        go_wp2_with fail
        rw [HW.out] at *
        go_wp2
        go_ret
        exact ⟨rfl, HB0.out⟩
    · have hb2 : (o != o2) = true := by simp [h2]
      have HE := Lib.hid (show decide ((⟨g, o, xs⟩ : Tb.T) = ⟨g2, o2, ys⟩) = false from decide_eq_false (fun h => h2 (congrArg Tb.T.opn h)))
      rw [HE.out]
      clear h1 h2
      go_wp2_with fail
      rw [HW.out] at *
      go_wp2
      go_ret
      exact ⟨rfl, HB0.out⟩
  · have hb1 : (g != g2) = true := by simp [h1]
    have HE := Lib.hid (show decide ((⟨g, o, xs⟩ : Tb.T) = ⟨g2, o2, ys⟩) = false from decide_eq_false (fun h => h1 (congrArg Tb.T.gen h)))
    rw [HE.out]
    clear h1
    go_wp2_with fail
    rw [HW.out] at *
    go_wp2
    go_ret
    exact ⟨rfl, HB0.out⟩
end Go.Proofs.Ytgicjdlpkphfnaa
