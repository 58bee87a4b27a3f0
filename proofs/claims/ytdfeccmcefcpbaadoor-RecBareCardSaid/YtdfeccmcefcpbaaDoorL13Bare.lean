/-
  P13.1, RecBare: for all records and numbers the law returns true: a record of another kind than a seal is right just if it has no tick, no pin and no span, its number may be, and so may its class; of no kind it is not right. No condition; what the row lists is tied to the program's text.
-/
import Derived.Test.YtdfeccmcefcpbaaDoorL13S
namespace Go.Proofs.YtdfeccmcefcpbaaDoor.recBare
open Go.ChangeShapes Go.WideShapes Go.ChangeAt Go.RowKit
set_option maxRecDepth 100000

set_option maxHeartbeats 16000000 in
theorem walkN (w : World) (hH : Handle w) (q : Rc.R) (A : Option Addr) (n cap c : Nat) (hn : q.sp.length = n) (hl : n ≤ cap) (hm : cap ≤ maxLen) (hB : Lies w A (flat q.sp)) (hS : Fine q.sp) (hc : c ≤ 255) :
    Calls Tryd.prog 7 #[recV q A n cap, .int .u8 (c : Int)] w fun e w' => e = .returned (.bool true) ∧ Below w.heap.size w w' := by
  obtain ⟨kind, id, cls, tick, pin, sp⟩ := q
  simp only at hn hB hS
  obtain ⟨K, hK⟩ : ∃ K, c % 4 = K := ⟨_, rfl⟩
  have hK4 : K < 4 := by rw [← hK]; exact Nat.mod_lt _ (by omega)
  have hKi : (c : Int) % 4 = (K : Int) := by omega
  clear hK
  have hbx := Blk.new w #[.int .i64 kind, .int .i64 id, .int .i64 cls, .int .i64 tick, .bool pin, .slice A n cap] 24
  have hB0 : Below w.heap.size w (w.alloc (.cells #[.int .i64 kind, .int .i64 id, .int .i64 cls, .int .i64 tick, .bool pin, .slice A n cap] 24)) := (Below.refl _ _).alloc (Nat.le_refl _) _
  have HBX := Lib.hid hbx
  have HB0 := Lib.hid hB0
  have HH0 := Lib.hid (up13_any _ (handle13_below hH hB0))
  have HG := Lib.hid (fun (W : World) (h : Below w.heap.size w W) => great_any A n cap sp W hn hl hm (hB.below h))
  have HR := Lib.hid (fun (k : Int) (W : World) (h : Below w.heap.size w W) => dright13_any ⟨k, id, cls, tick, pin, sp⟩ A n cap W hn (by omega) (hB.below h) hS)
  have HNO := Lib.hid (show Rc.right ⟨6 + (c : Int), id, cls, tick, pin, sp⟩ = false from right_kind (by simp only; omega))
  have hbi := bare_iff (r := ⟨2 + (K : Int), id, cls, tick, pin, sp⟩) hn (by simp only; omega)
  simp only at hbi
  have HRX := Lib.hid (HR.out (2 + (K : Int)))
  have HRY := Lib.hid (HR.out (6 + (c : Int)))
  rw [HNO.out] at HRY
  obtain ⟨RR, hRR⟩ : ∃ RR, Rc.right ⟨2 + (K : Int), id, cls, tick, pin, sp⟩ = RR := ⟨_, rfl⟩
  rw [hRR] at HRX hbi
  unfold recV recCs at *
  simp only at HRX HRY
  have HBI := Lib.hid hbi
  have HT := Lib.hid (show ∀ b : Bool, (b = true ↔ tick = 0 ∧ pin = false ∧ n = 0 ∧ 1 ≤ id ∧ id ≤ 281474976710656 ∧ (cls = 0 ∨ 2 + (K : Int) = 4 ∧ 0 < cls ∧ cls ≤ 7)) → RR = b from fun b hb => Bool.eq_iff_iff.2 (HBI.out.trans hb.symm))
  clear hbx hB0 hRR hbi HNO HR hB hS hn hH
  by_cases h0 : tick = 0
  rotate_left
  · have d0 : (tick == 0) = false := by rw [beq_eq_false_iff_ne]; exact h0
    have HD := Lib.hid (HT.out false (by simp_all <;> omega))
    rw [HD.out] at HRX
    clear h0 HBI HT
    go_enter Tryd.func7, Tryd.ntmps7
    go_wp2_with fail
    refine HH0.out.mono ?_
    rintro e w1 ⟨rfl, hb1⟩
    have HB1 := Lib.hid (HB0.out.trans (hb1.mono HB0.out.size))
    have HX1 := Lib.hid (show Blk w1 w.heap.size _ _ from (hb1.block _ HBX.out.lt).trans HBX.out)
    obtain ⟨x0, x1, x2, x3, x4, x5⟩ := six13 HX1.out
    clear hb1
    go_wp2_with fail
    refine (HG.out w1 HB1.out).mono ?_
    rintro e w2 ⟨g, rfl, -, hb2⟩
    have HB2 := Lib.hid (HB1.out.trans (hb2.mono HB1.out.size))
    have HX2 := Lib.hid (show Blk w2 w.heap.size _ _ from (hb2.block _ HX1.out.lt).trans HX1.out)
    clear hb2 x0 x1 x2 x3 x4 x5
    rcases g with _ | _
    rotate_left
    · go_wp2
      go_ret
      exact ⟨rfl, HB2.out⟩
    obtain ⟨x0, x1, x2, x3, x4, x5⟩ := six13 HX2.out
    have f0 := HX2.out.frozen 0
    go_wp2_with (first | fail | refine wpList_storeF rfl _ _ _ rfl w.heap.size 0 rfl _ rfl _ _ HX2.out (by go_simp) ?k5)
    case k5 =>
      intro w3 hb3 hk3
      have hb3' : Blk w3 w.heap.size #[.int .i64 (2 + (K : Int)), .int .i64 id, .int .i64 cls, .int .i64 tick, .bool pin, .slice A n cap] 24 := hb3
      have HB3 := Lib.hid (Kept.below HB2.out hk3 (by simp))
      have HX3 := Lib.hid hb3'
      clear hb3 hk3 x0 x1 x2 x3 x4 x5 f0
      obtain ⟨x0, x1, x2, x3, x4, x5⟩ := six13 hb3'
      clear hb3'
      have HB4 := Lib.hid (HB3.out.alloc HB3.out.size (.cells #[.int .i64 (6 + (c : Int)), .int .i64 id, .int .i64 cls, .int .i64 tick, .bool pin, .slice A n cap] 24))
      obtain ⟨y0, y1, y2, y3, y4, y5⟩ := six13 (blk_past HX3.out (.cells #[.int .i64 (6 + (c : Int)), .int .i64 id, .int .i64 cls, .int .i64 tick, .bool pin, .slice A n cap] 24))
      have HX5 := Lib.hid (Blk.new w3 #[.int .i64 (6 + (c : Int)), .int .i64 id, .int .i64 cls, .int .i64 tick, .bool pin, .slice A n cap] 24)
      go_wp2_with fail
      refine (HRX.out _ HB4.out).mono ?_
      rintro e w5 ⟨rfl, hb5⟩
      have HB5 := Lib.hid (HB4.out.trans (hb5.mono HB4.out.size))
      obtain ⟨z0, z1, z2, z3, z4, z5⟩ := six13 ((hb5.block _ HX5.out.lt).trans HX5.out)
      clear hb5 x0 x1 x2 x3 x4 x5 y0 y1 y2 y3 y4 y5
      go_wp2_with fail
      refine (HRY.out w5 HB5.out).mono ?_
      rintro e w6 ⟨rfl, hb6⟩
      have HB6 := Lib.hid (HB5.out.trans (hb6.mono HB5.out.size))
      clear hb6
      go_wp2
      go_ret
      exact ⟨rfl, HB6.out⟩
  have d0 : (tick == 0) = true := by rw [beq_iff_eq]; exact h0
  by_cases h1 : pin = false
  rotate_left
  · rw [Bool.not_eq_false] at h1
    subst h1
    have HD := Lib.hid (HT.out false (by simp_all <;> omega))
    rw [HD.out] at HRX
    clear h0 HBI HT
    go_enter Tryd.func7, Tryd.ntmps7
    go_wp2_with fail
    refine HH0.out.mono ?_
    rintro e w1 ⟨rfl, hb1⟩
    have HB1 := Lib.hid (HB0.out.trans (hb1.mono HB0.out.size))
    have HX1 := Lib.hid (show Blk w1 w.heap.size _ _ from (hb1.block _ HBX.out.lt).trans HBX.out)
    obtain ⟨x0, x1, x2, x3, x4, x5⟩ := six13 HX1.out
    clear hb1
    go_wp2_with fail
    refine (HG.out w1 HB1.out).mono ?_
    rintro e w2 ⟨g, rfl, -, hb2⟩
    have HB2 := Lib.hid (HB1.out.trans (hb2.mono HB1.out.size))
    have HX2 := Lib.hid (show Blk w2 w.heap.size _ _ from (hb2.block _ HX1.out.lt).trans HX1.out)
    clear hb2 x0 x1 x2 x3 x4 x5
    rcases g with _ | _
    rotate_left
    · go_wp2
      go_ret
      exact ⟨rfl, HB2.out⟩
    obtain ⟨x0, x1, x2, x3, x4, x5⟩ := six13 HX2.out
    have f0 := HX2.out.frozen 0
    go_wp2_with (first | fail | refine wpList_storeF rfl _ _ _ rfl w.heap.size 0 rfl _ rfl _ _ HX2.out (by go_simp) ?k5)
    case k5 =>
      intro w3 hb3 hk3
      have hb3' : Blk w3 w.heap.size #[.int .i64 (2 + (K : Int)), .int .i64 id, .int .i64 cls, .int .i64 tick, .bool true, .slice A n cap] 24 := hb3
      have HB3 := Lib.hid (Kept.below HB2.out hk3 (by simp))
      have HX3 := Lib.hid hb3'
      clear hb3 hk3 x0 x1 x2 x3 x4 x5 f0
      obtain ⟨x0, x1, x2, x3, x4, x5⟩ := six13 hb3'
      clear hb3'
      have HB4 := Lib.hid (HB3.out.alloc HB3.out.size (.cells #[.int .i64 (6 + (c : Int)), .int .i64 id, .int .i64 cls, .int .i64 tick, .bool true, .slice A n cap] 24))
      obtain ⟨y0, y1, y2, y3, y4, y5⟩ := six13 (blk_past HX3.out (.cells #[.int .i64 (6 + (c : Int)), .int .i64 id, .int .i64 cls, .int .i64 tick, .bool true, .slice A n cap] 24))
      have HX5 := Lib.hid (Blk.new w3 #[.int .i64 (6 + (c : Int)), .int .i64 id, .int .i64 cls, .int .i64 tick, .bool true, .slice A n cap] 24)
      go_wp2_with fail
      refine (HRX.out _ HB4.out).mono ?_
      rintro e w5 ⟨rfl, hb5⟩
      have HB5 := Lib.hid (HB4.out.trans (hb5.mono HB4.out.size))
      obtain ⟨z0, z1, z2, z3, z4, z5⟩ := six13 ((hb5.block _ HX5.out.lt).trans HX5.out)
      clear hb5 x0 x1 x2 x3 x4 x5 y0 y1 y2 y3 y4 y5
      go_wp2_with fail
      refine (HRY.out w5 HB5.out).mono ?_
      rintro e w6 ⟨rfl, hb6⟩
      have HB6 := Lib.hid (HB5.out.trans (hb6.mono HB5.out.size))
      clear hb6
      go_wp2
      go_ret
      exact ⟨rfl, HB6.out⟩
  subst h1
  by_cases h2 : n = 0
  rotate_left
  · have d2 : ((n : Int) == 0) = false := by rw [beq_eq_false_iff_ne]; omega
    have HD := Lib.hid (HT.out false (by simp_all <;> omega))
    rw [HD.out] at HRX
    clear h0 h2 HBI HT
    go_enter Tryd.func7, Tryd.ntmps7
    go_wp2_with fail
    refine HH0.out.mono ?_
    rintro e w1 ⟨rfl, hb1⟩
    have HB1 := Lib.hid (HB0.out.trans (hb1.mono HB0.out.size))
    have HX1 := Lib.hid (show Blk w1 w.heap.size _ _ from (hb1.block _ HBX.out.lt).trans HBX.out)
    obtain ⟨x0, x1, x2, x3, x4, x5⟩ := six13 HX1.out
    clear hb1
    go_wp2_with fail
    refine (HG.out w1 HB1.out).mono ?_
    rintro e w2 ⟨g, rfl, -, hb2⟩
    have HB2 := Lib.hid (HB1.out.trans (hb2.mono HB1.out.size))
    have HX2 := Lib.hid (show Blk w2 w.heap.size _ _ from (hb2.block _ HX1.out.lt).trans HX1.out)
    clear hb2 x0 x1 x2 x3 x4 x5
    rcases g with _ | _
    rotate_left
    · go_wp2
      go_ret
      exact ⟨rfl, HB2.out⟩
    obtain ⟨x0, x1, x2, x3, x4, x5⟩ := six13 HX2.out
    have f0 := HX2.out.frozen 0
    go_wp2_with (first | fail | refine wpList_storeF rfl _ _ _ rfl w.heap.size 0 rfl _ rfl _ _ HX2.out (by go_simp) ?k5)
    case k5 =>
      intro w3 hb3 hk3
      have hb3' : Blk w3 w.heap.size #[.int .i64 (2 + (K : Int)), .int .i64 id, .int .i64 cls, .int .i64 tick, .bool false, .slice A n cap] 24 := hb3
      have HB3 := Lib.hid (Kept.below HB2.out hk3 (by simp))
      have HX3 := Lib.hid hb3'
      clear hb3 hk3 x0 x1 x2 x3 x4 x5 f0
      obtain ⟨x0, x1, x2, x3, x4, x5⟩ := six13 hb3'
      clear hb3'
      have HB4 := Lib.hid (HB3.out.alloc HB3.out.size (.cells #[.int .i64 (6 + (c : Int)), .int .i64 id, .int .i64 cls, .int .i64 tick, .bool false, .slice A n cap] 24))
      obtain ⟨y0, y1, y2, y3, y4, y5⟩ := six13 (blk_past HX3.out (.cells #[.int .i64 (6 + (c : Int)), .int .i64 id, .int .i64 cls, .int .i64 tick, .bool false, .slice A n cap] 24))
      have HX5 := Lib.hid (Blk.new w3 #[.int .i64 (6 + (c : Int)), .int .i64 id, .int .i64 cls, .int .i64 tick, .bool false, .slice A n cap] 24)
      go_wp2_with fail
      refine (HRX.out _ HB4.out).mono ?_
      rintro e w5 ⟨rfl, hb5⟩
      have HB5 := Lib.hid (HB4.out.trans (hb5.mono HB4.out.size))
      obtain ⟨z0, z1, z2, z3, z4, z5⟩ := six13 ((hb5.block _ HX5.out.lt).trans HX5.out)
      clear hb5 x0 x1 x2 x3 x4 x5 y0 y1 y2 y3 y4 y5
      go_wp2_with fail
      refine (HRY.out w5 HB5.out).mono ?_
      rintro e w6 ⟨rfl, hb6⟩
      have HB6 := Lib.hid (HB5.out.trans (hb6.mono HB5.out.size))
      clear hb6
      go_wp2
      go_ret
      exact ⟨rfl, HB6.out⟩
  have d2 : ((n : Int) == 0) = true := by rw [beq_iff_eq]; omega
  by_cases h3 : 1 ≤ id
  rotate_left
  · have d3 : decide (1 ≤ id) = false := by rw [decide_eq_false_iff_not]; omega
    have HD := Lib.hid (HT.out false (by simp_all <;> omega))
    rw [HD.out] at HRX
    clear h0 h2 h3 HBI HT
    go_enter Tryd.func7, Tryd.ntmps7
    go_wp2_with fail
    refine HH0.out.mono ?_
    rintro e w1 ⟨rfl, hb1⟩
    have HB1 := Lib.hid (HB0.out.trans (hb1.mono HB0.out.size))
    have HX1 := Lib.hid (show Blk w1 w.heap.size _ _ from (hb1.block _ HBX.out.lt).trans HBX.out)
    obtain ⟨x0, x1, x2, x3, x4, x5⟩ := six13 HX1.out
    clear hb1
    go_wp2_with fail
    refine (HG.out w1 HB1.out).mono ?_
    rintro e w2 ⟨g, rfl, -, hb2⟩
    have HB2 := Lib.hid (HB1.out.trans (hb2.mono HB1.out.size))
    have HX2 := Lib.hid (show Blk w2 w.heap.size _ _ from (hb2.block _ HX1.out.lt).trans HX1.out)
    clear hb2 x0 x1 x2 x3 x4 x5
    rcases g with _ | _
    rotate_left
    · go_wp2
      go_ret
      exact ⟨rfl, HB2.out⟩
    obtain ⟨x0, x1, x2, x3, x4, x5⟩ := six13 HX2.out
    have f0 := HX2.out.frozen 0
    go_wp2_with (first | fail | refine wpList_storeF rfl _ _ _ rfl w.heap.size 0 rfl _ rfl _ _ HX2.out (by go_simp) ?k5)
    case k5 =>
      intro w3 hb3 hk3
      have hb3' : Blk w3 w.heap.size #[.int .i64 (2 + (K : Int)), .int .i64 id, .int .i64 cls, .int .i64 tick, .bool false, .slice A n cap] 24 := hb3
      have HB3 := Lib.hid (Kept.below HB2.out hk3 (by simp))
      have HX3 := Lib.hid hb3'
      clear hb3 hk3 x0 x1 x2 x3 x4 x5 f0
      obtain ⟨x0, x1, x2, x3, x4, x5⟩ := six13 hb3'
      clear hb3'
      have HB4 := Lib.hid (HB3.out.alloc HB3.out.size (.cells #[.int .i64 (6 + (c : Int)), .int .i64 id, .int .i64 cls, .int .i64 tick, .bool false, .slice A n cap] 24))
      obtain ⟨y0, y1, y2, y3, y4, y5⟩ := six13 (blk_past HX3.out (.cells #[.int .i64 (6 + (c : Int)), .int .i64 id, .int .i64 cls, .int .i64 tick, .bool false, .slice A n cap] 24))
      have HX5 := Lib.hid (Blk.new w3 #[.int .i64 (6 + (c : Int)), .int .i64 id, .int .i64 cls, .int .i64 tick, .bool false, .slice A n cap] 24)
      go_wp2_with fail
      refine (HRX.out _ HB4.out).mono ?_
      rintro e w5 ⟨rfl, hb5⟩
      have HB5 := Lib.hid (HB4.out.trans (hb5.mono HB4.out.size))
      obtain ⟨z0, z1, z2, z3, z4, z5⟩ := six13 ((hb5.block _ HX5.out.lt).trans HX5.out)
      clear hb5 x0 x1 x2 x3 x4 x5 y0 y1 y2 y3 y4 y5
      go_wp2_with fail
      refine (HRY.out w5 HB5.out).mono ?_
      rintro e w6 ⟨rfl, hb6⟩
      have HB6 := Lib.hid (HB5.out.trans (hb6.mono HB5.out.size))
      clear hb6
      go_wp2
      go_ret
      exact ⟨rfl, HB6.out⟩
  have d3 : decide (1 ≤ id) = true := by rw [decide_eq_true_eq]; omega
  by_cases h4 : id ≤ 281474976710656
  rotate_left
  · have d4 : decide (id ≤ 281474976710656) = false := by rw [decide_eq_false_iff_not]; omega
    have HD := Lib.hid (HT.out false (by simp_all <;> omega))
    rw [HD.out] at HRX
    clear h0 h2 h3 h4 HBI HT
    go_enter Tryd.func7, Tryd.ntmps7
    go_wp2_with fail
    refine HH0.out.mono ?_
    rintro e w1 ⟨rfl, hb1⟩
    have HB1 := Lib.hid (HB0.out.trans (hb1.mono HB0.out.size))
    have HX1 := Lib.hid (show Blk w1 w.heap.size _ _ from (hb1.block _ HBX.out.lt).trans HBX.out)
    obtain ⟨x0, x1, x2, x3, x4, x5⟩ := six13 HX1.out
    clear hb1
    go_wp2_with fail
    refine (HG.out w1 HB1.out).mono ?_
    rintro e w2 ⟨g, rfl, -, hb2⟩
    have HB2 := Lib.hid (HB1.out.trans (hb2.mono HB1.out.size))
    have HX2 := Lib.hid (show Blk w2 w.heap.size _ _ from (hb2.block _ HX1.out.lt).trans HX1.out)
    clear hb2 x0 x1 x2 x3 x4 x5
    rcases g with _ | _
    rotate_left
    · go_wp2
      go_ret
      exact ⟨rfl, HB2.out⟩
    obtain ⟨x0, x1, x2, x3, x4, x5⟩ := six13 HX2.out
    have f0 := HX2.out.frozen 0
    go_wp2_with (first | fail | refine wpList_storeF rfl _ _ _ rfl w.heap.size 0 rfl _ rfl _ _ HX2.out (by go_simp) ?k5)
    case k5 =>
      intro w3 hb3 hk3
      have hb3' : Blk w3 w.heap.size #[.int .i64 (2 + (K : Int)), .int .i64 id, .int .i64 cls, .int .i64 tick, .bool false, .slice A n cap] 24 := hb3
      have HB3 := Lib.hid (Kept.below HB2.out hk3 (by simp))
      have HX3 := Lib.hid hb3'
      clear hb3 hk3 x0 x1 x2 x3 x4 x5 f0
      obtain ⟨x0, x1, x2, x3, x4, x5⟩ := six13 hb3'
      clear hb3'
      have HB4 := Lib.hid (HB3.out.alloc HB3.out.size (.cells #[.int .i64 (6 + (c : Int)), .int .i64 id, .int .i64 cls, .int .i64 tick, .bool false, .slice A n cap] 24))
      obtain ⟨y0, y1, y2, y3, y4, y5⟩ := six13 (blk_past HX3.out (.cells #[.int .i64 (6 + (c : Int)), .int .i64 id, .int .i64 cls, .int .i64 tick, .bool false, .slice A n cap] 24))
      have HX5 := Lib.hid (Blk.new w3 #[.int .i64 (6 + (c : Int)), .int .i64 id, .int .i64 cls, .int .i64 tick, .bool false, .slice A n cap] 24)
      go_wp2_with fail
      refine (HRX.out _ HB4.out).mono ?_
      rintro e w5 ⟨rfl, hb5⟩
      have HB5 := Lib.hid (HB4.out.trans (hb5.mono HB4.out.size))
      obtain ⟨z0, z1, z2, z3, z4, z5⟩ := six13 ((hb5.block _ HX5.out.lt).trans HX5.out)
      clear hb5 x0 x1 x2 x3 x4 x5 y0 y1 y2 y3 y4 y5
      go_wp2_with fail
      refine (HRY.out w5 HB5.out).mono ?_
      rintro e w6 ⟨rfl, hb6⟩
      have HB6 := Lib.hid (HB5.out.trans (hb6.mono HB5.out.size))
      clear hb6
      go_wp2
      go_ret
      exact ⟨rfl, HB6.out⟩
  have d4 : decide (id ≤ 281474976710656) = true := by rw [decide_eq_true_eq]; omega
  by_cases h5 : cls = 0
  · have d5 : (cls == 0) = true := by rw [beq_iff_eq]; exact h5
    have HD := Lib.hid (HT.out true (by simp_all <;> omega))
    rw [HD.out] at HRX
    clear h0 h2 h3 h4 h5 HBI HT
    go_enter Tryd.func7, Tryd.ntmps7
    go_wp2_with fail
    refine HH0.out.mono ?_
    rintro e w1 ⟨rfl, hb1⟩
    have HB1 := Lib.hid (HB0.out.trans (hb1.mono HB0.out.size))
    have HX1 := Lib.hid (show Blk w1 w.heap.size _ _ from (hb1.block _ HBX.out.lt).trans HBX.out)
    obtain ⟨x0, x1, x2, x3, x4, x5⟩ := six13 HX1.out
    clear hb1
    go_wp2_with fail
    refine (HG.out w1 HB1.out).mono ?_
    rintro e w2 ⟨g, rfl, -, hb2⟩
    have HB2 := Lib.hid (HB1.out.trans (hb2.mono HB1.out.size))
    have HX2 := Lib.hid (show Blk w2 w.heap.size _ _ from (hb2.block _ HX1.out.lt).trans HX1.out)
    clear hb2 x0 x1 x2 x3 x4 x5
    rcases g with _ | _
    rotate_left
    · go_wp2
      go_ret
      exact ⟨rfl, HB2.out⟩
    obtain ⟨x0, x1, x2, x3, x4, x5⟩ := six13 HX2.out
    have f0 := HX2.out.frozen 0
    go_wp2_with (first | fail | refine wpList_storeF rfl _ _ _ rfl w.heap.size 0 rfl _ rfl _ _ HX2.out (by go_simp) ?k5)
    case k5 =>
      intro w3 hb3 hk3
      have hb3' : Blk w3 w.heap.size #[.int .i64 (2 + (K : Int)), .int .i64 id, .int .i64 cls, .int .i64 tick, .bool false, .slice A n cap] 24 := hb3
      have HB3 := Lib.hid (Kept.below HB2.out hk3 (by simp))
      have HX3 := Lib.hid hb3'
      clear hb3 hk3 x0 x1 x2 x3 x4 x5 f0
      obtain ⟨x0, x1, x2, x3, x4, x5⟩ := six13 hb3'
      clear hb3'
      have HB4 := Lib.hid (HB3.out.alloc HB3.out.size (.cells #[.int .i64 (6 + (c : Int)), .int .i64 id, .int .i64 cls, .int .i64 tick, .bool false, .slice A n cap] 24))
      obtain ⟨y0, y1, y2, y3, y4, y5⟩ := six13 (blk_past HX3.out (.cells #[.int .i64 (6 + (c : Int)), .int .i64 id, .int .i64 cls, .int .i64 tick, .bool false, .slice A n cap] 24))
      have HX5 := Lib.hid (Blk.new w3 #[.int .i64 (6 + (c : Int)), .int .i64 id, .int .i64 cls, .int .i64 tick, .bool false, .slice A n cap] 24)
      go_wp2_with fail
      refine (HRX.out _ HB4.out).mono ?_
      rintro e w5 ⟨rfl, hb5⟩
      have HB5 := Lib.hid (HB4.out.trans (hb5.mono HB4.out.size))
      obtain ⟨z0, z1, z2, z3, z4, z5⟩ := six13 ((hb5.block _ HX5.out.lt).trans HX5.out)
      clear hb5 x0 x1 x2 x3 x4 x5 y0 y1 y2 y3 y4 y5
      go_wp2_with fail
      refine (HRY.out w5 HB5.out).mono ?_
      rintro e w6 ⟨rfl, hb6⟩
      have HB6 := Lib.hid (HB5.out.trans (hb6.mono HB5.out.size))
      clear hb6
      go_wp2
      go_ret
      exact ⟨rfl, HB6.out⟩
  have d5 : (cls == 0) = false := by rw [beq_eq_false_iff_ne]; exact h5
  by_cases h6 : 2 + (K : Int) = 4
  rotate_left
  · have d6 : (2 + (K : Int) == 4) = false := by rw [beq_eq_false_iff_ne]; exact h6
    have HD := Lib.hid (HT.out false (by simp_all <;> omega))
    rw [HD.out] at HRX
    clear h0 h2 h3 h4 h5 h6 HBI HT
    go_enter Tryd.func7, Tryd.ntmps7
    go_wp2_with fail
    refine HH0.out.mono ?_
    rintro e w1 ⟨rfl, hb1⟩
    have HB1 := Lib.hid (HB0.out.trans (hb1.mono HB0.out.size))
    have HX1 := Lib.hid (show Blk w1 w.heap.size _ _ from (hb1.block _ HBX.out.lt).trans HBX.out)
    obtain ⟨x0, x1, x2, x3, x4, x5⟩ := six13 HX1.out
    clear hb1
    go_wp2_with fail
    refine (HG.out w1 HB1.out).mono ?_
    rintro e w2 ⟨g, rfl, -, hb2⟩
    have HB2 := Lib.hid (HB1.out.trans (hb2.mono HB1.out.size))
    have HX2 := Lib.hid (show Blk w2 w.heap.size _ _ from (hb2.block _ HX1.out.lt).trans HX1.out)
    clear hb2 x0 x1 x2 x3 x4 x5
    rcases g with _ | _
    rotate_left
    · go_wp2
      go_ret
      exact ⟨rfl, HB2.out⟩
    obtain ⟨x0, x1, x2, x3, x4, x5⟩ := six13 HX2.out
    have f0 := HX2.out.frozen 0
    go_wp2_with (first | fail | refine wpList_storeF rfl _ _ _ rfl w.heap.size 0 rfl _ rfl _ _ HX2.out (by go_simp) ?k5)
    case k5 =>
      intro w3 hb3 hk3
      have hb3' : Blk w3 w.heap.size #[.int .i64 (2 + (K : Int)), .int .i64 id, .int .i64 cls, .int .i64 tick, .bool false, .slice A n cap] 24 := hb3
      have HB3 := Lib.hid (Kept.below HB2.out hk3 (by simp))
      have HX3 := Lib.hid hb3'
      clear hb3 hk3 x0 x1 x2 x3 x4 x5 f0
      obtain ⟨x0, x1, x2, x3, x4, x5⟩ := six13 hb3'
      clear hb3'
      have HB4 := Lib.hid (HB3.out.alloc HB3.out.size (.cells #[.int .i64 (6 + (c : Int)), .int .i64 id, .int .i64 cls, .int .i64 tick, .bool false, .slice A n cap] 24))
      obtain ⟨y0, y1, y2, y3, y4, y5⟩ := six13 (blk_past HX3.out (.cells #[.int .i64 (6 + (c : Int)), .int .i64 id, .int .i64 cls, .int .i64 tick, .bool false, .slice A n cap] 24))
      have HX5 := Lib.hid (Blk.new w3 #[.int .i64 (6 + (c : Int)), .int .i64 id, .int .i64 cls, .int .i64 tick, .bool false, .slice A n cap] 24)
      go_wp2_with fail
      refine (HRX.out _ HB4.out).mono ?_
      rintro e w5 ⟨rfl, hb5⟩
      have HB5 := Lib.hid (HB4.out.trans (hb5.mono HB4.out.size))
      obtain ⟨z0, z1, z2, z3, z4, z5⟩ := six13 ((hb5.block _ HX5.out.lt).trans HX5.out)
      clear hb5 x0 x1 x2 x3 x4 x5 y0 y1 y2 y3 y4 y5
      go_wp2_with fail
      refine (HRY.out w5 HB5.out).mono ?_
      rintro e w6 ⟨rfl, hb6⟩
      have HB6 := Lib.hid (HB5.out.trans (hb6.mono HB5.out.size))
      clear hb6
      go_wp2
      go_ret
      exact ⟨rfl, HB6.out⟩
  have d6 : (2 + (K : Int) == 4) = true := by rw [beq_iff_eq]; exact h6
  by_cases h7 : 0 < cls
  rotate_left
  · have d7 : decide (0 < cls) = false := by rw [decide_eq_false_iff_not]; omega
    have HD := Lib.hid (HT.out false (by simp_all <;> omega))
    rw [HD.out] at HRX
    clear h0 h2 h3 h4 h5 h6 h7 HBI HT
    go_enter Tryd.func7, Tryd.ntmps7
    go_wp2_with fail
    refine HH0.out.mono ?_
    rintro e w1 ⟨rfl, hb1⟩
    have HB1 := Lib.hid (HB0.out.trans (hb1.mono HB0.out.size))
    have HX1 := Lib.hid (show Blk w1 w.heap.size _ _ from (hb1.block _ HBX.out.lt).trans HBX.out)
    obtain ⟨x0, x1, x2, x3, x4, x5⟩ := six13 HX1.out
    clear hb1
    go_wp2_with fail
    refine (HG.out w1 HB1.out).mono ?_
    rintro e w2 ⟨g, rfl, -, hb2⟩
    have HB2 := Lib.hid (HB1.out.trans (hb2.mono HB1.out.size))
    have HX2 := Lib.hid (show Blk w2 w.heap.size _ _ from (hb2.block _ HX1.out.lt).trans HX1.out)
    clear hb2 x0 x1 x2 x3 x4 x5
    rcases g with _ | _
    rotate_left
    · go_wp2
      go_ret
      exact ⟨rfl, HB2.out⟩
    obtain ⟨x0, x1, x2, x3, x4, x5⟩ := six13 HX2.out
    have f0 := HX2.out.frozen 0
    go_wp2_with (first | fail | refine wpList_storeF rfl _ _ _ rfl w.heap.size 0 rfl _ rfl _ _ HX2.out (by go_simp) ?k5)
    case k5 =>
      intro w3 hb3 hk3
      have hb3' : Blk w3 w.heap.size #[.int .i64 (2 + (K : Int)), .int .i64 id, .int .i64 cls, .int .i64 tick, .bool false, .slice A n cap] 24 := hb3
      have HB3 := Lib.hid (Kept.below HB2.out hk3 (by simp))
      have HX3 := Lib.hid hb3'
      clear hb3 hk3 x0 x1 x2 x3 x4 x5 f0
      obtain ⟨x0, x1, x2, x3, x4, x5⟩ := six13 hb3'
      clear hb3'
      have HB4 := Lib.hid (HB3.out.alloc HB3.out.size (.cells #[.int .i64 (6 + (c : Int)), .int .i64 id, .int .i64 cls, .int .i64 tick, .bool false, .slice A n cap] 24))
      obtain ⟨y0, y1, y2, y3, y4, y5⟩ := six13 (blk_past HX3.out (.cells #[.int .i64 (6 + (c : Int)), .int .i64 id, .int .i64 cls, .int .i64 tick, .bool false, .slice A n cap] 24))
      have HX5 := Lib.hid (Blk.new w3 #[.int .i64 (6 + (c : Int)), .int .i64 id, .int .i64 cls, .int .i64 tick, .bool false, .slice A n cap] 24)
      go_wp2_with fail
      refine (HRX.out _ HB4.out).mono ?_
      rintro e w5 ⟨rfl, hb5⟩
      have HB5 := Lib.hid (HB4.out.trans (hb5.mono HB4.out.size))
      obtain ⟨z0, z1, z2, z3, z4, z5⟩ := six13 ((hb5.block _ HX5.out.lt).trans HX5.out)
      clear hb5 x0 x1 x2 x3 x4 x5 y0 y1 y2 y3 y4 y5
      go_wp2_with fail
      refine (HRY.out w5 HB5.out).mono ?_
      rintro e w6 ⟨rfl, hb6⟩
      have HB6 := Lib.hid (HB5.out.trans (hb6.mono HB5.out.size))
      clear hb6
      go_wp2
      go_ret
      exact ⟨rfl, HB6.out⟩
  have d7 : decide (0 < cls) = true := by rw [decide_eq_true_eq]; omega
  by_cases h8 : cls ≤ 7
  rotate_left
  · have d8 : decide (cls ≤ 7) = false := by rw [decide_eq_false_iff_not]; omega
    have HD := Lib.hid (HT.out false (by simp_all <;> omega))
    rw [HD.out] at HRX
    clear h0 h2 h3 h4 h5 h6 h7 h8 HBI HT
    go_enter Tryd.func7, Tryd.ntmps7
    go_wp2_with fail
    refine HH0.out.mono ?_
    rintro e w1 ⟨rfl, hb1⟩
    have HB1 := Lib.hid (HB0.out.trans (hb1.mono HB0.out.size))
    have HX1 := Lib.hid (show Blk w1 w.heap.size _ _ from (hb1.block _ HBX.out.lt).trans HBX.out)
    obtain ⟨x0, x1, x2, x3, x4, x5⟩ := six13 HX1.out
    clear hb1
    go_wp2_with fail
    refine (HG.out w1 HB1.out).mono ?_
    rintro e w2 ⟨g, rfl, -, hb2⟩
    have HB2 := Lib.hid (HB1.out.trans (hb2.mono HB1.out.size))
    have HX2 := Lib.hid (show Blk w2 w.heap.size _ _ from (hb2.block _ HX1.out.lt).trans HX1.out)
    clear hb2 x0 x1 x2 x3 x4 x5
    rcases g with _ | _
    rotate_left
    · go_wp2
      go_ret
      exact ⟨rfl, HB2.out⟩
    obtain ⟨x0, x1, x2, x3, x4, x5⟩ := six13 HX2.out
    have f0 := HX2.out.frozen 0
    go_wp2_with (first | fail | refine wpList_storeF rfl _ _ _ rfl w.heap.size 0 rfl _ rfl _ _ HX2.out (by go_simp) ?k5)
    case k5 =>
      intro w3 hb3 hk3
      have hb3' : Blk w3 w.heap.size #[.int .i64 (2 + (K : Int)), .int .i64 id, .int .i64 cls, .int .i64 tick, .bool false, .slice A n cap] 24 := hb3
      have HB3 := Lib.hid (Kept.below HB2.out hk3 (by simp))
      have HX3 := Lib.hid hb3'
      clear hb3 hk3 x0 x1 x2 x3 x4 x5 f0
      obtain ⟨x0, x1, x2, x3, x4, x5⟩ := six13 hb3'
      clear hb3'
      have HB4 := Lib.hid (HB3.out.alloc HB3.out.size (.cells #[.int .i64 (6 + (c : Int)), .int .i64 id, .int .i64 cls, .int .i64 tick, .bool false, .slice A n cap] 24))
      obtain ⟨y0, y1, y2, y3, y4, y5⟩ := six13 (blk_past HX3.out (.cells #[.int .i64 (6 + (c : Int)), .int .i64 id, .int .i64 cls, .int .i64 tick, .bool false, .slice A n cap] 24))
      have HX5 := Lib.hid (Blk.new w3 #[.int .i64 (6 + (c : Int)), .int .i64 id, .int .i64 cls, .int .i64 tick, .bool false, .slice A n cap] 24)
      go_wp2_with fail
      refine (HRX.out _ HB4.out).mono ?_
      rintro e w5 ⟨rfl, hb5⟩
      have HB5 := Lib.hid (HB4.out.trans (hb5.mono HB4.out.size))
      obtain ⟨z0, z1, z2, z3, z4, z5⟩ := six13 ((hb5.block _ HX5.out.lt).trans HX5.out)
      clear hb5 x0 x1 x2 x3 x4 x5 y0 y1 y2 y3 y4 y5
      go_wp2_with fail
      refine (HRY.out w5 HB5.out).mono ?_
      rintro e w6 ⟨rfl, hb6⟩
      have HB6 := Lib.hid (HB5.out.trans (hb6.mono HB5.out.size))
      clear hb6
      go_wp2
      go_ret
      exact ⟨rfl, HB6.out⟩
  have d8 : decide (cls ≤ 7) = true := by rw [decide_eq_true_eq]; omega
  have HD := Lib.hid (HT.out true (by simp_all <;> omega))
  rw [HD.out] at HRX
  clear h0 h2 h3 h4 h5 h6 h7 h8 HBI HT
  go_enter Tryd.func7, Tryd.ntmps7
  go_wp2_with fail
  refine HH0.out.mono ?_
  rintro e w1 ⟨rfl, hb1⟩
  have HB1 := Lib.hid (HB0.out.trans (hb1.mono HB0.out.size))
  have HX1 := Lib.hid (show Blk w1 w.heap.size _ _ from (hb1.block _ HBX.out.lt).trans HBX.out)
  obtain ⟨x0, x1, x2, x3, x4, x5⟩ := six13 HX1.out
  clear hb1
  go_wp2_with fail
  refine (HG.out w1 HB1.out).mono ?_
  rintro e w2 ⟨g, rfl, -, hb2⟩
  have HB2 := Lib.hid (HB1.out.trans (hb2.mono HB1.out.size))
  have HX2 := Lib.hid (show Blk w2 w.heap.size _ _ from (hb2.block _ HX1.out.lt).trans HX1.out)
  clear hb2 x0 x1 x2 x3 x4 x5
  rcases g with _ | _
  rotate_left
  · go_wp2
    go_ret
    exact ⟨rfl, HB2.out⟩
  obtain ⟨x0, x1, x2, x3, x4, x5⟩ := six13 HX2.out
  have f0 := HX2.out.frozen 0
  go_wp2_with (first | fail | refine wpList_storeF rfl _ _ _ rfl w.heap.size 0 rfl _ rfl _ _ HX2.out (by go_simp) ?k5)
  case k5 =>
    intro w3 hb3 hk3
    have hb3' : Blk w3 w.heap.size #[.int .i64 (2 + (K : Int)), .int .i64 id, .int .i64 cls, .int .i64 tick, .bool false, .slice A n cap] 24 := hb3
    have HB3 := Lib.hid (Kept.below HB2.out hk3 (by simp))
    have HX3 := Lib.hid hb3'
    clear hb3 hk3 x0 x1 x2 x3 x4 x5 f0
    obtain ⟨x0, x1, x2, x3, x4, x5⟩ := six13 hb3'
    clear hb3'
    have HB4 := Lib.hid (HB3.out.alloc HB3.out.size (.cells #[.int .i64 (6 + (c : Int)), .int .i64 id, .int .i64 cls, .int .i64 tick, .bool false, .slice A n cap] 24))
    obtain ⟨y0, y1, y2, y3, y4, y5⟩ := six13 (blk_past HX3.out (.cells #[.int .i64 (6 + (c : Int)), .int .i64 id, .int .i64 cls, .int .i64 tick, .bool false, .slice A n cap] 24))
    have HX5 := Lib.hid (Blk.new w3 #[.int .i64 (6 + (c : Int)), .int .i64 id, .int .i64 cls, .int .i64 tick, .bool false, .slice A n cap] 24)
    go_wp2_with fail
    refine (HRX.out _ HB4.out).mono ?_
    rintro e w5 ⟨rfl, hb5⟩
    have HB5 := Lib.hid (HB4.out.trans (hb5.mono HB4.out.size))
    obtain ⟨z0, z1, z2, z3, z4, z5⟩ := six13 ((hb5.block _ HX5.out.lt).trans HX5.out)
    clear hb5 x0 x1 x2 x3 x4 x5 y0 y1 y2 y3 y4 y5
    go_wp2_with fail
    refine (HRY.out w5 HB5.out).mono ?_
    rintro e w6 ⟨rfl, hb6⟩
    have HB6 := Lib.hid (HB5.out.trans (hb6.mono HB5.out.size))
    clear hb6
    go_wp2
    go_ret
    exact ⟨rfl, HB6.out⟩

theorem walk (w : World) (hH : Handle w) (q : Rc.R) (A : Option Addr) (cap : Nat) (hl : q.sp.length ≤ cap) (hm : cap ≤ maxLen) (hB : Lies w A (flat q.sp)) (hS : Fine q.sp) (x : Int) (hx : 0 ≤ x ∧ x ≤ 255) :
    Calls Tryd.prog 7 #[recV q A q.sp.length cap, .int .u8 x] w fun e w' => e = .returned (.bool true) ∧ Below w.heap.size w w' := by
  obtain ⟨c, rfl⟩ := Int.eq_ofNat_of_zero_le hx.1
  exact walkN w hH q A q.sp.length cap c rfl hl hm hB hS (by omega)


set_option maxRecDepth 100000 in
theorem lifted (os : Os) (started : os.Started) (H : Type) (enc : TypeId × Value → H) :
    ReturnsInHanded {} Tryd.checked os 7 .any (fun w args => (Rows.recBareSpec.pre enc Tryd.prog Tryd.f7 [] false w args ∧ laidMetH Tryd.prog laidHere w) ∧ sizedMet enc Tryd.prog Tryd.f7 (OpenSpec.ofChange Rows.recBareSpec) false w args) (Rows.recBareSpec.post enc Tryd.prog Tryd.f7 false true false false) := by
  refine returnsInHanded_of_change_and (C := Tryd.checked) (X := fun w _ => laidMetH Tryd.prog laidHere w) (fun _ _ _ hh h => h.of_heap hh) own started (by kernel_rfl) Tryd.func7
    (ChangeSpec.witness_at (enc := enc) (C := Tryd.checked) (os := os) (X := fun w _ => laidMetH Tryd.prog laidHere w) false (laidWorld os) #[.agg #[.int .i64 0, .int .i64 0, .int .i64 0, .int .i64 0, .bool false, .slice none 0 0], .int .u8 0] 8 rfl (by kernel_rfl) (by kernel_rfl) (by kernel_rfl) (by kernel_rfl) (by kernel_rfl) (laidWorld_met os _)) ?_
  intro W base args ds gs before hval0 hW _ _ hL _
  have hval : ∀ (j : Nat) t v, Tryd.f7.params[j]? = some t → args[j]? = some v → Value.okWide Tryd.prog W .any base t v := hval0
  have hfin := fun W' => law_post (enc := enc) (P := Tryd.prog) (f := Tryd.f7) (s := Rows.recBareSpec) (tb := 4) (W := W) (W' := W') (args := args) (ds := ds) (gs := gs) (before := before) laidOut rfl (by kernel_rfl) Tryd.underlying4 (by kernel_rfl) (fun xs h => by rw [Tryd.params7] at h; match xs, h with | [_, _], _ => rfl) hW
  have hlt : ∀ x ∈ before, x.block < W.heap.size := fun x hx => hW.lt x hx
  obtain ⟨p, q, hA0, hV, rfl, hfz, hnd⟩ := hW
  have hA : DataW.TrodAll enc Tryd.prog W 0 (fun _ => true) true Tryd.f7.params.toList args.toList ds p := hA0
  rw [Tryd.params7] at hA hval
  obtain ⟨v0, vs0, d0, ds0, p0, q0, hargs, rfl, rfl, h0, r0⟩ := trodAll_cons hA
  obtain ⟨v1, vs1, d1, ds1, p1, q1, rfl, rfl, rfl, h1, r1⟩ := trodAll_cons r0
  obtain ⟨rfl, rfl, rfl⟩ := trodAll_nil r1
  obtain rfl : args = #[v0, v1] := by cases args; simp_all
  obtain ⟨q0, A0, cap0, rfl, hl0, hm0, hB0, hS0⟩ := open_rec (hval 0 24 v0 rfl rfl) h0 (fun x hx => hlt x (by simp [hx]))
  obtain ⟨a1, rfl, rfl, rfl, w1⟩ := open_int Tryd.underlying5 (hval 1 5 v1 rfl rfl) h1
  refine (walk W (of_laid hL) q0 A0 cap0 hl0 hm0 hB0 hS0 a1 (bounds_u8 w1)).mono fun e W' ⟨he, hg⟩ => ?_
  subst he
  exact ⟨_, rfl, hfin W' hg⟩

theorem proved : Rows.RecBareSaid :=
  OpenClaim.holds_of_wide 7 Tryd.f7 rfl rfl rfl rfl rfl rfl rfl ⟨rfl, rfl, rfl, rfl, rfl⟩ rfl rfl rfl rfl rfl (by kernel_rfl) Tryd.func7 (by kernel_rfl)
    (of_decide_eq_true (by kernel_rfl)) (by unfold Func.isWrapper; first | (rw [if_pos (by decide +kernel)]; kernel_rfl) | (rw [if_neg (by decide +kernel)]; exact ⟨rfl, rfl⟩))
    (fun os started H enc _ => lifted os started H enc)

set_option maxRecDepth 100000 in
theorem card : Rows.RecBareCardSaid :=
  Claim7.holds_tied_plain_at .later [] laidKindsHere true _ true
    proved (fun _ h => by cases h) (by kernel_rfl) (fun _ h => by cases h) recBare_row_tie rfl ⟨rfl, rfl⟩ (by kernel_rfl) rfl
    (fun f fn hf hfn => by
      obtain rfl : f = 7 := Option.some.inj ((show Tryd.prog.funcNamed "turntable/turntablelaw13.RecBare" = some 7 by kernel_rfl).symm.trans hf) |>.symm
      obtain rfl : fn = Tryd.f7 := (Option.some.inj (Tryd.func7.symm.trans hfn)).symm
      exact ⟨by kernel_rfl, fun j t ht => by
        rw [Tryd.params7] at ht
        have hm : t ∈ [24, 5] := Array.mem_def.1 (Array.mem_of_getElem? ht)
        have hall : ([24, 5].all fun u => !Tryd.prog.wantsStandIn u) = true := by kernel_rfl
        exact (show Tryd.prog.wantsStandIn t = false by simpa using List.all_eq_true.1 hall t hm)⟩)
    (by kernel_rfl)
#print axioms card
end Go.Proofs.YtdfeccmcefcpbaaDoor.recBare
