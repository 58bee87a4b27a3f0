/-
  Layer 13: the head of the laws: it holds, of a package rec that keeps its contracts.
-/
import Derived.Test.YtdfeccmcefcpbaaDoorHd13
import Derived.Test.YtdfeccmcefcpbaaDoorSpanO

namespace Go.Proofs.YtdfeccmcefcpbaaDoor
open Go.RowKit
set_option maxRecDepth 100000

theorem handle_below {w w' : World} (h : Handle w) (hb : Below w.heap.size w w') : Handle w' := h.below h.lt hb

theorem get13 {x : List UInt8} {r : Rc.R} {c : Nat} (h : Rc.rget x = (r, c)) {f : FuncId} {vs : Array Value} {w : World} (hc : Calls Tryd.prog f vs w (RGives13 w (Rc.rget x))) :
    Calls Tryd.prog f vs w (fun e w' => ∃ (A : Option Addr) (cap : Nat), e = .returned (.tuple #[recV r A r.sp.length cap, .int .i64 (c : Int)]) ∧ r.sp.length ≤ cap ∧ cap ≤ maxLen ∧ Lies w' A (flat r.sp) ∧ Below w.heap.size w w') := by
  rw [h] at hc
  exact hc.mono fun e w' ⟨A, cap, h1, h2, h3, h4, _, h6⟩ => ⟨A, cap, h1, h2, h3, h4, h6⟩

theorem same13_true {r : Rc.R} {vs : Array Value} {w : World} {f : FuncId} (h : Calls Tryd.prog f vs w fun e w' => e = .returned (.bool (decide (r = r))) ∧ Below w.heap.size w w') : Calls Tryd.prog f vs w fun e w' => e = .returned (.bool true) ∧ Below w.heap.size w w' := by
  rwa [decide_eq_true rfl] at h
theorem c13_some : ((Rc.cost [s13] : Nat) : Int) = 28 := by decide +kernel
theorem c13_zero : ((Rc.cost [] : Nat) : Int) = 0 := by decide +kernel

set_option maxHeartbeats 8000000 in
theorem head13_any (hOk : RecOk) (w : World) (hH : Handle w) :
    Calls Tryd.prog 10 #[] w fun e w' => e = .returned (.bool true) ∧ Below w.heap.size w w' := by
  have HOk := Lib.hid hOk
  have HH := Lib.hid hH
  have HO := Lib.hid (one13_any 4 1 w (by omega) (by omega))
  clear hOk hH
  go_enter Tryd.func10, Tryd.ntmps10
  go_wp2_with fail
  refine HO.out.mono ?_
  rintro e w1 ⟨rfl, hb1⟩
  have HB1 := Lib.hid hb1
  have hbz := Blk.new (w1.alloc (.cells #[.int .i64 4, .int .i64 1, .int .i64 0, .int .i64 10, .int .i64 5, .string ⟨#[119, 101, 98]⟩, .string ⟨#[110]⟩] 40)) #[.int .i64 0, .int .i64 0, .int .i64 0, .int .i64 0, .bool false, .slice none 0 0] 24
  have HBZ := Lib.hid hbz
  clear hb1 hbz
  go_wp2_with (first | fail | refine wpList_storeR rfl _ _ rfl (w1.heap.size + 1) rfl 1 4 3 9 true (some ⟨w1.heap.size, 0, none⟩) 1 1 rfl _ _ _ _ _ _ (by simpa using HBZ.out) ?k1)
  case k1 =>
    intro w2 hb2 hk2
    have HL2 := Lib.hid (show Lies w2 (some ⟨w1.heap.size, 0, none⟩) (flat [s13]) from lies_other13 ((show Lies (w1.alloc (.cells #[.int .i64 4, .int .i64 1, .int .i64 0, .int .i64 10, .int .i64 5, .string ⟨#[119, 101, 98]⟩, .string ⟨#[110]⟩] 40)) (some ⟨w1.heap.size, 0, none⟩) (flat [s13]) from Lies.new w1 _ _).below ((Below.refl _ _).alloc (Nat.le_refl _) _)) HBZ.out (by simp) (by simpa using hk2))
    have HB2 := Lib.hid (Kept.below ((HB1.out.alloc HB1.out.size _).alloc (by have := HB1.out.size; simp; omega) _) hk2 (by have := HB1.out.size; simp; omega))
    have HR2 := Lib.hid hb2
    obtain ⟨q0, q1, q2, q3, q4, q5⟩ := six13 hb2
    clear hb2 hk2
    have hpl : (Rc.rput r13).length = 15 := by rw [r13_put, List.length_append, r13_len]; rfl
    have HP := Lib.hid (show Calls Tryd.prog 16 #[.agg #[.int .i64 1, .int .i64 4, .int .i64 3, .int .i64 9, .bool true, .slice (some ⟨w1.heap.size, 0, none⟩) 1 1]] w2 (Made w2 (Rc.rput r13)) from HOk.out.put r13 (some ⟨w1.heap.size, 0, none⟩) 1 1 w2 rfl (by omega) (by unfold maxLen; omega) HL2.out fine_s13)
    have hpg := r13_get
    have hpb := r13_put
    generalize Rc.rput r13 = P at *
    have HPG := Lib.hid hpg
    have HPB := Lib.hid hpb
    clear hpg hpb
    go_wp2_with fail
    refine HP.out.mono ?_
    rintro e w3 hM
    have C2_2 := Lib.hid (Below.refl w2.heap.size w2)
    have CW_2 := HB2
    obtain ⟨v3, rfl, ho, hc3⟩ := hM
    obtain ⟨g3, cap3, rfl, hl3, hm3, hL3⟩ := own_some ho (by rw [hpl]; omega)
    rw [hpl] at hl3 ⊢
    have C2_3 := Lib.hid hc3
    have CW_3 := Lib.hid (CW_2.out.trans (hc3.mono CW_2.out.size))
    have C3_3 := Lib.hid (Below.refl w3.heap.size w3)
    have HL3 := Lib.hid hL3
    clear hc3 ho hL3 q0 q1 q2 q3 q4 q5
    have HG1 := Lib.hid (show Calls Tryd.prog 12 #[.slice (some ⟨g3, 0, none⟩) 15 cap3] w3 (fun e w' => ∃ (A : Option Addr) (c : Nat), e = .returned (.tuple #[.agg #[.int .i64 1, .int .i64 4, .int .i64 3, .int .i64 9, .bool true, .slice A 1 c], .int .i64 0]) ∧ 1 ≤ c ∧ c ≤ maxLen ∧ Lies w' A (flat [s13]) ∧ Below w3.heap.size w3 w') from (get13 HPG.out (HOk.out.get (some ⟨g3, 0, none⟩) 15 cap3 P w3 (handle_below HH.out CW_3.out) hpl hl3 hm3 (by omega) HL3.out)))
    go_wp2_with fail
    refine HG1.out.mono ?_
    rintro e w4 ⟨A1, c1, rfl, hl1, hm1, hL1, hb1⟩
    have C2_4 := Lib.hid (C2_3.out.trans (hb1.mono C2_3.out.size))
    have CW_4 := Lib.hid (CW_3.out.trans (hb1.mono CW_3.out.size))
    have C3_4 := Lib.hid (C3_3.out.trans (hb1.mono C3_3.out.size))
    have HZ1 := Lib.hid (Blk.new w4 #[.int .i64 0, .int .i64 0, .int .i64 0, .int .i64 0, .bool false, .slice none 0 0] 24)
    have HLM1 := Lib.hid hL1
    clear hb1 hL1
    go_wp2_with (first | fail | refine wpList_storeR rfl _ _ rfl w4.heap.size rfl 1 4 3 9 true A1 1 c1 rfl _ _ _ _ _ _ HZ1.out ?s1)
    case s1 =>
    intro w5 hb hk
    have C2_5 := Lib.hid (Kept.below (C2_4.out.alloc C2_4.out.size _) hk (by have := C2_4.out.size; simp; omega))
    have CW_5 := Lib.hid (Kept.below (CW_4.out.alloc CW_4.out.size _) hk (by have := CW_4.out.size; simp; omega))
    have C3_5 := Lib.hid (Kept.below (C3_4.out.alloc C3_4.out.size _) hk (by have := C3_4.out.size; simp; omega))
    have HX5 := Lib.hid hb
    have HLN1 := Lib.hid (lies_other13 (HLM1.out.below ((Below.refl _ _).alloc (Nat.le_refl _) _)) HZ1.out (by simp) hk)
    clear hb hk
    have C5_5 := Lib.hid (Below.refl w5.heap.size w5)
    have HG2 := Lib.hid (show Calls Tryd.prog 12 #[.slice none 0 0] w5 (fun e w' => ∃ (A : Option Addr) (c : Nat), e = .returned (.tuple #[.agg #[.int .i64 0, .int .i64 0, .int .i64 0, .int .i64 0, .bool false, .slice A 0 c], .int .i64 11]) ∧ 0 ≤ c ∧ c ≤ maxLen ∧ Lies w' A (flat []) ∧ Below w5.heap.size w5 w') from (get13 g13_none (HOk.out.get none 0 0 [] w5 (handle_below HH.out CW_5.out) rfl (by omega) (by unfold maxLen; omega) (by omega) Lies.nil)))
    go_wp2_with fail
    refine HG2.out.mono ?_
    rintro e w6 ⟨A2, c2, rfl, hl2, hm2, hL2, hb2⟩
    have C2_6 := Lib.hid (C2_5.out.trans (hb2.mono C2_5.out.size))
    have CW_6 := Lib.hid (CW_5.out.trans (hb2.mono CW_5.out.size))
    have C3_6 := Lib.hid (C3_5.out.trans (hb2.mono C3_5.out.size))
    have C5_6 := Lib.hid (C5_5.out.trans (hb2.mono C5_5.out.size))
    have HZ2 := Lib.hid (Blk.new w6 #[.int .i64 0, .int .i64 0, .int .i64 0, .int .i64 0, .bool false, .slice none 0 0] 24)
    have HLM2 := Lib.hid hL2
    clear hb2 hL2
    go_wp2_with (first | fail | refine wpList_storeR rfl _ _ rfl w6.heap.size rfl 0 0 0 0 false A2 0 c2 rfl _ _ _ _ _ _ HZ2.out ?s2)
    case s2 =>
    intro w7 hb hk
    have C2_7 := Lib.hid (Kept.below (C2_6.out.alloc C2_6.out.size _) hk (by have := C2_6.out.size; simp; omega))
    have CW_7 := Lib.hid (Kept.below (CW_6.out.alloc CW_6.out.size _) hk (by have := CW_6.out.size; simp; omega))
    have C3_7 := Lib.hid (Kept.below (C3_6.out.alloc C3_6.out.size _) hk (by have := C3_6.out.size; simp; omega))
    have C5_7 := Lib.hid (Kept.below (C5_6.out.alloc C5_6.out.size _) hk (by have := C5_6.out.size; simp; omega))
    have HX7 := Lib.hid hb
    have HLN2 := Lib.hid (lies_other13 (HLM2.out.below ((Below.refl _ _).alloc (Nat.le_refl _) _)) HZ2.out (by simp) hk)
    clear hb hk
    have C2_7L := Lib.hid (show Below _ _ (w7.alloc (.cells #[.int .u8 6, .int .u8 1] 5)) from C2_7.out.alloc C2_7.out.size _)
    have CW_7L := Lib.hid (show Below _ _ (w7.alloc (.cells #[.int .u8 6, .int .u8 1] 5)) from CW_7.out.alloc CW_7.out.size _)
    have C3_7L := Lib.hid (show Below _ _ (w7.alloc (.cells #[.int .u8 6, .int .u8 1] 5)) from C3_7.out.alloc C3_7.out.size _)
    have C5_7L := Lib.hid (show Below _ _ (w7.alloc (.cells #[.int .u8 6, .int .u8 1] 5)) from C5_7.out.alloc C5_7.out.size _)
    have HLL7L := Lib.hid (show Lies (w7.alloc (.cells #[.int .u8 6, .int .u8 1] 5)) (some ⟨w7.heap.size, 0, none⟩) (cells [6, 1]) from Lies.new w7 _ _)
    have HG3 := Lib.hid (show Calls Tryd.prog 12 #[.slice (some ⟨w7.heap.size, 0, none⟩) 2 2] (w7.alloc (.cells #[.int .u8 6, .int .u8 1] 5)) (fun e w' => ∃ (A : Option Addr) (c : Nat), e = .returned (.tuple #[.agg #[.int .i64 0, .int .i64 0, .int .i64 0, .int .i64 0, .bool false, .slice A 0 c], .int .i64 12]) ∧ 0 ≤ c ∧ c ≤ maxLen ∧ Lies w' A (flat []) ∧ Below (w7.alloc (.cells #[.int .u8 6, .int .u8 1] 5)).heap.size (w7.alloc (.cells #[.int .u8 6, .int .u8 1] 5)) w') from (get13 g13_six (HOk.out.get (some ⟨w7.heap.size, 0, none⟩) 2 2 [6, 1] (w7.alloc (.cells #[.int .u8 6, .int .u8 1] 5)) (handle_below HH.out CW_7L.out) rfl (by omega) (by unfold maxLen; omega) (by omega) HLL7L.out)))
    go_wp2_with fail
    refine HG3.out.mono ?_
    rintro e w8 ⟨A3, c3, rfl, hl3, hm3, hL3, hb3⟩
    have C2_8 := Lib.hid (C2_7L.out.trans (hb3.mono C2_7L.out.size))
    have CW_8 := Lib.hid (CW_7L.out.trans (hb3.mono CW_7L.out.size))
    have C3_8 := Lib.hid (C3_7L.out.trans (hb3.mono C3_7L.out.size))
    have C5_8 := Lib.hid (C5_7L.out.trans (hb3.mono C5_7L.out.size))
    have HZ3 := Lib.hid (Blk.new w8 #[.int .i64 0, .int .i64 0, .int .i64 0, .int .i64 0, .bool false, .slice none 0 0] 24)
    have HLM3 := Lib.hid hL3
    clear hb3 hL3
    go_wp2_with (first | fail | refine wpList_storeR rfl _ _ rfl w8.heap.size rfl 0 0 0 0 false A3 0 c3 rfl _ _ _ _ _ _ HZ3.out ?s3)
    case s3 =>
    intro w9 hb hk
    have C2_9 := Lib.hid (Kept.below (C2_8.out.alloc C2_8.out.size _) hk (by have := C2_8.out.size; simp; omega))
    have CW_9 := Lib.hid (Kept.below (CW_8.out.alloc CW_8.out.size _) hk (by have := CW_8.out.size; simp; omega))
    have C3_9 := Lib.hid (Kept.below (C3_8.out.alloc C3_8.out.size _) hk (by have := C3_8.out.size; simp; omega))
    have C5_9 := Lib.hid (Kept.below (C5_8.out.alloc C5_8.out.size _) hk (by have := C5_8.out.size; simp; omega))
    have HX9 := Lib.hid hb
    have HLN3 := Lib.hid (lies_other13 (HLM3.out.below ((Below.refl _ _).alloc (Nat.le_refl _) _)) HZ3.out (by simp) hk)
    clear hb hk
    have C2_9L := Lib.hid (show Below _ _ (w9.alloc (.cells #[.int .u8 4, .int .u8 172, .int .u8 2, .int .u8 7] 5)) from C2_9.out.alloc C2_9.out.size _)
    have CW_9L := Lib.hid (show Below _ _ (w9.alloc (.cells #[.int .u8 4, .int .u8 172, .int .u8 2, .int .u8 7] 5)) from CW_9.out.alloc CW_9.out.size _)
    have C3_9L := Lib.hid (show Below _ _ (w9.alloc (.cells #[.int .u8 4, .int .u8 172, .int .u8 2, .int .u8 7] 5)) from C3_9.out.alloc C3_9.out.size _)
    have C5_9L := Lib.hid (show Below _ _ (w9.alloc (.cells #[.int .u8 4, .int .u8 172, .int .u8 2, .int .u8 7] 5)) from C5_9.out.alloc C5_9.out.size _)
    have HLL9L := Lib.hid (show Lies (w9.alloc (.cells #[.int .u8 4, .int .u8 172, .int .u8 2, .int .u8 7] 5)) (some ⟨w9.heap.size, 0, none⟩) (cells [4, 172, 2, 7]) from Lies.new w9 _ _)
    have HG4 := Lib.hid (show Calls Tryd.prog 12 #[.slice (some ⟨w9.heap.size, 0, none⟩) 4 4] (w9.alloc (.cells #[.int .u8 4, .int .u8 172, .int .u8 2, .int .u8 7] 5)) (fun e w' => ∃ (A : Option Addr) (c : Nat), e = .returned (.tuple #[.agg #[.int .i64 4, .int .i64 300, .int .i64 7, .int .i64 0, .bool false, .slice A 0 c], .int .i64 0]) ∧ 0 ≤ c ∧ c ≤ maxLen ∧ Lies w' A (flat []) ∧ Below (w9.alloc (.cells #[.int .u8 4, .int .u8 172, .int .u8 2, .int .u8 7] 5)).heap.size (w9.alloc (.cells #[.int .u8 4, .int .u8 172, .int .u8 2, .int .u8 7] 5)) w') from (get13 g13_four (HOk.out.get (some ⟨w9.heap.size, 0, none⟩) 4 4 [4, 172, 2, 7] (w9.alloc (.cells #[.int .u8 4, .int .u8 172, .int .u8 2, .int .u8 7] 5)) (handle_below HH.out CW_9L.out) rfl (by omega) (by unfold maxLen; omega) (by omega) HLL9L.out)))
    go_wp2_with fail
    refine HG4.out.mono ?_
    rintro e w10 ⟨A4, c4, rfl, hl4, hm4, hL4, hb4⟩
    have C2_10 := Lib.hid (C2_9L.out.trans (hb4.mono C2_9L.out.size))
    have CW_10 := Lib.hid (CW_9L.out.trans (hb4.mono CW_9L.out.size))
    have C3_10 := Lib.hid (C3_9L.out.trans (hb4.mono C3_9L.out.size))
    have C5_10 := Lib.hid (C5_9L.out.trans (hb4.mono C5_9L.out.size))
    have HZ4 := Lib.hid (Blk.new w10 #[.int .i64 0, .int .i64 0, .int .i64 0, .int .i64 0, .bool false, .slice none 0 0] 24)
    have HLM4 := Lib.hid hL4
    clear hb4 hL4
    go_wp2_with (first | fail | refine wpList_storeR rfl _ _ rfl w10.heap.size rfl 4 300 7 0 false A4 0 c4 rfl _ _ _ _ _ _ HZ4.out ?s4)
    case s4 =>
    intro w11 hb hk
    have C2_11 := Lib.hid (Kept.below (C2_10.out.alloc C2_10.out.size _) hk (by have := C2_10.out.size; simp; omega))
    have CW_11 := Lib.hid (Kept.below (CW_10.out.alloc CW_10.out.size _) hk (by have := CW_10.out.size; simp; omega))
    have C3_11 := Lib.hid (Kept.below (C3_10.out.alloc C3_10.out.size _) hk (by have := C3_10.out.size; simp; omega))
    have C5_11 := Lib.hid (Kept.below (C5_10.out.alloc C5_10.out.size _) hk (by have := C5_10.out.size; simp; omega))
    have HX11 := Lib.hid hb
    have HLN4 := Lib.hid (lies_other13 (HLM4.out.below ((Below.refl _ _).alloc (Nat.le_refl _) _)) HZ4.out (by simp) hk)
    clear hb hk
    have C11_11 := Lib.hid (Below.refl w11.heap.size w11)
    have HL11 := Lib.hid (HL3.out.below C3_11.out)
    have u0 : w11.cell? ⟨g3, 0, none⟩ = some (.int .u8 1) := by
      obtain ⟨ad, e, -, h3⟩ := HL11.out.at_ (k := 0) (by rw [cells_length, hpl]; omega)
      injection e with e; subst e
      have h4 : (cells P)[0]? = some (.int .u8 1) := by rw [HPB.out]; rfl
      rw [List.getElem?_eq_getElem (by rw [cells_length, hpl]; omega)] at h4
      rw [Option.some.inj h4] at h3
      simpa [Addr.add] using h3
    have u1 : w11.cell? ⟨g3, 1, none⟩ = some (.int .u8 11) := by
      obtain ⟨ad, e, -, h3⟩ := HL11.out.at_ (k := 1) (by rw [cells_length, hpl]; omega)
      injection e with e; subst e
      have h4 : (cells P)[1]? = some (.int .u8 11) := by rw [HPB.out]; rfl
      rw [List.getElem?_eq_getElem (by rw [cells_length, hpl]; omega)] at h4
      rw [Option.some.inj h4] at h3
      simpa [Addr.add] using h3
    have u2 : w11.cell? ⟨g3, 2, none⟩ = some (.int .u8 9) := by
      obtain ⟨ad, e, -, h3⟩ := HL11.out.at_ (k := 2) (by rw [cells_length, hpl]; omega)
      injection e with e; subst e
      have h4 : (cells P)[2]? = some (.int .u8 9) := by rw [HPB.out]; rfl
      rw [List.getElem?_eq_getElem (by rw [cells_length, hpl]; omega)] at h4
      rw [Option.some.inj h4] at h3
      simpa [Addr.add] using h3
    obtain ⟨a0, a1, a2, a3, a4, a5⟩ := six13 ((C5_11.out.block _ HX5.out.lt).trans HX5.out)
    obtain ⟨b0, b1, b2, b3, b4, b5⟩ := six13 ((C2_11.out.block _ HR2.out.lt).trans HR2.out)
    have HS1 := Lib.hid (show Calls Tryd.prog 20 #[.agg #[.int .i64 1, .int .i64 4, .int .i64 3, .int .i64 9, .bool true, .slice A1 1 c1], .agg #[.int .i64 1, .int .i64 4, .int .i64 3, .int .i64 9, .bool true, .slice (some ⟨w1.heap.size, 0, none⟩) 1 1]] w11 (fun e w' => e = .returned (.bool true) ∧ Below w11.heap.size w11 w') from (same13_true (rsame13_any r13 r13 A1 (some ⟨w1.heap.size, 0, none⟩) 1 1 c1 1 w11 rfl rfl hl1 (by omega) hm1 (by unfold maxLen; omega) (HLN1.out.below C5_11.out) (HL2.out.below C2_11.out))))
    go_wp2_with fail
    refine HS1.out.mono ?_
    rintro e w12 ⟨rfl, hb⟩
    have C2_12 := Lib.hid (C2_11.out.trans (hb.mono C2_11.out.size))
    have CW_12 := Lib.hid (CW_11.out.trans (hb.mono CW_11.out.size))
    have C3_12 := Lib.hid (C3_11.out.trans (hb.mono C3_11.out.size))
    have C5_12 := Lib.hid (C5_11.out.trans (hb.mono C5_11.out.size))
    have C11_12 := Lib.hid (C11_11.out.trans (hb.mono C11_11.out.size))
    clear hb
    clear a0 a1 a2 a3 a4 a5
    clear b0 b1 b2 b3 b4 b5
    obtain ⟨a0, a1, a2, a3, a4, a5⟩ := six13 ((C11_12.out.block _ HX11.out.lt).trans HX11.out)
    have HS2 := Lib.hid (show Calls Tryd.prog 20 #[.agg #[.int .i64 4, .int .i64 300, .int .i64 7, .int .i64 0, .bool false, .slice A4 0 c4], .agg #[.int .i64 4, .int .i64 300, .int .i64 7, .int .i64 0, .bool false, .slice none 0 0]] w12 (fun e w' => e = .returned (.bool true) ∧ Below w12.heap.size w12 w') from (same13_true (rsame13_any o13 o13 A4 none 0 0 c4 0 w12 rfl rfl hl4 (by omega) hm4 (by unfold maxLen; omega) Lies.nil Lies.nil)))
    go_wp2_with fail
    refine HS2.out.mono ?_
    rintro e w13 ⟨rfl, hb⟩
    have C2_13 := Lib.hid (C2_12.out.trans (hb.mono C2_12.out.size))
    have CW_13 := Lib.hid (CW_12.out.trans (hb.mono CW_12.out.size))
    have C3_13 := Lib.hid (C3_12.out.trans (hb.mono C3_12.out.size))
    have C5_13 := Lib.hid (C5_12.out.trans (hb.mono C5_12.out.size))
    have C11_13 := Lib.hid (C11_12.out.trans (hb.mono C11_12.out.size))
    clear hb
    clear a0 a1 a2 a3 a4 a5
    have HP2 := Lib.hid (show Calls Tryd.prog 16 #[.agg #[.int .i64 5, .int .i64 300, .int .i64 0, .int .i64 0, .bool false, .slice none 0 0]] w13 (Made w13 [5, 172, 2]) from d13_put ▸ HOk.out.put d13 none 0 0 w13 rfl (by omega) (by unfold maxLen; omega) Lies.nil (fun x hx => by simp [d13] at hx))
    go_wp2_with fail
    refine HP2.out.mono ?_
    rintro e w14 ⟨v14, rfl, ho13, hb⟩
    have ho14 : w14.ownsRow w13.heap.size 5 1 v14 3 (cells [5, 172, 2]) := ho13
    have C2_14 := Lib.hid (C2_13.out.trans (hb.mono C2_13.out.size))
    have CW_14 := Lib.hid (CW_13.out.trans (hb.mono CW_13.out.size))
    have C3_14 := Lib.hid (C3_13.out.trans (hb.mono C3_13.out.size))
    have C5_14 := Lib.hid (C5_13.out.trans (hb.mono C5_13.out.size))
    have C11_14 := Lib.hid (C11_13.out.trans (hb.mono C11_13.out.size))
    obtain ⟨A14, cap14, rfl, -, -, hl14, hL14⟩ := own_form ho14
    have cv : (convert 25 9 (.slice A14 3 cap14)).run Tryd.prog w14 = .ok (.string ⟨#[5, 172, 2]⟩) w14 := by
      have := conv_str (P := Tryd.prog) (c := cap14) hL14 25 5 Tryd.underlying25 Tryd.underlying5 9 Tryd.underlying9
      exact this
    clear hb ho13 ho14 hL14 hl14
    obtain ⟨b0, b1, b2, b3, b4, b5⟩ := six13 ((C2_14.out.block _ HR2.out.lt).trans HR2.out)
    have HR15 := Lib.hid (show Calls Tryd.prog 14 #[.agg #[.int .i64 1, .int .i64 4, .int .i64 3, .int .i64 9, .bool true, .slice (some ⟨w1.heap.size, 0, none⟩) 1 1]] w14 (fun e w' => e = .returned (.bool true) ∧ Below w14.heap.size w14 w') from (r13_right ▸ HOk.out.right r13 (some ⟨w1.heap.size, 0, none⟩) 1 1 w14 rfl (by omega) (by unfold maxLen; omega) (HL2.out.below C2_14.out) fine_s13))
    go_wp2_with fail
    refine HR15.out.mono ?_
    rintro e w15 ⟨rfl, hb⟩
    have C2_15 := Lib.hid (C2_14.out.trans (hb.mono C2_14.out.size))
    have CW_15 := Lib.hid (CW_14.out.trans (hb.mono CW_14.out.size))
    have C3_15 := Lib.hid (C3_14.out.trans (hb.mono C3_14.out.size))
    have C5_15 := Lib.hid (C5_14.out.trans (hb.mono C5_14.out.size))
    have C11_15 := Lib.hid (C11_14.out.trans (hb.mono C11_14.out.size))
    clear hb
    clear b0 b1 b2 b3 b4 b5
    have HR16 := Lib.hid (show Calls Tryd.prog 14 #[.agg #[.int .i64 5, .int .i64 0, .int .i64 0, .int .i64 0, .bool false, .slice none 0 0]] w15 (fun e w' => e = .returned (.bool false) ∧ Below w15.heap.size w15 w') from (n13_right ▸ HOk.out.right n13 none 0 0 w15 rfl (by omega) (by unfold maxLen; omega) Lies.nil (fun x hx => by simp [n13] at hx)))
    go_wp2_with fail
    refine HR16.out.mono ?_
    rintro e w16 ⟨rfl, hb⟩
    have C2_16 := Lib.hid (C2_15.out.trans (hb.mono C2_15.out.size))
    have CW_16 := Lib.hid (CW_15.out.trans (hb.mono CW_15.out.size))
    have C3_16 := Lib.hid (C3_15.out.trans (hb.mono C3_15.out.size))
    have C5_16 := Lib.hid (C5_15.out.trans (hb.mono C5_15.out.size))
    have C11_16 := Lib.hid (C11_15.out.trans (hb.mono C11_15.out.size))
    clear hb
    obtain ⟨b0, b1, b2, b3, b4, b5⟩ := six13 ((C2_16.out.block _ HR2.out.lt).trans HR2.out)
    have HC17 := Lib.hid (show Calls Tryd.prog 18 #[.slice (some ⟨w1.heap.size, 0, none⟩) 1 1] w16 (fun e w' => e = .returned (.int .i64 28) ∧ Below w16.heap.size w16 w') from (c13_some ▸ HOk.out.cost [s13] (some ⟨w1.heap.size, 0, none⟩) 1 1 w16 rfl (by omega) (by unfold maxLen; omega) (HL2.out.below C2_16.out) fine_s13))
    go_wp2_with fail
    refine HC17.out.mono ?_
    rintro e w17 ⟨rfl, hb⟩
    have C2_17 := Lib.hid (C2_16.out.trans (hb.mono C2_16.out.size))
    have CW_17 := Lib.hid (CW_16.out.trans (hb.mono CW_16.out.size))
    have C3_17 := Lib.hid (C3_16.out.trans (hb.mono C3_16.out.size))
    have C5_17 := Lib.hid (C5_16.out.trans (hb.mono C5_16.out.size))
    have C11_17 := Lib.hid (C11_16.out.trans (hb.mono C11_16.out.size))
    clear hb
    clear b0 b1 b2 b3 b4 b5
    have HC18 := Lib.hid (show Calls Tryd.prog 18 #[.slice none 0 0] w17 (fun e w' => e = .returned (.int .i64 0) ∧ Below w17.heap.size w17 w') from (c13_zero ▸ HOk.out.cost [] none 0 0 w17 rfl (by omega) (by unfold maxLen; omega) Lies.nil (fun x hx => by simp at hx)))
    go_wp2_with fail
    refine HC18.out.mono ?_
    rintro e w18 ⟨rfl, hb⟩
    have C2_18 := Lib.hid (C2_17.out.trans (hb.mono C2_17.out.size))
    have CW_18 := Lib.hid (CW_17.out.trans (hb.mono CW_17.out.size))
    have C3_18 := Lib.hid (C3_17.out.trans (hb.mono C3_17.out.size))
    have C5_18 := Lib.hid (C5_17.out.trans (hb.mono C5_17.out.size))
    have C11_18 := Lib.hid (C11_17.out.trans (hb.mono C11_17.out.size))
    clear hb
    go_wp2
    go_ret
    exact ⟨rfl, CW_18.out⟩
end Go.Proofs.YtdfeccmcefcpbaaDoor

