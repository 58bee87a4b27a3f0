/-
  Layer 13, the document's answer (turntableref13): its bytes, Right, Put and Cost: what they answer, of any record. Assumed: that the spans lie in memory.
-/
import Derived.Test.YtdfeccmcefcpbaaDoorTrR7
import Derived.Test.YtdfeccmcefcpbaaDoorFrA
import Derived.Test.YtdfeccmcefcpbaaDoorMath13
import Derived.Deep.QuietTactic
import Derived.BigQuiet

namespace Go.Proofs.YtdfeccmcefcpbaaDoor
open Go.RowKit
set_option maxRecDepth 100000

/-- a record's cells, and its value: its spans are the slice at A -/
def recCs (r : Rc.R) (A : Option Addr) (n c : Nat) : Array Value := #[.int .i64 r.kind, .int .i64 r.id, .int .i64 r.cls, .int .i64 r.tick, .bool r.pin, .slice A n c]
def recV (r : Rc.R) (A : Option Addr) (n c : Nat) : Value := .agg (recCs r A n c)
/-- a box that holds a record -/
def BoxR (w : World) (g : Nat) (r : Rc.R) (A : Option Addr) (n c : Nat) : Prop := Blk w g (recCs r A n c) 24
theorem BoxR.six {w : World} {g : Nat} {r : Rc.R} {A : Option Addr} {n c : Nat} (h : BoxR w g r A n c) :
    w.cell? ⟨g, 0, none⟩ = some (.int .i64 r.kind) ∧ w.cell? ⟨g, 1, none⟩ = some (.int .i64 r.id) ∧ w.cell? ⟨g, 2, none⟩ = some (.int .i64 r.cls) ∧ w.cell? ⟨g, 3, none⟩ = some (.int .i64 r.tick) ∧ w.cell? ⟨g, 4, none⟩ = some (.bool r.pin) ∧ w.cell? ⟨g, 5, none⟩ = some (.slice A n c) :=
  ⟨Blk.cell h 0, Blk.cell h 1, Blk.cell h 2, Blk.cell h 3, Blk.cell h 4, Blk.cell h 5⟩
theorem BoxR.below {w w' : World} {g : Nat} {r : Rc.R} {A : Option Addr} {n c : Nat} (h : BoxR w g r A n c) (hb : Below w.heap.size w w') : BoxR w' g r A n c :=
  (hb.block g (Blk.lt h)).trans h

theorem cells_u8 (n : Nat) (h : n < 256) : cells [UInt8.ofNat n] = [.int .u8 (n : Int)] := by
  simp [cells, Rc.u8_small n h]
theorem made_up {w w1 w' : World} {bs : List UInt8} {e : Ending} (h : Made w1 bs e w') (hb : Below w.heap.size w w1) : ∃ v, e = .returned v ∧ w'.ownsRow w.heap.size 5 1 v bs.length (cells bs) ∧ Below w.heap.size w w' := h.up hb

set_option maxHeartbeats 4000000 in
theorem rbytes13_other (r : Rc.R) (A : Option Addr) (n cap : Nat) (w : World) (hk0 : r.kind ≠ 1) (hk : 0 ≤ r.kind ∧ r.kind ≤ 5) (hc : 0 ≤ r.cls ∧ r.cls ≤ 7) :
    Calls Tryd.prog 29 #[recV r A n cap] w (Made w (Rc.bytes r)) := by
  obtain ⟨i0, hi, hz0, hz1, hz2⟩ := info_parts infoU8
  have hV := Rc.bytes_other r hk0
  obtain ⟨kind, id, cls, tick, pin, sp⟩ := r
  simp only at hk0 hk hc hV
  obtain ⟨k, rfl⟩ := Int.eq_ofNat_of_zero_le hk.1
  obtain ⟨c, rfl⟩ := Int.eq_ofNat_of_zero_le hc.1
  simp only [Int.toNat_natCast] at hV
  have hbx := Blk.new w (recCs ⟨(k : Int), id, (c : Int), tick, pin, sp⟩ A n cap) 24
  have HX := Lib.hid (fun (u : World) (h : Below (w.alloc (.cells (recCs ⟨(k : Int), id, (c : Int), tick, pin, sp⟩ A n cap) 24)).heap.size (w.alloc (.cells (recCs ⟨(k : Int), id, (c : Int), tick, pin, sp⟩ A n cap) 24)) u) => BoxR.six (BoxR.below hbx h))
  simp only [recCs] at HX
  have dk : ((k : Int) != 1) = true := by rw [bne_iff_ne]; exact hk0
  have ek : ((k : Int) % 256) = (k : Int) := by omega
  have ec : ((c : Int) % 256) = (c : Int) := by omega
  clear hbx
  obtain ⟨w0, hw0⟩ : ∃ w0, w.alloc (.cells #[.int .i64 (k : Int), .int .i64 id, .int .i64 (c : Int), .int .i64 tick, .bool pin, .slice A n cap] 24) = w0 := ⟨_, rfl⟩
  have hB0 : Below w.heap.size w w0 := by rw [← hw0]; exact (Below.refl _ _).alloc (Nat.le_refl _) _
  have hs0 : w0.heap.size = w.heap.size + 1 := by rw [← hw0]; simp
  rw [hw0] at HX
  have HW0 := Lib.hid hw0
  obtain ⟨x0, x1, x2, x3, x4, x5⟩ := HX.out w0 (Below.refl _ _)
  have HL1 := Lib.hid (show Lies (w0.alloc (.cells #[.int .u8 (k : Int)] 5)) (some ⟨w0.heap.size, 0, none⟩) (cells [UInt8.ofNat k]) by rw [cells_u8 k (by omega)]; exact Lies.new w0 #[.int .u8 (k : Int)] 5)
  have HB1 := Lib.hid (hB0.alloc (by omega) (.cells #[.int .u8 (k : Int)] 5))
  have HB01 := Lib.hid (show Below w0.heap.size w0 (w0.alloc (.cells #[.int .u8 (k : Int)] 5)) from (Below.refl _ _).alloc (Nat.le_refl _) _)
  have HP := Lib.hid (rput_any (some ⟨w0.heap.size, 0, none⟩) 1 [UInt8.ofNat k] id (w0.alloc (.cells #[.int .u8 (k : Int)] 5)) (by simp) HL1.out)
  have hplen := Plain.put_length id
  have hple := Plain.size_le id
  rw [hs0] at HP
  unfold recV recCs
  simp only
  by_cases h4 : k = 4
  · have hV4 : Rc.bytes ⟨(k : Int), id, (c : Int), tick, pin, sp⟩ = ([UInt8.ofNat k] ++ Plain.put id) ++ [UInt8.ofNat c] := by rw [hV, if_pos (by omega)]; simp
    rw [hV4]
    have d4 : ((k : Int) == 4) = true := by rw [beq_iff_eq]; omega
    have HVH := Lib.hid (cells_u8 c (by omega))
    have HLE := Lib.hid (show ([UInt8.ofNat k] ++ Plain.put id).length ≤ 100 by rw [List.length_append, hplen]; simp; omega)
    have HFIN := Lib.hid (show ∀ (v : Value) (w' : World), w'.ownsRow w.heap.size 5 1 v (([UInt8.ofNat k] ++ Plain.put id).length + 1) (cells ([UInt8.ofNat k] ++ Plain.put id) ++ [.int .u8 (c : Int)]) → Below w.heap.size w w' → Made w (([UInt8.ofNat k] ++ Plain.put id) ++ [UInt8.ofNat c]) (.returned v) w' from
      fun v w' ho hb => ⟨v, rfl, by rw [cells_append, List.length_append, HVH.out]; exact ho, hb⟩)
    clear hV hV4 hplen hple hk0 h4
    generalize ([UInt8.ofNat k] ++ Plain.put id) ++ [UInt8.ofNat c] = out at *
    generalize [UInt8.ofNat k] ++ Plain.put id = mid at *
    go_enter Tryd.func29, Tryd.ntmps29
    rw [← HW0.out] at x0 x1 x2 x3 x4 x5
    clear hw0
    go_wp2_with fail
    rw [HW0.out]
    refine HP.out.mono ?_
    rintro e w2 hM
    obtain ⟨v, rfl, ho, hb2⟩ := hM.up HB1.out
    have hb02 : Below w0.heap.size w0 w2 := HB01.out.trans (hM.choose_spec.2.2.mono HB01.out.size)
    obtain ⟨y0, y1, y2, y3, y4, y5⟩ := HX.out w2 hb02
    have HO := Lib.hid ho
    have HB2 := Lib.hid hb2
    clear x0 x1 x2 x3 x4 x5 ho hb2 hb02 hM
    go_wp2_with (at_builtin; refine wpList_app rfl _ _ 25 rfl w.heap.size 5 i0 (.int .u8 0) Tryd.underlying25 hi hz0 hz1 hz2 rfl v mid.length (cells mid) rfl ?a1 (some ⟨w2.heap.size, 0, none⟩) 1 1 [.int .u8 (c : Int)] rfl rfl ?a2 ?a3 ?a4 ?a5 ?a6)
    case a1 => exact HO.out.alloc _
    case a2 => exact Lies.new w2 #[.int .u8 (c : Int)] 5
    case a3 => simp [Value.oneCell']
    case a4 => have := HLE.out; omega
    case a5 => have := HB2.out.size; simp; omega
    case a6 =>
      intro v3 w3 ho3 hg3 _
      have hb3 : Below w.heap.size w w3 := (HB2.out.alloc HB2.out.size _).grown hg3 (by have := HB2.out.size; simp; omega) (fun g hg => (HO.out.lt g hg).1)
      have HO3 := Lib.hid ho3
      clear ho3 hg3
      go_wp2
      go_ret
      exact HFIN.out _ _ HO3.out hb3
  · have hV4 : Rc.bytes ⟨(k : Int), id, (c : Int), tick, pin, sp⟩ = [UInt8.ofNat k] ++ Plain.put id := by rw [hV, if_neg (by omega)]; simp
    rw [hV4]
    have d4 : ((k : Int) == 4) = false := by rw [beq_eq_false_iff_ne]; omega
    clear hV hV4 hplen hple hk0 h4
    generalize [UInt8.ofNat k] ++ Plain.put id = mid at *
    go_enter Tryd.func29, Tryd.ntmps29
    rw [← HW0.out] at x0 x1 x2 x3 x4 x5
    clear hw0
    go_wp2_with fail
    rw [HW0.out]
    refine HP.out.mono ?_
    rintro e w2 hM
    obtain ⟨v, rfl, ho, hb2⟩ := hM.up HB1.out
    have hb02 : Below w0.heap.size w0 w2 := HB01.out.trans (hM.choose_spec.2.2.mono HB01.out.size)
    obtain ⟨y0, y1, y2, y3, y4, y5⟩ := HX.out w2 hb02
    have HO := Lib.hid ho
    have HB2 := Lib.hid hb2
    clear x0 x1 x2 x3 x4 x5 ho hb2 hb02 hM
    go_wp2
    go_ret
    exact ⟨_, rfl, HO.out, HB2.out⟩

set_option maxHeartbeats 4000000 in
theorem rbytes13_seal (r : Rc.R) (A : Option Addr) (n cap : Nat) (w : World) (hk0 : r.kind = 1) (hc : 0 ≤ r.cls ∧ r.cls ≤ 7) (hn : r.sp.length = n) (hA : Lies w A (flat r.sp)) (hS : Fine r.sp) :
    Calls Tryd.prog 29 #[recV r A n cap] w (Made w (Rc.bytes r)) := by
  obtain ⟨i0, hi, hz0, hz1, hz2⟩ := info_parts infoU8
  have hV := Rc.bytes_seal r hk0
  obtain ⟨kind, id, cls, tick, pin, sp⟩ := r
  simp only at hk0 hc hV hn hA hS
  subst hk0
  obtain ⟨c, rfl⟩ := Int.eq_ofNat_of_zero_le hc.1
  have hbx := Blk.new w (recCs ⟨1, id, (c : Int), tick, pin, sp⟩ A n cap) 24
  have HX := Lib.hid (fun (u : World) (h : Below (w.alloc (.cells (recCs ⟨1, id, (c : Int), tick, pin, sp⟩ A n cap) 24)).heap.size (w.alloc (.cells (recCs ⟨1, id, (c : Int), tick, pin, sp⟩ A n cap) 24)) u) => BoxR.six (BoxR.below hbx h))
  simp only [recCs] at HX
  have ec : ((c : Int) % 256) = (c : Int) := by omega
  obtain ⟨q, hq, hq16, hqv⟩ : ∃ q : Nat, Rc.cp ⟨1, id, (c : Int), tick, pin, sp⟩ = q ∧ q < 16 ∧ q = c + if pin then 8 else 0 := ⟨_, rfl, (Rc.cp_small _ hc).1, by simp [Rc.cp]⟩
  rw [hq] at hV
  clear hbx hq
  obtain ⟨w0, hw0⟩ : ∃ w0, w.alloc (.cells #[.int .i64 1, .int .i64 id, .int .i64 (c : Int), .int .i64 tick, .bool pin, .slice A n cap] 24) = w0 := ⟨_, rfl⟩
  have hB0 : Below w.heap.size w w0 := by rw [← hw0]; exact (Below.refl _ _).alloc (Nat.le_refl _) _
  have hs0 : w0.heap.size = w.heap.size + 1 := by rw [← hw0]; simp
  rw [hw0] at HX
  have HW0 := Lib.hid hw0
  obtain ⟨x0, x1, x2, x3, x4, x5⟩ := HX.out w0 (Below.refl _ _)
  have HL1 := Lib.hid (show Lies (w0.alloc (.cells #[.int .u8 1, .int .u8 (q : Int)] 5)) (some ⟨w0.heap.size, 0, none⟩) (cells [1, UInt8.ofNat q]) by
    have e : cells [1, UInt8.ofNat q] = [.int .u8 1, .int .u8 (q : Int)] := by simp [cells, Rc.u8_small q (by omega)]
    rw [e]; exact Lies.new w0 #[.int .u8 1, .int .u8 (q : Int)] 5)
  have HB1 := Lib.hid (hB0.alloc (by omega) (.cells #[.int .u8 1, .int .u8 (q : Int)] 5))
  have HB01 := Lib.hid (show Below w0.heap.size w0 (w0.alloc (.cells #[.int .u8 1, .int .u8 (q : Int)] 5)) from (Below.refl _ _).alloc (Nat.le_refl _) _)
  have HP := Lib.hid (rput_any (some ⟨w0.heap.size, 0, none⟩) 2 [1, UInt8.ofNat q] tick (w0.alloc (.cells #[.int .u8 1, .int .u8 (q : Int)] 5)) (by simp) HL1.out)
  have HT := Lib.hid (fun (u : World) (h : Below w.heap.size w u) => rtput_any A n cap sp u hn (hA.below h) hS)
  have hplen := Plain.put_length tick
  have hple := Plain.size_le tick
  have htl := Plain.tput_len sp
  rw [hs0] at HP
  unfold recV recCs
  simp only
  have hV4 : Rc.bytes ⟨1, id, (c : Int), tick, pin, sp⟩ = ([1, UInt8.ofNat q] ++ Plain.put tick) ++ Plain.tput sp := by rw [hV]; simp
  rw [hV4]
  have HLE := Lib.hid (show ([1, UInt8.ofNat q] ++ Plain.put tick).length + (Plain.tput sp).length ≤ 10000 by rw [List.length_append, hplen]; simp; omega)
  have HFIN := Lib.hid (show ∀ (v : Value) (w' : World), w'.ownsRow w.heap.size 5 1 v (([1, UInt8.ofNat q] ++ Plain.put tick).length + (Plain.tput sp).length) (cells ([1, UInt8.ofNat q] ++ Plain.put tick) ++ cells (Plain.tput sp)) → Below w.heap.size w w' → Made w (([1, UInt8.ofNat q] ++ Plain.put tick) ++ Plain.tput sp) (.returned v) w' from
    fun v w' ho hb => ⟨v, rfl, by rw [cells_append, List.length_append]; exact ho, hb⟩)
  have HTC := Lib.hid (cells_one (Plain.tput sp))
  have HTL := Lib.hid (cells_length (Plain.tput sp))
  clear hV hV4 hplen hple htl hn hA hS hc
  generalize ([1, UInt8.ofNat q] ++ Plain.put tick) ++ Plain.tput sp = out at *
  generalize [1, UInt8.ofNat q] ++ Plain.put tick = mid at *
  generalize Plain.tput sp = tb at *
  have hpin : pin = true ∧ (((c : Int) + 8) % 256 = (q : Int)) ∨ pin = false ∧ c = q := by
    cases pin
    · right; exact ⟨rfl, by simp at hqv; omega⟩
    · left; exact ⟨rfl, by simp at hqv; omega⟩
  clear hqv
  rcases hpin with ⟨rfl, hcq⟩ | ⟨rfl, rfl⟩
  all_goals
    go_enter Tryd.func29, Tryd.ntmps29
    rw [← HW0.out] at x0 x1 x2 x3 x4 x5
    clear hw0
    go_wp2_with fail
    first
      | rw [hcq]
      | skip
    rw [HW0.out]
    refine HP.out.mono ?_
    rintro e w2 hM
    obtain ⟨v, rfl, ho, hb2⟩ := hM.up HB1.out
    have hb02 : Below w0.heap.size w0 w2 := HB01.out.trans (hM.choose_spec.2.2.mono HB01.out.size)
    obtain ⟨y0, y1, y2, y3, y4, y5⟩ := HX.out w2 hb02
    have HO := Lib.hid ho
    have HB2 := Lib.hid hb2
    clear x0 x1 x2 x3 x4 x5 ho hb2 hb02 hM
    go_wp2_with fail
    refine (HT.out w2 HB2.out).mono ?_
    rintro e w3 ⟨v3, rfl, ⟨B3, n3, ho3⟩, hb3⟩
    obtain ⟨A3, c3, rfl, -, -, hl3, hL3⟩ := own_form ho3
    rw [HTL.out] at hl3
    subst hl3
    have HO2 := Lib.hid (own_keep HO.out hb3)
    have HB3 := Lib.hid (HB2.out.trans (hb3.mono HB2.out.size))
    have HL3 := Lib.hid hL3
    clear ho3 hb3 hL3 y0 y1 y2 y3 y4 y5
    go_wp2_with (at_builtin; refine wpList_app rfl _ _ 25 rfl w.heap.size 5 i0 (.int .u8 0) Tryd.underlying25 hi hz0 hz1 hz2 rfl v mid.length (cells mid) rfl HO2.out A3 tb.length c3 (cells tb) rfl HTL.out HL3.out HTC.out (by have := HLE.out; omega) HB3.out.size ?_)
    intro v4 w4 ho4 hg4 _
    have hb4 : Below w.heap.size w w4 := HB3.out.grown hg4 HB3.out.size (fun g hg => (HO2.out.lt g hg).1)
    have HO4 := Lib.hid ho4
    clear ho4 hg4
    go_wp2
    go_ret
    exact HFIN.out _ _ HO4.out hb4
/-- the bytes of one that may be so -/
theorem rbytes13_any (r : Rc.R) (A : Option Addr) (n cap : Nat) (w : World) (hk : 0 ≤ r.kind ∧ r.kind ≤ 5) (hc : 0 ≤ r.cls ∧ r.cls ≤ 7) (hn : r.sp.length = n) (hA : Lies w A (flat r.sp)) (hS : Fine r.sp) :
    Calls Tryd.prog 29 #[recV r A n cap] w (Made w (Rc.bytes r)) := by
  by_cases h : r.kind = 1
  · exact rbytes13_seal r A n cap w h hc hn hA hS
  · exact rbytes13_other r A n cap w h hk hc

set_option maxHeartbeats 1000000 in
theorem rcost13_any (A : Option Addr) (n cap : Nat) (l : List Plain.Sp) (w : World) (hn : l.length = n) (hA : Lies w A (flat l)) (hS : Fine l) :
    Calls Tryd.prog 19 #[.slice A n cap] w fun e w' => e = .returned (.int .i64 (Rc.cost l : Int)) ∧ Below w.heap.size w w' := by
  have HT := Lib.hid (rtput_any A n cap l w hn hA hS)
  have hV : Rc.cost l = if (Plain.tput l).length = 0 then 0 else 16 + (Plain.tput l).length := rfl
  have htl := Plain.tput_len l
  have HTL := Lib.hid (cells_length (Plain.tput l))
  generalize Plain.tput l = tb at *
  obtain ⟨m, hm⟩ : ∃ m, tb.length = m := ⟨_, rfl⟩
  rw [hm] at hV htl HTL
  have HM := Lib.hid hm
  clear hm hn hA hS
  by_cases h0 : m = 0
  · have hV2 : ((Rc.cost l : Nat) : Int) = 0 := by rw [hV, if_pos h0]; rfl
    have HV := Lib.hid hV2
    clear hV hV2
    go_enter Tryd.func19, Tryd.ntmps19
    go_wp2_with fail
    refine HT.out.mono ?_
    rintro e w3 ⟨v3, rfl, ⟨B3, n3, ho3⟩, hb3⟩
    obtain ⟨A3, c3, rfl, -, -, hl3, -⟩ := own_form ho3
    rw [HTL.out] at hl3
    subst hl3
    have HB := Lib.hid hb3
    clear ho3 hb3
    have d0 : ((m : Int) == 0) = true := by rw [beq_iff_eq]; omega
    go_wp2
    go_ret
    exact ⟨ret_int HV.out.symm, HB.out⟩
  · have hV2 : ((Rc.cost l : Nat) : Int) = 16 + (m : Int) := by rw [hV, if_neg h0]; omega
    have HV := Lib.hid hV2
    clear hV hV2
    go_enter Tryd.func19, Tryd.ntmps19
    go_wp2_with fail
    refine HT.out.mono ?_
    rintro e w3 ⟨v3, rfl, ⟨B3, n3, ho3⟩, hb3⟩
    obtain ⟨A3, c3, rfl, -, -, hl3, -⟩ := own_form ho3
    rw [HTL.out] at hl3
    subst hl3
    have HB := Lib.hid hb3
    clear ho3 hb3
    have d0 : ((m : Int) == 0) = false := by rw [beq_eq_false_iff_ne]; omega
    go_wp2
    go_ret
    exact ⟨ret_int HV.out.symm, HB.out⟩
end Go.Proofs.YtdfeccmcefcpbaaDoor
