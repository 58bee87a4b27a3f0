/-
  Layer 13, the document's answer (turntableref13): Put and Same: what they answer, of any record. Assumed: that the spans lie in memory.
-/
import Derived.Test.YtdfeccmcefcpbaaDoorRr13
import Derived.Test.YtdfeccmcefcpbaaDoorBatC

namespace Go.Proofs.YtdfeccmcefcpbaaDoor
open Go.RowKit
set_option maxRecDepth 100000

set_option maxHeartbeats 4000000 in
theorem rput13_any (r : Rc.R) (A : Option Addr) (n cap : Nat) (w : World) (hn : r.sp.length = n) (hA : Lies w A (flat r.sp)) (hS : Fine r.sp) :
    Calls Tryd.prog 17 #[recV r A n cap] w (Made w (Rc.rput r)) := by
  have hB0 : Below w.heap.size w (w.alloc (.cells (recCs r A n cap) 24)) := (Below.refl _ _).alloc (Nat.le_refl _) _
  have hbx := Blk.new w (recCs r A n cap) 24
  have HX := Lib.hid (fun (u : World) (h : Below (w.alloc (.cells (recCs r A n cap) 24)).heap.size (w.alloc (.cells (recCs r A n cap) 24)) u) => BoxR.six (BoxR.below hbx h))
  have HR := Lib.hid (rright13_any r A n cap (w.alloc (.cells (recCs r A n cap) 24)) hn (hA.below hB0) hS)
  have hmay : Rc.right r = true → (0 ≤ r.kind ∧ r.kind ≤ 5) ∧ (0 ≤ r.cls ∧ r.cls ≤ 7) := fun h => by
    obtain ⟨-, h2, h3⟩ := (Rc.may_iff r).1 ((Rc.right_iff r).1 h).1
    exact ⟨by rcases h3 with ⟨h3, -⟩ | ⟨-, h3, -⟩ <;> omega, h2⟩
  have HBY := Lib.hid (fun (hr : Rc.right r = true) (W : World) (hW : Lies W A (flat r.sp)) => rbytes13_any r A n cap W (hmay hr).1 (hmay hr).2 hn hW hS)
  have HA0 := Lib.hid hA
  have HV1 := Lib.hid (fun (h : Rc.right r = true) => Rc.rput_yes h)
  have HV0 := Lib.hid (fun (h : Rc.right r = false) => Rc.rput_no h)
  obtain ⟨BB, hBB⟩ : ∃ BB, Rc.bytes r = BB := ⟨_, rfl⟩
  obtain ⟨PB, hPB⟩ : ∃ PB, Rc.rput r = PB := ⟨_, rfl⟩
  obtain ⟨RR, hRR⟩ : ∃ RR, Rc.right r = RR := ⟨_, rfl⟩
  rw [hBB] at HBY HV1
  rw [hPB] at HV1 HV0 ⊢
  rw [hRR] at HV1 HV0 HR HBY
  unfold recV recCs at *
  obtain ⟨kind, id, cls, tick, pin, sp⟩ := r
  simp only at hn hA HX HR HBY HA0 hB0 hbx ⊢
  clear hmay hBB hPB hRR hbx hA hS hn
  obtain ⟨w0, hw0⟩ : ∃ w0, w.alloc (.cells #[.int .i64 kind, .int .i64 id, .int .i64 cls, .int .i64 tick, .bool pin, .slice A n cap] 24) = w0 := ⟨_, rfl⟩
  rw [hw0] at HX hB0 HR
  have HW0 := Lib.hid hw0
  have HB0 := Lib.hid hB0
  obtain ⟨x0, x1, x2, x3, x4, x5⟩ := HX.out w0 (Below.refl _ _)
  cases RR with
  | false =>
    have HP := Lib.hid (HV0.out rfl)
    clear hB0 HV1 HV0 HBY
    go_enter Tryd.func17, Tryd.ntmps17
    rw [← HW0.out] at x0 x1 x2 x3 x4 x5
    clear hw0
    go_wp2_with fail
    rw [HW0.out]
    refine HR.out.mono ?_
    rintro e w2 ⟨rfl, hb2⟩
    have HB2 := Lib.hid (HB0.out.trans (hb2.mono HB0.out.size))
    clear hb2
    go_wp2
    go_ret
    rw [HP.out]
    exact made_nil HB2.out
  | true =>
    have HP := Lib.hid (HV1.out rfl)
    have HBY1 := Lib.hid (HBY.out rfl)
    clear hB0 HV1 HV0 HBY
    go_enter Tryd.func17, Tryd.ntmps17
    rw [← HW0.out] at x0 x1 x2 x3 x4 x5
    clear hw0
    go_wp2_with fail
    rw [HW0.out]
    refine HR.out.mono ?_
    rintro e w2 ⟨rfl, hb2⟩
    obtain ⟨y0, y1, y2, y3, y4, y5⟩ := HX.out w2 hb2
    have hb02 := HB0.out.trans (hb2.mono HB0.out.size)
    have HB2 := Lib.hid hb02
    have HBZ := Lib.hid (HBY1.out w2 (HA0.out.below hb02))
    clear x0 x1 x2 x3 x4 x5 hb2 hb02 HBY1
    go_wp2_with fail
    refine HBZ.out.mono ?_
    rintro e w3 hM
    obtain ⟨v, rfl, ho, hb3⟩ := hM.up HB2.out
    have HO := Lib.hid ho
    have HB3 := Lib.hid hb3
    clear hM ho hb3 y0 y1 y2 y3 y4 y5
    go_wp2
    go_ret
    rw [HP.out]
    exact ⟨_, rfl, HO.out, HB3.out⟩

instance : DecidableEq Rc.R := fun a b => decidable_of_iff (a.kind = b.kind ∧ a.id = b.id ∧ a.cls = b.cls ∧ a.tick = b.tick ∧ a.pin = b.pin ∧ a.sp = b.sp)
  ⟨fun ⟨h0, h1, h2, h3, h4, h5⟩ => Rc.R.ext' h0 h1 h2 h3 h4 h5, fun h => by rw [h]; exact ⟨rfl, rfl, rfl, rfl, rfl, rfl⟩⟩
set_option maxHeartbeats 8000000 in
theorem rsame13_any (a b : Rc.R) (A B : Option Addr) (n m ca cb : Nat) (w : World) (hn : a.sp.length = n) (hm : b.sp.length = m) (hca : n ≤ ca) (hcb : m ≤ cb) (hma : ca ≤ maxLen) (hmb : cb ≤ maxLen) (hA : Lies w A (flat a.sp)) (hB : Lies w B (flat b.sp)) :
    Calls Tryd.prog 20 #[recV a A n ca, recV b B m cb] w fun e w' => e = .returned (.bool (decide (a = b))) ∧ Below w.heap.size w w' := by
  have hV : decide (a = b) = true ↔ a.kind = b.kind ∧ a.id = b.id ∧ a.cls = b.cls ∧ a.tick = b.tick ∧ a.pin = b.pin ∧ a.sp = b.sp := by
    rw [decide_eq_true_eq]
    exact ⟨fun h => by rw [h]; exact ⟨rfl, rfl, rfl, rfl, rfl, rfl⟩, fun ⟨h0, h1, h2, h3, h4, h5⟩ => Rc.R.ext' h0 h1 h2 h3 h4 h5⟩
  have hB0 : Below w.heap.size w ((w.alloc (.cells (recCs a A n ca) 24)).alloc (.cells (recCs b B m cb) 24)) := ((Below.refl _ _).alloc (Nat.le_refl _) _).alloc (by simp) _
  have HS := Lib.hid (fun (W : World) (h : Below w.heap.size w W) => same_any A B n m ca cb a.sp b.sp W hn hm hca hcb hma hmb (hA.below h) (hB.below h))
  obtain ⟨RR, hRR⟩ : ∃ RR, decide (a = b) = RR := ⟨_, rfl⟩
  rw [hRR] at hV ⊢
  obtain ⟨SS, hSS⟩ : ∃ SS, decide (a.sp = b.sp) = SS := ⟨_, rfl⟩
  rw [hSS] at HS
  rw [← decide_eq_true_eq (p := a.sp = b.sp), hSS] at hV
  unfold recV recCs at *
  obtain ⟨kind, id, cls, tick, pin, sp⟩ := a
  obtain ⟨kind2, id2, cls2, tick2, pin2, sp2⟩ := b
  simp only at hV hB0 HS ⊢
  clear hRR hSS hA hB hn hm hca hcb hma hmb
  have HB0 := Lib.hid hB0
  have HT := Lib.hid (show ∀ b : Bool, (b = true ↔ kind = kind2 ∧ id = id2 ∧ cls = cls2 ∧ tick = tick2 ∧ pin = pin2 ∧ SS = true) → b = RR from fun b hb => Bool.eq_iff_iff.2 (hb.trans hV.symm))
  have HSZ := Lib.hid (HS.out _ hB0)
  clear hV hB0 HS
  by_cases h0 : kind = kind2
  rotate_left
  · have d0 : (kind == kind2) = false := by rw [beq_eq_false_iff_ne]; exact h0
    have HF := Lib.hid (HT.out false ⟨fun h => by simp at h, fun h => absurd h.1 h0⟩)
    clear h0
    go_enter Tryd.func20, Tryd.ntmps20
    go_wp2
    go_ret
    exact ⟨ret13 HF.out, HB0.out⟩
  subst h0
  by_cases h1 : id = id2
  rotate_left
  · have d1 : (id == id2) = false := by rw [beq_eq_false_iff_ne]; exact h1
    have HF := Lib.hid (HT.out false ⟨fun h => by simp at h, fun h => absurd h.2.1 h1⟩)
    clear h1
    go_enter Tryd.func20, Tryd.ntmps20
    go_wp2
    go_ret
    exact ⟨ret13 HF.out, HB0.out⟩
  subst h1
  by_cases h2 : cls = cls2
  rotate_left
  · have d2 : (cls == cls2) = false := by rw [beq_eq_false_iff_ne]; exact h2
    have HF := Lib.hid (HT.out false ⟨fun h => by simp at h, fun h => absurd h.2.2.1 h2⟩)
    clear h2
    go_enter Tryd.func20, Tryd.ntmps20
    go_wp2
    go_ret
    exact ⟨ret13 HF.out, HB0.out⟩
  subst h2
  by_cases h3 : tick = tick2
  rotate_left
  · have d3 : (tick == tick2) = false := by rw [beq_eq_false_iff_ne]; exact h3
    have HF := Lib.hid (HT.out false ⟨fun h => by simp at h, fun h => absurd h.2.2.2.1 h3⟩)
    clear h3
    go_enter Tryd.func20, Tryd.ntmps20
    go_wp2
    go_ret
    exact ⟨ret13 HF.out, HB0.out⟩
  subst h3
  by_cases h4 : pin = pin2
  rotate_left
  · have d4 : (pin == pin2) = false := by rw [beq_eq_false_iff_ne]; exact h4
    have HF := Lib.hid (HT.out false ⟨fun h => by simp at h, fun h => absurd h.2.2.2.2.1 h4⟩)
    clear h4
    go_enter Tryd.func20, Tryd.ntmps20
    go_wp2
    go_ret
    exact ⟨ret13 HF.out, HB0.out⟩
  subst h4
  have HF := Lib.hid (HT.out SS ⟨fun h => ⟨rfl, rfl, rfl, rfl, rfl, h⟩, fun h => h.2.2.2.2.2⟩)
  go_enter Tryd.func20, Tryd.ntmps20
  go_wp2_with fail
  refine HSZ.out.mono ?_
  rintro e w2 ⟨rfl, hb2⟩
  have HB2 := Lib.hid (HB0.out.trans (hb2.mono HB0.out.size))
  clear hb2
  go_wp2
  go_ret
  exact ⟨ret13 HF.out, HB2.out⟩
end Go.Proofs.YtdfeccmcefcpbaaDoor

