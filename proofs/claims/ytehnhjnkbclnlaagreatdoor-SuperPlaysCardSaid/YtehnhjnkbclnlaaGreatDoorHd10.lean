/-
  Layer 10: the laws' live question (turntablelaw10.head) answers true, and turns nothing that was there. Assumed: that super answers as the document says (SuperOk), and that the program's table holds what its text lays there.
-/
import Derived.Test.YtehnhjnkbclnlaaGreatDoorSuH
import Derived.BigRegion

namespace Go.Proofs.YtehnhjnkbclnlaaGreatDoor
open Go.ChangeShapes Go.WideShapes Go.ChangeAt Go.RowKit
set_option maxRecDepth 100000

theorem u0_right : Tb.right ⟨4, -1, xs0⟩ = true := by decide
theorem t0_slot : Su.slot 3 = 1 := rfl
theorem u0_slot : Su.slot 4 = 0 := rfl
theorem head_facts {d1 d2 d3 : Plain.Dv} (h1 : (Su.save (Plain.Dv.new 4) ⟨3, 2, xs0⟩).1 = d1) (h2 : (Su.save d1 ⟨4, -1, xs0⟩).1 = d2) (h3 : (d2.write 0 (Plain.full 0)).1 = d3) :
    (Su.save (Plain.Dv.new 4) ⟨3, 2, xs0⟩).2 = 0 ∧ (Su.save d1 ⟨4, -1, xs0⟩).2 = 0 ∧ Su.load d2 = (⟨4, -1, xs0⟩, true, 0) ∧ Su.load d3 = (⟨3, 2, xs0⟩, true, 0) ∧ d1.done ≤ 3 ∧ d2.done ≤ 6 ∧ d3.done ≤ 7 := by
  have f0 := Su.new_free 4 (by omega) (by omega)
  have n0 : 2 ≤ (Plain.Dv.new 4).n := by show 2 ≤ 4; omega
  have f1 := Su.save_stays f0 n0 t0_right
  have e1 := (Su.save_iff f0 n0 ⟨3, 2, xs0⟩).2 t0_right
  have s1 := Su.save_sec f0 n0 t0_right
  have m1 := Su.save_n (Plain.Dv.new 4) ⟨3, 2, xs0⟩
  have k1 := Su.save_done (Plain.Dv.new 4) ⟨3, 2, xs0⟩
  rw [h1] at f1 s1 m1 k1
  have n1 : 2 ≤ d1.n := by rw [m1]; exact n0
  have f2 := Su.save_stays f1 n1 u0_right
  have e2 := (Su.save_iff f1 n1 ⟨4, -1, xs0⟩).2 u0_right
  have s2 := Su.save_sec f1 n1 u0_right
  have m2 := Su.save_n d1 ⟨4, -1, xs0⟩
  have k2 := Su.save_done d1 ⟨4, -1, xs0⟩
  rw [h2] at f2 s2 m2 k2
  have n2 : 2 ≤ d2.n := by rw [m2]; exact n1
  have f3 := f2.write_free 0 (Plain.full 0) (by omega) (Plain.full_length 0)
  have s3 := Plain.sec_write f2 0 (Plain.full 0) (by omega) (Plain.full_length 0)
  have m3 := d2.write_n ((0 : Nat) : Int) (Plain.full 0)
  have k3 := d2.write_done 0 (Plain.full 0)
  have h3' : (d2.write ((0 : Nat) : Int) (Plain.full 0)).1 = d3 := h3
  rw [h3'] at f3 s3 m3
  rw [h3] at k3
  have z : (Plain.Dv.new 4).done = 0 := rfl
  refine ⟨e1, e2, ?_, ?_, by omega, by omega, by omega⟩
  · refine Su.load_is f2.down n2 u0_right (by rw [s2, if_pos rfl]) ?_
    show Tb.ok (d2.sec 1) = true → _ → (Tb.got (d2.sec 1)).gen < 4
    rw [s2, if_neg (by decide), s1, if_pos (by decide), Tb.got_put t0_right]
    intro _ _
    decide
  · refine Su.load_is f3.down (by rw [m3]; exact n2) t0_right ?_ ?_
    · show d3.sec 1 = _
      rw [s3, if_neg (by decide), s2, if_neg (by decide), s1, if_pos (by decide)]
    · show Tb.ok (d3.sec 0) = true → _
      rw [s3, if_pos rfl, Su.full_wrong]
      intro h; cases h

theorem small_any (w : World) (hT : Tab w) : Calls Tryz.prog 27 #[] w fun e w' => ∃ v, e = .returned v ∧ (Fact.devAt w.heap.size (Plain.Dv.new 1)).φ v w' ∧ Below w.heap.size w w' := by
  have HT := Lib.hid hT
  clear hT
  go_enter Tryz.func27, Tryz.ntmps27
  go_wp2_with fail
  refine (fr_new 1 w (by omega) (by omega) HT.out).mono ?_
  rintro e w1 ⟨rfl, f1, b1⟩
  have F1 := Lib.hid f1
  have B1 := Lib.hid b1
  clear f1 b1
  go_wp2
  go_ret
  exact ⟨_, rfl, ⟨_, rfl, Nat.le_refl _, F1.out⟩, B1.out⟩
theorem soft_call0' {P : Program} {w : World} {F : Fact} {ρ : Operand → Value} {o : Oper} {f : FuncId} {ats : Array TypeId} {R : Ending → World → Prop}
    (hf : ∀ f, ρ (.func f) = .func (.func f) #[] #[]) (hc : Calls P f #[] w R) (ho : o.op = .call { callee := .value (.func f), args := #[], argTypes := ats })
    (hfn : (P.funcs[f]?).map (fun fn => (fn.name == "runtime.NumGoroutine", fn.body.isNone)) = some (false, false)) (hR : ∀ e w', R e w' → ∃ v, e = .returned v ∧ F.φ v w' ∧ Below w.heap.size w w') : softUpon P w F ((execOp ρ o).run P w) := by
  have e : (execOp ρ o).run P w = .ok (.enter f #[]) w := by
    simp [execOp, ho, resolve, invoke, hf, Deferred.ofValue, go_sem, enters hfn]
  rw [e]
  exact ⟨rfl, hc.mono hR⟩

set_option maxHeartbeats 4000000 in
theorem head10_any (S : SuperOk) (w : World) (hT : Tab w) : Calls Tryz.prog 4 #[] w fun e w' => e = .returned (.bool true) ∧ Below w.heap.size w w' := by
  have HT := Lib.hid hT
  obtain ⟨d1, hd1⟩ : ∃ d1, (Su.save (Plain.Dv.new 4) ⟨3, 2, xs0⟩).1 = d1 := ⟨_, rfl⟩
  obtain ⟨d2, hd2⟩ : ∃ d2, (Su.save d1 ⟨4, -1, xs0⟩).1 = d2 := ⟨_, rfl⟩
  obtain ⟨d3, hd3⟩ : ∃ d3, (d2.write 0 (Plain.full 0)).1 = d3 := ⟨_, rfl⟩
  obtain ⟨a1, a2, a3, a4, k1, k2, k3⟩ := head_facts hd1 hd2 hd3
  have HSA := Lib.hid (fun (g : Nat) (A : Option Addr) (W : World) (hO : Old W g A (flatX xs0)) (hF : Fr W g (Plain.Dv.new 4)) => S.save g (Plain.Dv.new 4) 3 2 A 4 4 xs0 W rfl (by omega) hO (by show (0 : Nat) < _; omega) hF)
  have HSB := Lib.hid (fun (g : Nat) (A : Option Addr) (W : World) (hO : Old W g A (flatX xs0)) (hF : Fr W g d1) => S.save g d1 4 (-1) A 4 4 xs0 W rfl (by omega) hO (by omega) hF)
  have HLA := Lib.hid (fun (g : Nat) (W : World) (hF : Fr W g d2) => S.load g d2 4 (-1) xs0 4 true 0 W hF a3 rfl)
  have HWR := Lib.hid (fun (g : Nat) (A : Option Addr) (W : World) (hO : Old W g A (cells (Plain.full 0))) (hF : Fr W g d2) => fr_write g d2 0 A 64 64 (Plain.full 0) W (Plain.full_length 0) hO (by omega) hF)
  have HLB := Lib.hid (fun (g : Nat) (W : World) (hF : Fr W g d3) => S.load g d3 3 2 xs0 4 true 0 W hF a4 rfl)
  have HSC := Lib.hid (fun (g : Nat) (W : World) (hF : Fr W g d3) => S.save g d3 0 0 none 0 0 [] W rfl (by omega) Old.nil (by omega) hF)
  have HSD := Lib.hid (fun (g : Nat) (A : Option Addr) (W : World) (hO : Old W g A (flatX xs0)) (hF : Fr W g (Plain.Dv.new 1)) => S.save g (Plain.Dv.new 1) 3 2 A 4 4 xs0 W rfl (by omega) hO (by show (0 : Nat) < _; omega) hF)
  rw [a1, hd1] at HSA
  rw [a2, hd2] at HSB
  rw [hd3] at HWR
  rw [Su.save_no (show Tb.right ⟨0, 0, []⟩ = false from Tb.zero_wrong)] at HSC
  rw [Su.save_small t0_right t0_slot] at HSD
  have HL0 := Lib.hid (fun (g : Nat) (W : World) (hF : Fr W g (Plain.Dv.new 4)) => S.load g (Plain.Dv.new 4) 0 0 [] 0 false 0 W hF (Su.load_new 4 (by omega)) rfl)
  have HS7 := Lib.hid (fun (W : World) => S.slot 7 W (by omega) (by omega))
  have HSM := Lib.hid (fun (W : World) => S.slot (-7) W (by omega) (by omega))
  have hmk := fun W => make64 W
  clear hd1 hd2 hd3 a1 a2 a3 a4 k1 k2 k3 hT
  generalize Plain.full 0 = zz at *
  go_enter Tryz.func4, Tryz.ntmps4
  go_wp2_with fail
  refine (fr_new 4 w (by omega) (by omega) HT.out).mono ?_
  rintro e w1 ⟨rfl, f1, b1⟩
  have F1 := Lib.hid f1
  have B1 := Lib.hid b1
  have HG := Lib.hid f1.dev.lt
  clear f1 b1
  go_wp2_with fail
  refine (HL0.out w.heap.size w1 F1.out).mono ?_
  rintro e w2 ⟨A2, c2, rfl, -, -, -, b2⟩
  have ba : Below w2.heap.size w2 (w2.alloc (.cells #[.int .i64 0, .int .i64 0, .slice A2 0 c2] 31)) := (Below.refl _ _).alloc (Nat.le_refl _) _
  have bb := b2.trans (ba.mono b2.size)
  have F3 := Lib.hid (F1.out.below bb)
  have B3 := Lib.hid (B1.out.trans (bb.mono B1.out.size))
  clear b2 ba bb
  go_wp2_with fail
  generalize w2.alloc (.cells #[.int .i64 0, .int .i64 0, .slice A2 0 c2] 31) = w3 at *
  refine (one_new w3).mono ?_
  rintro e w4 ⟨A, rfl, hA, hfr, b4⟩
  have ba : Below w4.heap.size w4 (w4.alloc (.cells #[.int .i64 3, .int .i64 2, .slice A 4 4] 31)) := (Below.refl _ _).alloc (Nat.le_refl _) _
  have bb := b4.trans (ba.mono b4.size)
  have F5 := Lib.hid (F3.out.below bb)
  have O5 := Lib.hid ((Old.new hA hfr (show w.heap.size + 2 < w3.heap.size from F3.out.dev.lt)).below ba)
  have X5 := Lib.hid (Blk.new w4 #[.int .i64 3, .int .i64 2, .slice A 4 4] 31)
  have HB5 := Lib.hid (show w.heap.size + 2 < w4.heap.size by have := F3.out.dev.lt; have := b4.size; omega)
  have B5 := Lib.hid (B3.out.trans (bb.mono B3.out.size))
  clear hA hfr b4 ba bb
  obtain ⟨y0, y1, y2⟩ := X5.out.three
  go_wp2_with fail
  generalize w4.alloc (.cells #[.int .i64 3, .int .i64 2, .slice A 4 4] 31) = w5 at *
  generalize w4.heap.size = p5 at *
  refine (HSA.out w.heap.size A w5 O5.out F5.out).mono ?_
  rintro e w6 ⟨rfl, f6, q6⟩
  have F6 := Lib.hid f6
  have O6 := Lib.hid (O5.out.on q6)
  have X6 := Lib.hid (q6.blk X5.out (by have := HB5.out; simp; omega))
  have B6 := Lib.hid (Kept.below B5.out q6 (by simp))
  have HB6 := Lib.hid (show p5 < w6.heap.size from (q6.blk X5.out (by have := HB5.out; simp; omega)).lt)
  clear f6 q6 y0 y1 y2 HSA HL0
  obtain ⟨y0, y1, y2⟩ := X6.out.three
  have ba : Below w6.heap.size w6 (w6.alloc (.cells #[.int .i64 4, .int .i64 (-1), .slice A 4 4] 31)) := (Below.refl _ _).alloc (Nat.le_refl _) _
  have X7 := Lib.hid (X6.out.below ba (Nat.le_refl _))
  have Y7 := Lib.hid (Blk.new w6 #[.int .i64 4, .int .i64 (-1), .slice A 4 4] 31)
  have F7 := Lib.hid (F6.out.below ba)
  have O7 := Lib.hid (O6.out.below ba)
  have B7 := Lib.hid (B6.out.trans (ba.mono B6.out.size))
  have HB7 := Lib.hid (show w.heap.size + 2 < w6.heap.size from F6.out.dev.lt)
  clear ba
  go_wp2_with fail
  generalize w6.alloc (.cells #[.int .i64 4, .int .i64 (-1), .slice A 4 4] 31) = w7 at *
  generalize w6.heap.size = p7 at *
  refine (HSB.out w.heap.size A w7 O7.out F7.out).mono ?_
  rintro e w8 ⟨rfl, f8, q8⟩
  have F8 := Lib.hid f8
  have O8 := Lib.hid (O7.out.on q8)
  have X8 := Lib.hid (q8.blk X7.out (by have := HB5.out; simp; omega))
  have Y8 := Lib.hid (q8.blk Y7.out (by have := HB7.out; simp; omega))
  have B8 := Lib.hid (Kept.below B7.out q8 (by simp))
  clear f8 q8 y0 y1 y2 HSB
  go_wp2_with fail
  refine (HLA.out w.heap.size w8 F8.out).mono ?_
  rintro e w9 ⟨AX, cx, rfl, -, hx, hxf, b9⟩
  have ba : Below w9.heap.size w9 (w9.alloc (.cells #[.int .i64 4, .int .i64 (-1), .slice AX 4 cx] 31)) := (Below.refl _ _).alloc (Nat.le_refl _) _
  have bb := b9.trans (ba.mono b9.size)
  have F10 := Lib.hid (F8.out.below bb)
  have O10 := Lib.hid (O8.out.below bb)
  have X10 := Lib.hid (X8.out.below bb (Nat.le_refl _))
  have Y10 := Lib.hid (Y8.out.below bb (Nat.le_refl _))
  have Z10 := Lib.hid (Blk.new w9 #[.int .i64 4, .int .i64 (-1), .slice AX 4 cx] 31)
  have OX10 := Lib.hid ((Old.new hx hxf (show w.heap.size + 2 < w8.heap.size from F8.out.dev.lt)).below ba)
  have B10 := Lib.hid (B8.out.trans (bb.mono B8.out.size))
  have HB9 := Lib.hid (show w.heap.size + 2 < w9.heap.size by have := F8.out.dev.lt; have := b9.size; omega)
  have HS10 := Lib.hid (show (w9.alloc (.cells #[.int .i64 4, .int .i64 (-1), .slice AX 4 cx] 31)).heap.size = w9.heap.size + 1 by simp)
  clear hx hxf b9 ba bb HLA
  go_wp2_with fail
  generalize w9.alloc (.cells #[.int .i64 4, .int .i64 (-1), .slice AX 4 cx] 31) = w10 at *
  generalize w9.heap.size = p9 at *
  have ba : Below w10.heap.size w10 (w10.alloc (.cells (cells zz).toArray 5)) := (Below.refl _ _).alloc (Nat.le_refl _) _
  have xz := Blk.new w10 (cells zz).toArray 5
  rw [HS10.out] at xz
  have HOZ : Old (w10.alloc (.cells (cells zz).toArray 5)) w.heap.size (some ⟨p9 + 1, 0, none⟩) (cells zz) := Old.blk xz (by have := HB9.out; omega)
  have HW11 := HWR.out w.heap.size (some ⟨p9 + 1, 0, none⟩) _ HOZ (F10.out.below ba)
  refine HW11.mono ?_
  rintro e w11 ⟨rfl, f11, q11⟩
  have F11 := Lib.hid f11
  have O11 := Lib.hid ((O10.out.below ba).on q11)
  have OX11 := Lib.hid ((OX10.out.below ba).on q11)
  have X11 := Lib.hid (q11.blk (X10.out.below ba (Nat.le_refl _)) (by have := HB5.out; simp; omega))
  have Y11 := Lib.hid (q11.blk (Y10.out.below ba (Nat.le_refl _)) (by have := HB7.out; simp; omega))
  have Z11 := Lib.hid (q11.blk (Z10.out.below ba (Nat.le_refl _)) (by have := HB9.out; simp; omega))
  have B11 := Lib.hid (Kept.below (B10.out.trans (ba.mono B10.out.size)) q11 (by simp))
  clear f11 q11 ba xz HWR HOZ HW11
  go_wp2_with fail
  refine (HLB.out w.heap.size w11 F11.out).mono ?_
  rintro e w12 ⟨AY, cy, rfl, -, hy, hyf, b12⟩
  have ba : Below w12.heap.size w12 (w12.alloc (.cells #[.int .i64 3, .int .i64 2, .slice AY 4 cy] 31)) := (Below.refl _ _).alloc (Nat.le_refl _) _
  have bb := b12.trans (ba.mono b12.size)
  have F13 := Lib.hid (F11.out.below bb)
  have O13 := Lib.hid (O11.out.below bb)
  have OX13 := Lib.hid (OX11.out.below bb)
  have X13 := Lib.hid (X11.out.below bb (Nat.le_refl _))
  have Y13 := Lib.hid (Y11.out.below bb (Nat.le_refl _))
  have Z13 := Lib.hid (Z11.out.below bb (Nat.le_refl _))
  have V13 := Lib.hid (Blk.new w12 #[.int .i64 3, .int .i64 2, .slice AY 4 cy] 31)
  have OY13 := Lib.hid ((Old.new hy hyf (show w.heap.size + 2 < w11.heap.size from F11.out.dev.lt)).below ba)
  have B13 := Lib.hid (B11.out.trans (bb.mono B11.out.size))
  have HB12 := Lib.hid (show w.heap.size + 2 < w12.heap.size by have := F11.out.dev.lt; have := b12.size; omega)
  clear hy hyf b12 ba bb HLB
  go_wp2_with fail
  generalize w12.alloc (.cells #[.int .i64 3, .int .i64 2, .slice AY 4 cy] 31) = w13 at *
  generalize w12.heap.size = p12 at *
  refine (HSC.out w.heap.size w13 F13.out).mono ?_
  rintro e w14 ⟨rfl, f14, q14⟩
  have F14 := Lib.hid f14
  have O14 := Lib.hid (O13.out.on q14)
  have OX14 := Lib.hid (OX13.out.on q14)
  have OY14 := Lib.hid (OY13.out.on q14)
  have X14 := Lib.hid (q14.blk X13.out (by have := HB5.out; simp; omega))
  have Y14 := Lib.hid (q14.blk Y13.out (by have := HB7.out; simp; omega))
  have Z14 := Lib.hid (q14.blk Z13.out (by have := HB9.out; simp; omega))
  have V14 := Lib.hid (q14.blk V13.out (by have := HB12.out; simp; omega))
  have B14 := Lib.hid (Kept.below B13.out q14 (by simp))
  clear f14 q14 HSC
  have HL5 := Lib.hid (fun (W : World) (hW : Below w14.heap.size w14 W) => load_tab W p5 3 2 A 4 4 (X14.out.below hW (Nat.le_refl _)))
  have HTW := Lib.hid (fun (W : World) (hW : Below w14.heap.size w14 W) => small_any W (F14.out.tab.below hW (Nat.le_refl _)))
  have hbd : Below w14.heap.size w14 w14.drew := (Below.refl _ _).drew
  go_wp2
  refine wp_late (by kernel_rfl) 107 [(54, []), (55, [5]), (1002, [54, 55]), (1003, [56])]
    [Fact.devAt w14.heap.size (Plain.Dv.new 1), Fact.is (tabV 3 2 A 4 4), default, default]
    [1, 1, 2, 2] [2, 3] [56, 16] [54, 55, 56, 16] ((fun p vs w' => Below w14.heap.size w14 w' ∧ (1 ≤ p → vs.getD 0 undef = .int .i64 1) ∧ (p = 2 → vs.getD 1 undef = .int .i64 1)))
    (by kernel_rfl) (by kernel_rfl) rfl rfl ⟨?s0, ?s1, trivial⟩ ?late ?fin
  case s0 =>
    intro ρ W hb hc hf hr
    clear hr
    refine under_none rfl ?_
    exact soft_call0' hf (HTW.out W (hbd.trans (hb.mono (by simp)))) rfl (by kernel_rfl) (fun _ _ ⟨v, h1, ⟨g, e, h2, h3⟩, h4⟩ => ⟨v, h1, ⟨g, e, Nat.le_trans (hbd.trans (hb.mono (by simp))).size h2, h3⟩, h4⟩)
  case s1 =>
    intro ρ W hb hc hf hr
    obtain ⟨r5, -⟩ := hr
    have e5 : ρ (.tmp 5) = .pointer (some ⟨p5, 0, none⟩) := r5
    clear r5
    refine under_none rfl ?_
    exact soft_load e5 (HL5.out W (hbd.trans (hb.mono (by simp)))) rfl
  case late =>
    intro p j o hj ho a W hsz h0 h1 hfr hou
    match p, hj with
    | 0, hj =>
      obtain rfl : 2 = j := Option.some.inj hj
      obtain rfl := Option.some.inj ho
      clear hj ho
      obtain ⟨hb, hhard⟩ := h0 rfl
      have r54 : (Fact.devAt w14.heap.size (Plain.Dv.new 1)).φ (a.tmps.getD 54 undef) W := hhard 54 0 rfl rfl
      have e55 : a.eval (.tmp 55) = tabV 3 2 A 4 4 := hhard 55 1 rfl rfl
      clear h0 h1 hhard hfr hou
      have hW := hbd.trans (hb.mono (by simp))
      obtain ⟨g2, e54, hg2, hf2⟩ := r54
      have e54 : a.eval (.tmp 54) = .pointer (some ⟨g2 + 2, 0, none⟩) := e54
      refine late_call2 rfl e54 e55 (by kernel_rfl) (HSD.out g2 A W (Old.of O14.out.lies hg2 hW) hf2) ?_
      rintro e w' ⟨rfl, -, q⟩
      exact ⟨_, rfl, _, rfl, Kept.below hW q (by simp; omega), fun _ => by simp [Act.put, Array.getD_eq_getD_getElem?, hsz], fun h => absurd h (by omega)⟩
    | 1, hj =>
      obtain rfl : 3 = j := Option.some.inj hj
      obtain rfl := Option.some.inj ho
      clear hj ho
      have hP := h1 (by omega)
      clear h0 h1 hfr hou
      obtain ⟨hb, h1, -⟩ := hP
      have h1 : a.eval (.tmp 56) = .int .i64 1 := h1 (by omega)
      refine late_assign rfl h1 ⟨_, rfl, ?_⟩
      have h2 : a.tmps.getD 56 undef = .int .i64 1 := h1
      exact ⟨hb, fun _ => by simpa [Act.put, Array.getD_eq_getD_getElem?, hsz] using h2, fun _ => by simp [Act.put, Array.getD_eq_getD_getElem?, hsz]⟩
    | q + 2, hj => cases hj
  case fin =>
    intro a w15 ha hP
    obtain ⟨b15, h56, h16⟩ := hP
    have e56 : a.tmps.getD 56 undef = .int .i64 1 := h56 (by decide)
    have e16 : a.tmps.getD 16 undef = .int .i64 1 := h16 rfl
    simp only [List.foldl_cons, List.foldl_nil, e16, e56] at ha
    clear e16 e56
    generalize a.tmps.getD 54 undef = v54 at ha
    generalize a.tmps.getD 55 undef = v55 at ha
    simp only [Act.put, List.setIfInBounds_toArray, List.set_cons_succ, List.set_cons_zero] at ha
    subst ha
    have X15 := Lib.hid (X14.out.below b15 (Nat.le_refl _))
    have Y15 := Lib.hid (Y14.out.below b15 (Nat.le_refl _))
    have Z15 := Lib.hid (Z14.out.below b15 (Nat.le_refl _))
    have V15 := Lib.hid (V14.out.below b15 (Nat.le_refl _))
    have O15 := Lib.hid (O14.out.lies.below b15)
    have OX15 := Lib.hid (OX14.out.lies.below b15)
    have OY15 := Lib.hid (OY14.out.lies.below b15)
    have B15 := Lib.hid (B14.out.trans (b15.mono B14.out.size))
    clear b15 h56 h16
    obtain ⟨y0, y1, y2⟩ := Y15.out.three
    obtain ⟨z0, z1, z2⟩ := Z15.out.three
    go_wp2_with fail
    refine (rsame_is 4 (-1) AX cx 4 xs0 4 (-1) A 4 4 xs0 w15 true rfl rfl (by omega) OX15.out O15.out (decide_eq_true rfl)).mono ?_
    rintro e w16 ⟨rfl, b16⟩
    have X16 := Lib.hid (X15.out.below b16 (Nat.le_refl _))
    have V16 := Lib.hid (V15.out.below b16 (Nat.le_refl _))
    have O16 := Lib.hid (O15.out.below b16)
    have OY16 := Lib.hid (OY15.out.below b16)
    have B16 := Lib.hid (B15.out.trans (b16.mono B15.out.size))
    clear b16 y0 y1 y2 z0 z1 z2
    obtain ⟨y0, y1, y2⟩ := X16.out.three
    obtain ⟨z0, z1, z2⟩ := V16.out.three
    go_wp2_with fail
    refine (rsame_is 3 2 AY cy 4 xs0 3 2 A 4 4 xs0 w16 true rfl rfl (by omega) OY16.out O16.out (decide_eq_true rfl)).mono ?_
    rintro e w17 ⟨rfl, b17⟩
    have B17 := Lib.hid (B16.out.trans (b17.mono B16.out.size))
    clear b17 y0 y1 y2 z0 z1 z2
    go_wp2_with fail
    refine (HS7.out w17).mono ?_
    rintro e w18 ⟨rfl, b18⟩
    have B18 := Lib.hid (B17.out.trans (b18.mono B17.out.size))
    clear b18
    go_wp2_with fail
    refine (HSM.out w18).mono ?_
    rintro e w19 ⟨rfl, b19⟩
    have B19 := Lib.hid (B18.out.trans (b19.mono B18.out.size))
    clear b19
    go_wp2
    go_ret
    exact ⟨rfl, B19.out⟩

end Go.Proofs.YtehnhjnkbclnlaaGreatDoor
