/-
  Layer 10, on a scratch seat: super.Save of a try: things in a row, a method's value and a closure.
-/
import Derived.Test.YtehnhjnkbclnlaaGreatDoorSuL

namespace Go.Proofs.YtehnhjnkbclnlaaGreatDoor
open Go.ChangeShapes Go.WideShapes Go.ChangeAt Go.RowKit
set_option maxRecDepth 100000

theorem fr_flush (g : Nat) (d : Plain.Dv) (w : World) (hdone : d.done < 4611686018427387900) (h : Fr w g d) :
    Calls Tryz.prog 32 #[.pointer (some ⟨g + 2, 0, none⟩)] w fun e w' => e = .returned (.int .i64 (d.flush.2 : Int)) ∧ Fr w' g d.flush.1 ∧ Kept [g, g + 1, g + 2] w w' :=
  (flush_any w g d (by omega) h.dev).mono fun _ _ ⟨he, hd, hk⟩ => ⟨he, h.on hd hk, hk⟩
def Fact.newp (B : Nat) (T : List UInt8) : Fact := ⟨fun v w => ∃ b t, v = .slice (some ⟨b, 0, none⟩) 64 64 ∧ B ≤ b ∧ Blk w b (cells T).toArray t, fun _ _ _ ⟨b, t, e, hB, h⟩ hb => ⟨b, t, e, hB, h.below hb (Nat.le_refl _)⟩⟩
set_option maxHeartbeats 4000000 in
theorem ssave1_any (g p1 p2 : Nat) (d : Plain.Dv) (x o : Int) (A : Option Addr) (cap n : Nat) (xs : List Tb.Ext) (w : World) (hn : xs.length = n) (hc : n ≤ cap) (hA : Old w g A (flatX xs)) (hr : Tb.right ⟨x, o, xs⟩ = true) (hdone : d.done < 4611686018427387000) (h : Fr w g d)
    (h1 : Blk w p1 #[.pointer (some ⟨g + 2, 0, none⟩)] 25) (h2 : Blk w p2 #[.int .i64 x, .int .i64 o, .slice A n cap] 31) :
    Calls Tryz.prog 29 #[.pointer (some ⟨p1, 0, none⟩), .pointer (some ⟨p2, 0, none⟩)] w fun e w' => e = .returned (.int .i64 ((d.write (Su.slot x) (Tb.put ⟨x, o, xs⟩)).2 : Int)) ∧ Fr w' g (d.write (Su.slot x) (Tb.put ⟨x, o, xs⟩)).1 ∧ Kept [g, g + 1, g + 2] w w' := by
  have H1 := Lib.hid h1
  have H2 := Lib.hid h2
  have HF := Lib.hid h
  have HA := Lib.hid hA
  have HN := Lib.hid hn
  have HPL := Lib.hid (Su.put_64 hr)
  obtain ⟨k, hk⟩ : ∃ k, Su.slot x = k := ⟨_, rfl⟩
  have HSL := Lib.hid (fun (W : World) => sslot_any x W)
  have HPU := Lib.hid (fun (W : World) (hW : Below w.heap.size w W) => tput_yes0 x o A cap n xs W HN.out hc (HA.out.lies.below hW) (HF.out.tab.below hW (Nat.le_refl _)) hr)
  have HWR := Lib.hid (fun (b : Nat) (W : World) (hO : Old W g (some ⟨b, 0, none⟩) (cells (Tb.put ⟨x, o, xs⟩))) (hF : Fr W g d) => fr_write g d (Su.slot x) (some ⟨b, 0, none⟩) 64 64 (Tb.put ⟨x, o, xs⟩) W HPL.out hO hdone hF)
  rw [hk] at HSL HWR ⊢
  generalize Tb.put ⟨x, o, xs⟩ = PT at *
  obtain ⟨d2, E2, hw⟩ : ∃ d2 E2, d.write (k : Int) PT = (d2, E2) := ⟨_, _, rfl⟩
  rw [hw] at HWR ⊢
  simp only at HWR ⊢
  have HC0 := Lib.hid (fun (W : World) (hW : Below w.heap.size w W) => show (Instr.loadAt 2 (.pointer (some ⟨p2, 0, none⟩))).run Tryz.prog W = .ok (.int .i64 x) W by
    have c := (H2.out.below hW (Nat.le_refl _)).cell 0
    go_simp)
  have HP0 := Lib.hid (fun (W : World) (hW : Below w.heap.size w W) => show (Instr.loadAt 25 (.pointer (some ⟨p1, 0, none⟩))).run Tryz.prog W = .ok (.pointer (some ⟨g + 2, 0, none⟩)) W by
    have c := (H1.out.below hW (Nat.le_refl _)).cell 0
    go_simp)
  have HLT := Lib.hid (fun (W : World) (hW : Below w.heap.size w W) => load_tab W p2 x o A n cap (H2.out.below hW (Nat.le_refl _)))
  have hbd : Below w.heap.size w w.drew := (Below.refl _ _).drew
  clear h1 h2 h hA hn hr hk hw
  go_enter Tryz.func29, Tryz.ntmps29
  go_wp2
  refine wp_late (by kernel_rfl) 10 [(3, [0]), (4, [1]), (5, [4]), (6, [5]), (7, [1]), (8, [7]), (1006, [3, 6, 8]), (1007, [9])]
    [Fact.is (.pointer (some ⟨g + 2, 0, none⟩)), Fact.is (.pointer (some ⟨p2, 0, none⟩)), Fact.is (.int .i64 x), Fact.is (.int .i64 (k : Int)), Fact.is (tabV x o A n cap), Fact.newp w.heap.size PT, default, default]
    [1, 1, 1, 1, 1, 1, 2, 2] [6, 7] [9, 2] [3, 4, 5, 6, 7, 8, 9, 2] ((fun p vs w' => Fr w' g d2 ∧ Kept [g, g + 1, g + 2] w w' ∧ (1 ≤ p → vs.getD 0 undef = .int .i64 (E2 : Int)) ∧ (p = 2 → vs.getD 1 undef = .int .i64 (E2 : Int))))
    (by kernel_rfl) (by kernel_rfl) rfl rfl ⟨?s0, ?s1, ?s2, ?s3, ?s4, ?s5, trivial⟩ ?late ?fin
  case s0 =>
    intro ρ W hb hc hf hr
    obtain ⟨r0, -⟩ := hr
    have e0 : ρ (.tmp 0) = .pointer (some ⟨p1, 0, none⟩) := r0
    clear r0
    refine under_none rfl ?_
    exact soft_load e0 (HP0.out W (hbd.trans (hb.mono (by simp)))) rfl
  case s1 =>
    intro ρ W hb hc hf hr
    obtain ⟨r1, -⟩ := hr
    have e1 : ρ (.tmp 1) = .pointer (some ⟨p2, 0, none⟩) := r1
    clear r1
    refine under_none rfl ?_
    exact soft_field e1 rfl (fun W => by go_simp)
  case s2 =>
    intro ρ W hb hc hf hr
    obtain ⟨r4, -⟩ := hr
    have e4 : ρ (.tmp 4) = .pointer (some ⟨p2, 0, none⟩) := r4
    clear r4
    refine under_none rfl ?_
    exact soft_load e4 (HC0.out W (hbd.trans (hb.mono (by simp)))) rfl
  case s3 =>
    intro ρ W hb hc hf hr
    obtain ⟨r5, -⟩ := hr
    have e5 : ρ (.tmp 5) = .int .i64 x := r5
    clear r5
    refine under_none rfl ?_
    exact soft_call1 hf e5 (HSL.out W) rfl (by kernel_rfl) same_is
  case s4 =>
    intro ρ W hb hc hf hr
    obtain ⟨r1, -⟩ := hr
    have e1 : ρ (.tmp 1) = .pointer (some ⟨p2, 0, none⟩) := r1
    clear r1
    refine under_none rfl ?_
    exact soft_load e1 (HLT.out W (hbd.trans (hb.mono (by simp)))) rfl
  case s5 =>
    intro ρ W hb hc hf hr
    obtain ⟨r7, -⟩ := hr
    have e7 : ρ (.tmp 7) = tabV x o A n cap := r7
    clear r7
    refine under_none rfl ?_
    exact soft_call1 hf e7 (HPU.out W (hbd.trans (hb.mono (by simp)))) rfl (by kernel_rfl) (fun _ _ ⟨b, h1, h2, h3, h4⟩ => ⟨_, h1, ⟨b, _, rfl, Nat.le_trans (hbd.trans (hb.mono (by simp))).size h2, h3⟩, h4⟩)
  case late =>
    intro p j o hj ho a W hsz h0 h1 hfr hou
    match p, hj with
    | 0, hj =>
      obtain rfl : 6 = j := Option.some.inj hj
      obtain rfl := Option.some.inj ho
      clear hj ho
      obtain ⟨hb, hhard⟩ := h0 rfl
      have e3 : a.eval (.tmp 3) = .pointer (some ⟨g + 2, 0, none⟩) := hhard 3 0 rfl rfl
      have e6 : a.eval (.tmp 6) = .int .i64 (k : Int) := hhard 6 3 rfl rfl
      have r8 : (Fact.newp w.heap.size PT).φ (a.tmps.getD 8 undef) W := hhard 8 5 rfl rfl
      clear h0 h1 hhard hfr hou
      have hW := hbd.trans (hb.mono (by simp))
      obtain ⟨b, ty, e8, hbb, hbk⟩ := r8
      have e8 : a.eval (.tmp 8) = .slice (some ⟨b, 0, none⟩) 64 64 := e8
      refine late9_call3 rfl e3 e6 e8 (by kernel_rfl) (HWR.out b W (Old.blk hbk (by have := HF.out.dev.lt; omega)) (HF.out.below hW)) ?_
      rintro e w' ⟨rfl, hf', hk'⟩
      exact ⟨_, rfl, _, rfl, hf', (Kept.of hW _).trans hk', fun _ => by simp [Act.put, Array.getD_eq_getD_getElem?, hsz], fun h => absurd h (by omega)⟩
    | 1, hj =>
      obtain rfl : 7 = j := Option.some.inj hj
      obtain rfl := Option.some.inj ho
      clear hj ho
      have hP := h1 (by omega)
      clear h0 h1 hfr hou
      obtain ⟨q1, q2, q3, -⟩ := hP
      have q3 : a.eval (.tmp 9) = .int .i64 (E2 : Int) := q3 (by omega)
      have q4 : a.tmps.getD 9 undef = .int .i64 (E2 : Int) := q3
      refine late_assign rfl q3 ⟨_, rfl, ?_⟩
      exact ⟨q1, q2, fun _ => by simpa [Act.put, Array.getD_eq_getD_getElem?, hsz] using q4, fun _ => by simp [Act.put, Array.getD_eq_getD_getElem?, hsz]⟩
    | q + 2, hj => cases hj
  case fin =>
    intro a w4 ha hP
    obtain ⟨f4, k4, h9, h2'⟩ := hP
    have e9 : a.tmps.getD 9 undef = .int .i64 (E2 : Int) := h9 (by decide)
    have e2 : a.tmps.getD 2 undef = .int .i64 (E2 : Int) := h2' rfl
    simp only [List.foldl_cons, List.foldl_nil, e2, e9] at ha
    clear e2 e9
    generalize a.tmps.getD 3 undef = v3 at ha
    generalize a.tmps.getD 4 undef = v4 at ha
    generalize a.tmps.getD 5 undef = v5 at ha
    generalize a.tmps.getD 6 undef = v6 at ha
    generalize a.tmps.getD 7 undef = v7 at ha
    generalize a.tmps.getD 8 undef = v8 at ha
    simp only [Act.put, List.setIfInBounds_toArray, List.set_cons_succ, List.set_cons_zero] at ha
    subst ha
    have F4 := Lib.hid f4
    have K4 := Lib.hid k4
    clear f4 k4 h9 h2'
    go_wp2
    go_ret
    exact ⟨rfl, F4.out, K4.out⟩

set_option maxHeartbeats 4000000 in
theorem sturn_any (b g p1 p2 : Nat) (d : Plain.Dv) (x o : Int) (A : Option Addr) (cap n : Nat) (xs : List Tb.Ext) (w : World) (hn : xs.length = n) (hc : n ≤ cap) (hA : Old w g A (flatX xs)) (hr : Tb.right ⟨x, o, xs⟩ = true) (hdone : d.done < 4611686018427386000) (h : Fr w g d)
    (h1 : Blk w p1 #[.pointer (some ⟨g + 2, 0, none⟩)] 25) (h2 : Blk w p2 #[.int .i64 x, .int .i64 o, .slice A n cap] 31) (hp1 : g + 2 < p1) (hp2 : g + 2 < p2) (hbg : g + 2 < b)
    (hb : Blk w b #[.func (.func 32) #[.pointer (some ⟨g + 2, 0, none⟩)] #[], .func (.func 29) #[] #[.pointer (some ⟨p1, 0, none⟩), .pointer (some ⟨p2, 0, none⟩)], .func (.func 32) #[.pointer (some ⟨g + 2, 0, none⟩)] #[]] 66) :
    Calls Tryz.prog 31 #[.slice (some ⟨b, 0, none⟩) 3 3] w fun e w' => e = .returned (.int .i64 ((Su.save d ⟨x, o, xs⟩).2 : Int)) ∧ Fr w' g (Su.save d ⟨x, o, xs⟩).1 ∧ Kept [g, g + 1, g + 2] w w' := by
  have HSV := Lib.hid (show Su.save d ⟨x, o, xs⟩ = if d.flush.2 ≠ 0 then d.flush else if (d.flush.1.write (Su.slot x) (Tb.put ⟨x, o, xs⟩)).2 ≠ 0 then d.flush.1.write (Su.slot x) (Tb.put ⟨x, o, xs⟩) else (d.flush.1.write (Su.slot x) (Tb.put ⟨x, o, xs⟩)).1.flush by unfold Su.save; rw [if_neg (by simp [hr])])
  have HB := Lib.hid hb
  have H1 := Lib.hid h1
  have H2 := Lib.hid h2
  have HA := Lib.hid hA
  have HQ := Lib.hid (show p1 ∉ [g, g + 1, g + 2] ∧ p2 ∉ [g, g + 1, g + 2] ∧ b ∉ [g, g + 1, g + 2] by simp; omega)
  have HF := Lib.hid (fr_flush g d w (by omega) h)
  have hd1 := d.flush_done
  have HS1 := Lib.hid (fun (d1 : Plain.Dv) (W : World) (hd : d1.done < 4611686018427387000) (hA : Old W g A (flatX xs)) (hf : Fr W g d1) (h1 : Blk W p1 #[.pointer (some ⟨g + 2, 0, none⟩)] 25) (h2 : Blk W p2 #[.int .i64 x, .int .i64 o, .slice A n cap] 31) => ssave1_any g p1 p2 d1 x o A cap n xs W hn hc hA hr hd hf h1 h2)
  obtain ⟨d1, E1, e1⟩ : ∃ d1 E1, d.flush = (d1, E1) := ⟨_, _, rfl⟩
  rw [e1] at HF HSV hd1
  simp only at HF HSV hd1
  have hd1' : d1.done < 4611686018427386100 := by omega
  have HS1 := Lib.hid (fun (W : World) => HS1.out d1 W (by omega))
  obtain ⟨d2, E2, e2⟩ : ∃ d2 E2, d1.write (Su.slot x) (Tb.put ⟨x, o, xs⟩) = (d2, E2) := ⟨_, _, rfl⟩
  have hd2 := d1.write_done (Su.slot x) (Tb.put ⟨x, o, xs⟩)
  rw [e2] at HS1 HSV hd2
  simp only at HS1 HSV hd2
  have HD2 := Lib.hid (show d2.done < 4611686018427387900 by omega)
  have y0 : w.cell? ⟨b, 0, none⟩ = some (.func (.func 32) #[.pointer (some ⟨g + 2, 0, none⟩)] #[]) := hb.cell 0
  clear hb h1 h2 hA h hr e1 e2 hd1 hd1' hd2 hp1 hp2 hbg hn
  go_enter Tryz.func31, Tryz.ntmps31
  go_wp2_with fail
  refine wp_loop_rounds 4 ?_
  rw [rounds_succ]
  go_wp2_with fail
  refine HF.out.mono ?_
  rintro e w1 ⟨rfl, f1, k1⟩
  have F1 := Lib.hid f1
  have B1 := Lib.hid (k1.blk HB.out HQ.out.2.2)
  have P1 := Lib.hid (k1.blk H1.out HQ.out.1)
  have P2 := Lib.hid (k1.blk H2.out HQ.out.2.1)
  have A1 := Lib.hid (HA.out.on k1)
  have K1 := Lib.hid k1
  have y1 : w1.cell? ⟨b, 1, none⟩ = some (.func (.func 29) #[] #[.pointer (some ⟨p1, 0, none⟩), .pointer (some ⟨p2, 0, none⟩)]) := B1.out.cell 1
  clear y0 f1 k1 HF HB H1 H2 HA
  by_cases he : E1 = 0
  rotate_left
  · have heb : ((E1 : Int) != 0) = true := by simp; omega
    rw [if_pos he] at HSV
    have HSV2 := HSV
    clear he HSV
    go_wp2
    go_ret
    rw [HSV2.out]
    exact ⟨rfl, F1.out, K1.out⟩
  subst he
  rw [if_neg (by simp)] at HSV
  go_wp2_with fail
  rw [rounds_succ]
  go_wp2_with fail
  refine (HS1.out w1 A1.out F1.out P1.out P2.out).mono ?_
  rintro e w2 ⟨rfl, f2, k2⟩
  have F2 := Lib.hid f2
  have B2 := Lib.hid (k2.blk B1.out HQ.out.2.2)
  have K2 := Lib.hid (K1.out.trans k2)
  have y2 : w2.cell? ⟨b, 2, none⟩ = some (.func (.func 32) #[.pointer (some ⟨g + 2, 0, none⟩)] #[]) := B2.out.cell 2
  clear y1 f2 k2 HS1 F1 B1 P1 P2 A1 K1
  by_cases he : E2 = 0
  rotate_left
  · have heb : ((E2 : Int) != 0) = true := by simp; omega
    rw [if_pos he] at HSV
    have HSV2 := HSV
    clear he HSV
    go_wp2
    go_ret
    rw [HSV2.out]
    exact ⟨rfl, F2.out, K2.out⟩
  subst he
  rw [if_neg (by simp)] at HSV
  have HF3 := Lib.hid (fr_flush g d2 w2 HD2.out F2.out)
  obtain ⟨d3, E3, e3⟩ : ∃ d3 E3, d2.flush = (d3, E3) := ⟨_, _, rfl⟩
  rw [e3] at HF3 HSV
  simp only at HF3
  clear e3
  go_wp2_with fail
  rw [rounds_succ]
  go_wp2_with fail
  refine HF3.out.mono ?_
  rintro e w3 ⟨rfl, f3, k3⟩
  have F3 := Lib.hid f3
  have K3 := Lib.hid (K2.out.trans k3)
  clear y2 f3 k3 HF3
  by_cases he : E3 = 0
  rotate_left
  · have heb : ((E3 : Int) != 0) = true := by simp; omega
    clear he
    go_wp2
    go_ret
    rw [HSV.out]
    exact ⟨rfl, F3.out, K3.out⟩
  subst he
  go_wp2_with fail
  rw [rounds_succ]
  go_wp2
  go_ret
  rw [HSV.out]
  exact ⟨rfl, F3.out, K3.out⟩

end Go.Proofs.YtehnhjnkbclnlaaGreatDoor
