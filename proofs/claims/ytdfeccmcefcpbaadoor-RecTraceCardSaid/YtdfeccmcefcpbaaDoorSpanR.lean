/-
  SpRd: Layer 3: the reader's pass, number and text: what they answer, and how the reader stands then. Nothing is assumed but that its bytes lie in memory.
  SpTk: Layer 3: span.takeNumbers and takeTexts: what they put where, and how the reader stands then. Nothing is assumed but that its bytes lie in memory.
-/
import Derived.Test.YtdfeccmcefcpbaaDoorGen
import Derived.Test.YtdfeccmcefcpbaaDoorMath
import Derived.Test.YtdfeccmcefcpbaaDoorVint
import Derived.Test.YtdfeccmcefcpbaaDoorBase

namespace Go.Proofs.YtdfeccmcefcpbaaDoor
open Go.RowKit
set_option maxRecDepth 100000

theorem soft_sliceLo {P : Program} {w : World} {ρ : Operand → Value} {o : Oper} {x y : Operand} {t : TypeId} {vx vy u : Value} (hx : ρ x = vx) (hy : ρ y = vy) (hr : (Instr.sliceAt t vx (some vy) none none).run P w = .ok u w) (ho : o.op = .slice t x (some y) none none) : softUpon P w (Fact.is u) ((execOp ρ o).run P w) := by
  have e : (execOp ρ o).run P w = .ok (.value u) w := by
    simp [execOp, ho, hx, hy, hr]
  rw [e]
  exact ⟨rfl, Below.refl _ _⟩

/-- the reader's error: nil, or a fault of a number -/
def errS (at_ : Int) (e : Nat) : Value := if e = 0 then .nilIface else .iface 110 (.agg #[.int .i64 at_, .iface 28 (.int .i64 e)])
theorem errS_zero (at_ : Int) : errS at_ 0 = .nilIface := rfl
theorem errS_pos (at_ : Int) (e : Nat) (h : e ≠ 0) : errS at_ e = .iface 110 (.agg #[.int .i64 at_, .iface 28 (.int .i64 e)]) := by unfold errS; rw [if_neg h]
/-- how the reader stands -/
def Rd (w : World) (g : Nat) (A : Option Addr) (n cap a : Nat) (at_ : Int) (e : Nat) : Prop := Blk w g #[.slice A n cap, .int .i64 a, errS at_ e] 97

theorem pass_ok (w : World) (g : Nat) (A : Option Addr) (n cap a k : Nat) (ha : a + k ≤ 4611686018427387904) (h : Rd w g A n cap a 0 0) :
    Calls Tryd.prog 87 #[.pointer (some ⟨g, 0, none⟩), .int .i64 k, .int .i64 0] w fun e w' => e = .returned (.tuple #[]) ∧ Rd w' g A n cap (a + k) 0 0 ∧ Kept [g] w w' := by
  have c1 : w.cell? ⟨g, 1, none⟩ = some (.int .i64 a) := h.cell 1
  have f1 := h.frozen 1
  have hs := h.set 1 (.int .i64 ((a + k : Nat) : Int))
  have HS := Lib.hid (show Rd (w.setCell ⟨g, 1, none⟩ (.int .i64 ((a : Int) + (k : Int)))) g A n cap (a + k) 0 0 by
    rw [show ((a : Int) + (k : Int)) = ((a + k : Nat) : Int) by omega]; exact hs)
  clear hs
  go_enter Tryd.func87, Tryd.ntmps87
  go_wp2
  go_returns
  exact ⟨rfl, HS.out, (Kept.refl _ _).setCell (by simp) _⟩
theorem pass_err (w : World) (g : Nat) (A : Option Addr) (n cap a : Nat) (k : Int) (e : Nat) (he : e = 11 ∨ e = 12) (h : Rd w g A n cap a 0 0) :
    Calls Tryd.prog 87 #[.pointer (some ⟨g, 0, none⟩), .int .i64 k, .int .i64 e] w fun ev w' => ev = .returned (.tuple #[]) ∧ Rd w' g A n cap a a e ∧ Kept [g] w w' := by
  have c1 : w.cell? ⟨g, 1, none⟩ = some (.int .i64 a) := h.cell 1
  have c2 : w.cell? ⟨g, 2, none⟩ = some .nilIface := h.cell 2
  have f2 := h.frozen 2
  have hs := h.set 2 (.iface 110 (.agg #[.int .i64 a, .iface 28 (.int .i64 e)]))
  have HS := Lib.hid (show Rd (w.setCell ⟨g, 2, none⟩ (.iface 110 (.agg #[.int .i64 a, .iface 28 (.int .i64 e)]))) g A n cap a a e by
    unfold Rd; rw [errS_pos a e (by omega)]; exact hs)
  clear hs
  have hne : ((e : Int) == 0) = false := beq_eq_false_iff_ne.2 (by omega)
  go_enter Tryd.func87, Tryd.ntmps87
  go_wp2
  go_returns
  exact ⟨rfl, HS.out, (Kept.refl _ _).setCell (by simp) _⟩

/-- the memory that a reader stands on: its bytes lie in memory that was there before it -/
structure Stand (w0 w : World) (g : Nat) (A : Option Addr) (n cap : Nat) (bs : List UInt8) : Prop where
  len : bs.length = n
  room : n ≤ cap
  small : cap ≤ maxLen
  few : n ≤ 1099511627776
  lies : Lies w0 A (cells bs)
  kept : Below w0.heap.size w0 w
  new : w0.heap.size ≤ g
theorem Stand.on {w0 w w' : World} {g : Nat} {A : Option Addr} {n cap : Nat} {bs : List UInt8} (h : Stand w0 w g A n cap bs) (hb : Below w0.heap.size w0 w') : Stand w0 w' g A n cap bs := ⟨h.len, h.room, h.small, h.few, h.lies, hb, h.new⟩

set_option maxHeartbeats 4000000 in
theorem number_go (w0 w : World) (g : Nat) (A : Option Addr) (n cap o : Nat) (bs : List UInt8) (hG : Stand w0 w g A n cap bs) (ha : o ≤ n) (h : Rd w g A n cap o 0 0) :
    Calls Tryd.prog 83 #[.pointer (some ⟨g, 0, none⟩)] w fun ev w' => ev = .returned (.int .i64 (Plain.stepN bs o 0).1) ∧ (∃ at_, Rd w' g A n cap (Plain.stepN bs o 0).2.1 at_ (Plain.stepN bs o 0).2.2) ∧ Kept [g] w w' := by
  have hst : Plain.stepN bs o 0 = if (Plain.get (bs.drop o)).2.2 ≠ 0 then (0, o, (Plain.get (bs.drop o)).2.2) else ((Plain.get (bs.drop o)).1, o + (Plain.get (bs.drop o)).2.1, 0) := by
    unfold Plain.stepN; rw [if_neg (by omega)]
  have hcc := Plain.code_cases (bs.drop o)
  have her := Plain.get_err (bs.drop o)
  have hsm := Plain.get_small (bs.drop o)
  have hld : (bs.drop o).length = n - o := by rw [List.length_drop, hG.len]
  have hcap := hG.room
  have hsml := hG.small
  have hfew := hG.few
  have hlies := hG.lies.drop (k := o) (cap := cap) (by rw [cells_length, hG.len]; exact hG.room)
  rw [cells_drop] at hlies
  have HC0 := Lib.hid (fun (W : World) (hW : Below w.heap.size w W) => show (Instr.loadAt 25 (.pointer (some ⟨g, 0, none⟩))).run Tryd.prog W = .ok (.slice A n cap) W from by
    have c0 : W.cell? ⟨g, 0, none⟩ = some (.slice A n cap) := (hW.cell (p := ⟨g, 0, none⟩) h.lt).trans (h.cell 0)
    go_simp)
  have HC1 := Lib.hid (fun (W : World) (hW : Below w.heap.size w W) => show (Instr.loadAt 3 (.pointer (some ⟨g, 1, none⟩))).run Tryd.prog W = .ok (.int .i64 o) W from by
    have c1 : W.cell? ⟨g, 1, none⟩ = some (.int .i64 o) := (hW.cell (p := ⟨g, 1, none⟩) h.lt).trans (h.cell 1)
    go_simp)
  obtain ⟨AD, hAD⟩ : ∃ AD, (if cap = o then A else A.map (·.add o)) = AD := ⟨_, rfl⟩
  rw [hAD] at hlies
  have HSL := Lib.hid (fun (W : World) => show (Instr.sliceAt 25 (.slice A n cap) (some (.int .i64 (o : Int))) none none).run Tryd.prog W = .ok (.slice AD (n - o) (cap - o)) W from by
    have h1 : o ≤ n := ha
    subst hAD
    by_cases hca : cap = o
    · subst hca
      obtain rfl : n = cap := by omega
      rw [if_pos rfl]
      go_simp
    · rw [if_neg hca]
      go_simp)
  have c2 : w.cell? ⟨g, 2, none⟩ = some .nilIface := h.cell 2
  generalize bs.drop o = ds at *
  obtain ⟨X, hX⟩ : ∃ X, (Plain.get ds).1 = X := ⟨_, rfl⟩
  obtain ⟨K, hK⟩ : ∃ K, (Plain.get ds).2.1 = K := ⟨_, rfl⟩
  obtain ⟨C, hC⟩ : ∃ C, (Plain.get ds).2.2 = C := ⟨_, rfl⟩
  have HG := Lib.hid (fun (W : World) (hW : Below w.heap.size w W) => get_is AD (n - o) (cap - o) ds W X K C hld (by unfold maxLen at *; omega) (hlies.below (hG.kept.trans (hW.mono hG.kept.size))) (by rw [hX]) (by rw [hK]) (by rw [hC]))
  rw [hX, hK, hC] at hst
  rw [hC] at hcc
  rw [hX, hK, hld] at hsm
  have hX0 : C ≠ 0 → X = 0 := fun hc => by
    rcases her with h1 | h1 | h1
    · omega
    · rw [h1] at hX; exact hX.symm
    · rw [h1] at hX; exact hX.symm
  clear her hX hK hC hlies
  have HST := Lib.hid hst
  have HCC := Lib.hid hcc
  have HRD := Lib.hid h
  clear hst hcc hAD hld
  have hbd : Below w.heap.size w w.drew := (Below.refl _ _).drew
  go_enter Tryd.func83, Tryd.ntmps83
  go_wp2
  refine wp_softS (by kernel_rfl) 30 [(12, [0]), (13, [12]), (14, [13]), (15, [14]), (16, [0]), (17, [16]), (18, [17]), (19, [18]), (20, [15, 19]), (21, [20]), (11, [21]), (22, [11]), (23, [11]), (24, [11]), (3, [22]), (4, [23]), (5, [24])]
    [Fact.is (.pointer (some ⟨g, 0, none⟩)), Fact.is (.pointer (some ⟨g, 0, none⟩)), Fact.is (.pointer (some ⟨g, 0, none⟩)), Fact.is (.slice A n cap), Fact.is (.pointer (some ⟨g, 0, none⟩)), Fact.is (.pointer (some ⟨g, 0, none⟩)), Fact.is (.pointer (some ⟨g, 1, none⟩)), Fact.is (.int .i64 o), Fact.is (.slice AD (n - o) (cap - o)), Fact.is (.tuple #[.int .i64 X, .int .i64 K, .int .i64 C]), Fact.is (.tuple #[.int .i64 X, .int .i64 K, .int .i64 C]), Fact.is (.int .i64 X), Fact.is (.int .i64 K), Fact.is (.int .i64 C), Fact.is (.int .i64 X), Fact.is (.int .i64 K), Fact.is (.int .i64 C)]
    (by kernel_rfl) rfl rfl ⟨?s0, ?s1, ?s2, ?s3, ?s4, ?s5, ?s6, ?s7, ?s8, ?s9, ?s10, ?s11, ?s12, ?s13, ?s14, ?s15, ?s16, trivial⟩ ?fin
  case s0 =>
    intro ρ W hb hc hf hr
    obtain ⟨r0, -⟩ := hr
    have e0 : ρ (.tmp 0) = .pointer (some ⟨g, 0, none⟩) := r0
    clear r0
    refine under_none rfl ?_
    exact ⟨e0, Below.refl _ _⟩
  case s1 =>
    intro ρ W hb hc hf hr
    obtain ⟨r12, -⟩ := hr
    have e12 : ρ (.tmp 12) = .pointer (some ⟨g, 0, none⟩) := r12
    clear r12
    refine under_none rfl ?_
    simp [execOp, e12, go_sem, softUpon, Fact.is, Below.refl]
  case s2 =>
    intro ρ W hb hc hf hr
    obtain ⟨r13, -⟩ := hr
    have e13 : ρ (.tmp 13) = .pointer (some ⟨g, 0, none⟩) := r13
    clear r13
    refine under_none rfl ?_
    simp [execOp, e13, go_sem, softUpon, Fact.is, Below.refl]
  case s3 =>
    intro ρ W hb hc hf hr
    obtain ⟨r14, -⟩ := hr
    have e14 : ρ (.tmp 14) = .pointer (some ⟨g, 0, none⟩) := r14
    clear r14
    refine under_none rfl ?_
    exact soft_load e14 (HC0.out W (hbd.trans (hb.mono (by simp)))) rfl
  case s4 =>
    intro ρ W hb hc hf hr
    obtain ⟨r0, -⟩ := hr
    have e0 : ρ (.tmp 0) = .pointer (some ⟨g, 0, none⟩) := r0
    clear r0
    refine under_none rfl ?_
    exact ⟨e0, Below.refl _ _⟩
  case s5 =>
    intro ρ W hb hc hf hr
    obtain ⟨r16, -⟩ := hr
    have e16 : ρ (.tmp 16) = .pointer (some ⟨g, 0, none⟩) := r16
    clear r16
    refine under_none rfl ?_
    simp [execOp, e16, go_sem, softUpon, Fact.is, Below.refl]
  case s6 =>
    intro ρ W hb hc hf hr
    obtain ⟨r17, -⟩ := hr
    have e17 : ρ (.tmp 17) = .pointer (some ⟨g, 0, none⟩) := r17
    clear r17
    refine under_none rfl ?_
    simp [execOp, e17, go_sem, softUpon, Fact.is, Below.refl]
  case s7 =>
    intro ρ W hb hc hf hr
    obtain ⟨r18, -⟩ := hr
    have e18 : ρ (.tmp 18) = .pointer (some ⟨g, 1, none⟩) := r18
    clear r18
    refine under_none rfl ?_
    exact soft_load e18 (HC1.out W (hbd.trans (hb.mono (by simp)))) rfl
  case s8 =>
    intro ρ W hb hc hf hr
    obtain ⟨r15, r19, -⟩ := hr
    have e15 : ρ (.tmp 15) = .slice A n cap := r15
    clear r15
    have e19 : ρ (.tmp 19) = .int .i64 o := r19
    clear r19
    refine under_none rfl ?_
    exact soft_sliceLo e15 e19 (HSL.out W) rfl
  case s9 =>
    intro ρ W hb hc hf hr
    obtain ⟨r20, -⟩ := hr
    have e20 : ρ (.tmp 20) = .slice AD (n - o) (cap - o) := r20
    clear r20
    refine under_none rfl ?_
    exact soft_call1 hf e20 (HG.out W (hbd.trans (hb.mono (by simp)))) rfl (by kernel_rfl) below_is
  case s10 =>
    intro ρ W hb hc hf hr
    obtain ⟨r21, -⟩ := hr
    have e21 : ρ (.tmp 21) = .tuple #[.int .i64 X, .int .i64 K, .int .i64 C] := r21
    clear r21
    refine under_none rfl ?_
    exact ⟨e21, Below.refl _ _⟩
  case s11 =>
    intro ρ W hb hc hf hr
    obtain ⟨r11, -⟩ := hr
    have e11 : ρ (.tmp 11) = .tuple #[.int .i64 X, .int .i64 K, .int .i64 C] := r11
    clear r11
    refine under_none rfl ?_
    simp [execOp, e11, go_sem, softUpon, Fact.is, Below.refl]
  case s12 =>
    intro ρ W hb hc hf hr
    obtain ⟨r11, -⟩ := hr
    have e11 : ρ (.tmp 11) = .tuple #[.int .i64 X, .int .i64 K, .int .i64 C] := r11
    clear r11
    refine under_none rfl ?_
    simp [execOp, e11, go_sem, softUpon, Fact.is, Below.refl]
  case s13 =>
    intro ρ W hb hc hf hr
    obtain ⟨r11, -⟩ := hr
    have e11 : ρ (.tmp 11) = .tuple #[.int .i64 X, .int .i64 K, .int .i64 C] := r11
    clear r11
    refine under_none rfl ?_
    simp [execOp, e11, go_sem, softUpon, Fact.is, Below.refl]
  case s14 =>
    intro ρ W hb hc hf hr
    obtain ⟨r22, -⟩ := hr
    have e22 : ρ (.tmp 22) = .int .i64 X := r22
    clear r22
    refine under_none rfl ?_
    exact ⟨e22, Below.refl _ _⟩
  case s15 =>
    intro ρ W hb hc hf hr
    obtain ⟨r23, -⟩ := hr
    have e23 : ρ (.tmp 23) = .int .i64 K := r23
    clear r23
    refine under_none rfl ?_
    exact ⟨e23, Below.refl _ _⟩
  case s16 =>
    intro ρ W hb hc hf hr
    obtain ⟨r24, -⟩ := hr
    have e24 : ρ (.tmp 24) = .int .i64 C := r24
    clear r24
    refine under_none rfl ?_
    exact ⟨e24, Below.refl _ _⟩
  case fin =>
    intro a w1 hb hd hsz hk
    have ea := act_puts hd hsz rfl hk
    have k12 : a.tmps.getD 12 undef = .pointer (some ⟨g, 0, none⟩) := hk 12
    have k13 : a.tmps.getD 13 undef = .pointer (some ⟨g, 0, none⟩) := hk 13
    have k14 : a.tmps.getD 14 undef = .pointer (some ⟨g, 0, none⟩) := hk 14
    have k15 : a.tmps.getD 15 undef = .slice A n cap := hk 15
    have k16 : a.tmps.getD 16 undef = .pointer (some ⟨g, 0, none⟩) := hk 16
    have k17 : a.tmps.getD 17 undef = .pointer (some ⟨g, 0, none⟩) := hk 17
    have k18 : a.tmps.getD 18 undef = .pointer (some ⟨g, 1, none⟩) := hk 18
    have k19 : a.tmps.getD 19 undef = .int .i64 o := hk 19
    have k20 : a.tmps.getD 20 undef = .slice AD (n - o) (cap - o) := hk 20
    have k21 : a.tmps.getD 21 undef = .tuple #[.int .i64 X, .int .i64 K, .int .i64 C] := hk 21
    have k11 : a.tmps.getD 11 undef = .tuple #[.int .i64 X, .int .i64 K, .int .i64 C] := hk 11
    have k22 : a.tmps.getD 22 undef = .int .i64 X := hk 22
    have k23 : a.tmps.getD 23 undef = .int .i64 K := hk 23
    have k24 : a.tmps.getD 24 undef = .int .i64 C := hk 24
    have k3 : a.tmps.getD 3 undef = .int .i64 X := hk 3
    have k4 : a.tmps.getD 4 undef = .int .i64 K := hk 4
    have k5 : a.tmps.getD 5 undef = .int .i64 C := hk 5
    clear hk hd hsz
    simp only [List.map_cons, List.map_nil, List.foldl_cons, List.foldl_nil, k12, k13, k14, k15, k16, k17, k18, k19, k20, k21, k11, k22, k23, k24, k3, k4, k5] at ea
    clear k12 k13 k14 k15 k16 k17 k18 k19 k20 k21 k11 k22 k23 k24 k3 k4 k5
    simp only [Act.put, List.setIfInBounds_toArray, List.set_cons_succ, List.set_cons_zero] at ea
    subst ea
    have b1 : Below w.heap.size w w1 := hbd.trans (hb.mono (by simp))
    have r1 : Rd w1 g A n cap o 0 0 := (Kept.of b1 []).blk HRD.out (by simp)
    by_cases hc0 : C = 0
    · subst hc0
      have hP := pass_ok w1 g A n cap o K (by omega) r1
      go_wp2_with fail
      refine hP.mono ?_
      rintro e w2 ⟨rfl, r2, k2⟩
      have R2 := Lib.hid r2
      go_wp2
      go_ret
      rw [HST.out]
      exact ⟨rfl, ⟨0, R2.out⟩, (Kept.of b1 _).trans k2⟩
    · obtain rfl := hX0 hc0
      have hP := pass_err w1 g A n cap o K C (by have := HCC.out; omega) r1
      go_wp2_with fail
      refine hP.mono ?_
      rintro e w2 ⟨rfl, r2, k2⟩
      have R2 := Lib.hid r2
      go_wp2
      go_ret
      rw [HST.out, if_pos hc0]
      exact ⟨rfl, ⟨o, R2.out⟩, (Kept.of b1 _).trans k2⟩
theorem number_any (w0 w : World) (g : Nat) (A : Option Addr) (n cap o : Nat) (at_ : Int) (er : Nat) (bs : List UInt8) (hG : Stand w0 w g A n cap bs) (ha : o ≤ n) (h : Rd w g A n cap o at_ er) :
    Calls Tryd.prog 83 #[.pointer (some ⟨g, 0, none⟩)] w fun ev w' => ev = .returned (.int .i64 (Plain.stepN bs o er).1) ∧ (∃ at_, Rd w' g A n cap (Plain.stepN bs o er).2.1 at_ (Plain.stepN bs o er).2.2) ∧ Kept [g] w w' := by
  by_cases h0 : er = 0
  · subst h0
    exact number_go w0 w g A n cap o bs hG ha h
  · rw [Plain.stepN_stuck bs o er h0]
    have c2 : w.cell? ⟨g, 2, none⟩ = some (errS at_ er) := h.cell 2
    rw [errS_pos at_ er h0] at c2
    have HRD := Lib.hid h
    clear h
    go_enter Tryd.func83, Tryd.ntmps83
    go_wp2
    go_ret
    exact ⟨rfl, ⟨at_, HRD.out⟩, Kept.refl _ _⟩

set_option maxHeartbeats 4000000 in
theorem text_go (w0 w : World) (g : Nat) (A : Option Addr) (n cap o : Nat) (bs : List UInt8) (hG : Stand w0 w g A n cap bs) (ha : o ≤ n) (h : Rd w g A n cap o 0 0) :
    Calls Tryd.prog 84 #[.pointer (some ⟨g, 0, none⟩)] w fun ev w' => ev = .returned (.string (str (Plain.stepT bs o 0).1)) ∧ (∃ at_, Rd w' g A n cap (Plain.stepT bs o 0).2.1 at_ (Plain.stepT bs o 0).2.2) ∧ Kept [g] w w' := by
  have hst : Plain.stepT bs o 0 = if (Plain.getText (bs.drop o)).2.2 ≠ 0 then ([], o, (Plain.getText (bs.drop o)).2.2) else ((Plain.getText (bs.drop o)).1, o + (Plain.getText (bs.drop o)).2.1, 0) := by
    unfold Plain.stepT; rw [if_neg (by omega)]
  have hcc := Plain.textCode_cases (bs.drop o)
  have her := Plain.getText_err (bs.drop o)
  have hsm := Plain.getText_small (bs.drop o)
  have hld : (bs.drop o).length = n - o := by rw [List.length_drop, hG.len]
  have hcap := hG.room
  have hsml := hG.small
  have hfew := hG.few
  have hlies := hG.lies.drop (k := o) (cap := cap) (by rw [cells_length, hG.len]; exact hG.room)
  rw [cells_drop] at hlies
  have HC0 := Lib.hid (fun (W : World) (hW : Below w.heap.size w W) => show (Instr.loadAt 25 (.pointer (some ⟨g, 0, none⟩))).run Tryd.prog W = .ok (.slice A n cap) W from by
    have c0 : W.cell? ⟨g, 0, none⟩ = some (.slice A n cap) := (hW.cell (p := ⟨g, 0, none⟩) h.lt).trans (h.cell 0)
    go_simp)
  have HC1 := Lib.hid (fun (W : World) (hW : Below w.heap.size w W) => show (Instr.loadAt 3 (.pointer (some ⟨g, 1, none⟩))).run Tryd.prog W = .ok (.int .i64 o) W from by
    have c1 : W.cell? ⟨g, 1, none⟩ = some (.int .i64 o) := (hW.cell (p := ⟨g, 1, none⟩) h.lt).trans (h.cell 1)
    go_simp)
  obtain ⟨AD, hAD⟩ : ∃ AD, (if cap = o then A else A.map (·.add o)) = AD := ⟨_, rfl⟩
  rw [hAD] at hlies
  have HSL := Lib.hid (fun (W : World) => show (Instr.sliceAt 25 (.slice A n cap) (some (.int .i64 (o : Int))) none none).run Tryd.prog W = .ok (.slice AD (n - o) (cap - o)) W from by
    have h1 : o ≤ n := ha
    subst hAD
    by_cases hca : cap = o
    · subst hca
      obtain rfl : n = cap := by omega
      rw [if_pos rfl]
      go_simp
    · rw [if_neg hca]
      go_simp)
  have c2 : w.cell? ⟨g, 2, none⟩ = some .nilIface := h.cell 2
  generalize bs.drop o = ds at *
  obtain ⟨Y, hX⟩ : ∃ Y, (Plain.getText ds).1 = Y := ⟨_, rfl⟩
  obtain ⟨K, hK⟩ : ∃ K, (Plain.getText ds).2.1 = K := ⟨_, rfl⟩
  obtain ⟨C, hC⟩ : ∃ C, (Plain.getText ds).2.2 = C := ⟨_, rfl⟩
  have HG := Lib.hid (fun (W : World) (hW : Below w.heap.size w W) => getText_is AD (n - o) (cap - o) ds W (str Y) K C hld (by omega) (by unfold maxLen at *; omega) (hlies.below (hG.kept.trans (hW.mono hG.kept.size))) (by rw [hX]) (by rw [hK]) (by rw [hC]))
  rw [hX, hK, hC] at hst
  rw [hC] at hcc
  rw [hX, hK, hld] at hsm
  have hX0 : C ≠ 0 → Y = [] := fun hc => by
    rcases her with h1 | h1 | h1
    · omega
    · rw [h1] at hX; exact hX.symm
    · rw [h1] at hX; exact hX.symm
  clear her hX hK hC hlies
  generalize hXX : str Y = X at *
  have HXX := Lib.hid hXX
  clear hXX
  have HST := Lib.hid hst
  have HCC := Lib.hid hcc
  have HRD := Lib.hid h
  clear hst hcc hAD hld
  have hbd : Below w.heap.size w w.drew := (Below.refl _ _).drew
  go_enter Tryd.func84, Tryd.ntmps84
  go_wp2
  refine wp_softS (by kernel_rfl) 30 [(12, [0]), (13, [12]), (14, [13]), (15, [14]), (16, [0]), (17, [16]), (18, [17]), (19, [18]), (20, [15, 19]), (21, [20]), (11, [21]), (22, [11]), (23, [11]), (24, [11]), (3, [22]), (4, [23]), (5, [24])]
    [Fact.is (.pointer (some ⟨g, 0, none⟩)), Fact.is (.pointer (some ⟨g, 0, none⟩)), Fact.is (.pointer (some ⟨g, 0, none⟩)), Fact.is (.slice A n cap), Fact.is (.pointer (some ⟨g, 0, none⟩)), Fact.is (.pointer (some ⟨g, 0, none⟩)), Fact.is (.pointer (some ⟨g, 1, none⟩)), Fact.is (.int .i64 o), Fact.is (.slice AD (n - o) (cap - o)), Fact.is (.tuple #[.string X, .int .i64 K, .int .i64 C]), Fact.is (.tuple #[.string X, .int .i64 K, .int .i64 C]), Fact.is (.string X), Fact.is (.int .i64 K), Fact.is (.int .i64 C), Fact.is (.string X), Fact.is (.int .i64 K), Fact.is (.int .i64 C)]
    (by kernel_rfl) rfl rfl ⟨?s0, ?s1, ?s2, ?s3, ?s4, ?s5, ?s6, ?s7, ?s8, ?s9, ?s10, ?s11, ?s12, ?s13, ?s14, ?s15, ?s16, trivial⟩ ?fin
  case s0 =>
    intro ρ W hb hc hf hr
    obtain ⟨r0, -⟩ := hr
    have e0 : ρ (.tmp 0) = .pointer (some ⟨g, 0, none⟩) := r0
    clear r0
    refine under_none rfl ?_
    exact ⟨e0, Below.refl _ _⟩
  case s1 =>
    intro ρ W hb hc hf hr
    obtain ⟨r12, -⟩ := hr
    have e12 : ρ (.tmp 12) = .pointer (some ⟨g, 0, none⟩) := r12
    clear r12
    refine under_none rfl ?_
    simp [execOp, e12, go_sem, softUpon, Fact.is, Below.refl]
  case s2 =>
    intro ρ W hb hc hf hr
    obtain ⟨r13, -⟩ := hr
    have e13 : ρ (.tmp 13) = .pointer (some ⟨g, 0, none⟩) := r13
    clear r13
    refine under_none rfl ?_
    simp [execOp, e13, go_sem, softUpon, Fact.is, Below.refl]
  case s3 =>
    intro ρ W hb hc hf hr
    obtain ⟨r14, -⟩ := hr
    have e14 : ρ (.tmp 14) = .pointer (some ⟨g, 0, none⟩) := r14
    clear r14
    refine under_none rfl ?_
    exact soft_load e14 (HC0.out W (hbd.trans (hb.mono (by simp)))) rfl
  case s4 =>
    intro ρ W hb hc hf hr
    obtain ⟨r0, -⟩ := hr
    have e0 : ρ (.tmp 0) = .pointer (some ⟨g, 0, none⟩) := r0
    clear r0
    refine under_none rfl ?_
    exact ⟨e0, Below.refl _ _⟩
  case s5 =>
    intro ρ W hb hc hf hr
    obtain ⟨r16, -⟩ := hr
    have e16 : ρ (.tmp 16) = .pointer (some ⟨g, 0, none⟩) := r16
    clear r16
    refine under_none rfl ?_
    simp [execOp, e16, go_sem, softUpon, Fact.is, Below.refl]
  case s6 =>
    intro ρ W hb hc hf hr
    obtain ⟨r17, -⟩ := hr
    have e17 : ρ (.tmp 17) = .pointer (some ⟨g, 0, none⟩) := r17
    clear r17
    refine under_none rfl ?_
    simp [execOp, e17, go_sem, softUpon, Fact.is, Below.refl]
  case s7 =>
    intro ρ W hb hc hf hr
    obtain ⟨r18, -⟩ := hr
    have e18 : ρ (.tmp 18) = .pointer (some ⟨g, 1, none⟩) := r18
    clear r18
    refine under_none rfl ?_
    exact soft_load e18 (HC1.out W (hbd.trans (hb.mono (by simp)))) rfl
  case s8 =>
    intro ρ W hb hc hf hr
    obtain ⟨r15, r19, -⟩ := hr
    have e15 : ρ (.tmp 15) = .slice A n cap := r15
    clear r15
    have e19 : ρ (.tmp 19) = .int .i64 o := r19
    clear r19
    refine under_none rfl ?_
    exact soft_sliceLo e15 e19 (HSL.out W) rfl
  case s9 =>
    intro ρ W hb hc hf hr
    obtain ⟨r20, -⟩ := hr
    have e20 : ρ (.tmp 20) = .slice AD (n - o) (cap - o) := r20
    clear r20
    refine under_none rfl ?_
    exact soft_call1 hf e20 (HG.out W (hbd.trans (hb.mono (by simp)))) rfl (by kernel_rfl) below_is
  case s10 =>
    intro ρ W hb hc hf hr
    obtain ⟨r21, -⟩ := hr
    have e21 : ρ (.tmp 21) = .tuple #[.string X, .int .i64 K, .int .i64 C] := r21
    clear r21
    refine under_none rfl ?_
    exact ⟨e21, Below.refl _ _⟩
  case s11 =>
    intro ρ W hb hc hf hr
    obtain ⟨r11, -⟩ := hr
    have e11 : ρ (.tmp 11) = .tuple #[.string X, .int .i64 K, .int .i64 C] := r11
    clear r11
    refine under_none rfl ?_
    simp [execOp, e11, go_sem, softUpon, Fact.is, Below.refl]
  case s12 =>
    intro ρ W hb hc hf hr
    obtain ⟨r11, -⟩ := hr
    have e11 : ρ (.tmp 11) = .tuple #[.string X, .int .i64 K, .int .i64 C] := r11
    clear r11
    refine under_none rfl ?_
    simp [execOp, e11, go_sem, softUpon, Fact.is, Below.refl]
  case s13 =>
    intro ρ W hb hc hf hr
    obtain ⟨r11, -⟩ := hr
    have e11 : ρ (.tmp 11) = .tuple #[.string X, .int .i64 K, .int .i64 C] := r11
    clear r11
    refine under_none rfl ?_
    simp [execOp, e11, go_sem, softUpon, Fact.is, Below.refl]
  case s14 =>
    intro ρ W hb hc hf hr
    obtain ⟨r22, -⟩ := hr
    have e22 : ρ (.tmp 22) = .string X := r22
    clear r22
    refine under_none rfl ?_
    exact ⟨e22, Below.refl _ _⟩
  case s15 =>
    intro ρ W hb hc hf hr
    obtain ⟨r23, -⟩ := hr
    have e23 : ρ (.tmp 23) = .int .i64 K := r23
    clear r23
    refine under_none rfl ?_
    exact ⟨e23, Below.refl _ _⟩
  case s16 =>
    intro ρ W hb hc hf hr
    obtain ⟨r24, -⟩ := hr
    have e24 : ρ (.tmp 24) = .int .i64 C := r24
    clear r24
    refine under_none rfl ?_
    exact ⟨e24, Below.refl _ _⟩
  case fin =>
    intro a w1 hb hd hsz hk
    have ea := act_puts hd hsz rfl hk
    have k12 : a.tmps.getD 12 undef = .pointer (some ⟨g, 0, none⟩) := hk 12
    have k13 : a.tmps.getD 13 undef = .pointer (some ⟨g, 0, none⟩) := hk 13
    have k14 : a.tmps.getD 14 undef = .pointer (some ⟨g, 0, none⟩) := hk 14
    have k15 : a.tmps.getD 15 undef = .slice A n cap := hk 15
    have k16 : a.tmps.getD 16 undef = .pointer (some ⟨g, 0, none⟩) := hk 16
    have k17 : a.tmps.getD 17 undef = .pointer (some ⟨g, 0, none⟩) := hk 17
    have k18 : a.tmps.getD 18 undef = .pointer (some ⟨g, 1, none⟩) := hk 18
    have k19 : a.tmps.getD 19 undef = .int .i64 o := hk 19
    have k20 : a.tmps.getD 20 undef = .slice AD (n - o) (cap - o) := hk 20
    have k21 : a.tmps.getD 21 undef = .tuple #[.string X, .int .i64 K, .int .i64 C] := hk 21
    have k11 : a.tmps.getD 11 undef = .tuple #[.string X, .int .i64 K, .int .i64 C] := hk 11
    have k22 : a.tmps.getD 22 undef = .string X := hk 22
    have k23 : a.tmps.getD 23 undef = .int .i64 K := hk 23
    have k24 : a.tmps.getD 24 undef = .int .i64 C := hk 24
    have k3 : a.tmps.getD 3 undef = .string X := hk 3
    have k4 : a.tmps.getD 4 undef = .int .i64 K := hk 4
    have k5 : a.tmps.getD 5 undef = .int .i64 C := hk 5
    clear hk hd hsz
    simp only [List.map_cons, List.map_nil, List.foldl_cons, List.foldl_nil, k12, k13, k14, k15, k16, k17, k18, k19, k20, k21, k11, k22, k23, k24, k3, k4, k5] at ea
    clear k12 k13 k14 k15 k16 k17 k18 k19 k20 k21 k11 k22 k23 k24 k3 k4 k5
    simp only [Act.put, List.setIfInBounds_toArray, List.set_cons_succ, List.set_cons_zero] at ea
    subst ea
    have b1 : Below w.heap.size w w1 := hbd.trans (hb.mono (by simp))
    have r1 : Rd w1 g A n cap o 0 0 := (Kept.of b1 []).blk HRD.out (by simp)
    by_cases hc0 : C = 0
    · subst hc0
      have hP := pass_ok w1 g A n cap o K (by omega) r1
      go_wp2_with fail
      refine hP.mono ?_
      rintro e w2 ⟨rfl, r2, k2⟩
      have R2 := Lib.hid r2
      go_wp2
      go_ret
      rw [HST.out]
      exact ⟨by rw [← HXX.out]; rfl, ⟨0, R2.out⟩, (Kept.of b1 _).trans k2⟩
    · have HY := Lib.hid (hX0 hc0)
      have hP := pass_err w1 g A n cap o K C (by have := HCC.out; omega) r1
      go_wp2_with fail
      refine hP.mono ?_
      rintro e w2 ⟨rfl, r2, k2⟩
      have R2 := Lib.hid r2
      go_wp2
      go_ret
      rw [HST.out, if_pos hc0]
      exact ⟨by rw [← HY.out, HXX.out]; rfl, ⟨o, R2.out⟩, (Kept.of b1 _).trans k2⟩
theorem text_any (w0 w : World) (g : Nat) (A : Option Addr) (n cap o : Nat) (at_ : Int) (er : Nat) (bs : List UInt8) (hG : Stand w0 w g A n cap bs) (ha : o ≤ n) (h : Rd w g A n cap o at_ er) :
    Calls Tryd.prog 84 #[.pointer (some ⟨g, 0, none⟩)] w fun ev w' => ev = .returned (.string (str (Plain.stepT bs o er).1)) ∧ (∃ at_, Rd w' g A n cap (Plain.stepT bs o er).2.1 at_ (Plain.stepT bs o er).2.2) ∧ Kept [g] w w' := by
  by_cases h0 : er = 0
  · subst h0
    exact text_go w0 w g A n cap o bs hG ha h
  · rw [Plain.stepT_stuck bs o er h0]
    have c2 : w.cell? ⟨g, 2, none⟩ = some (errS at_ er) := h.cell 2
    rw [errS_pos at_ er h0] at c2
    have HRD := Lib.hid h
    clear h
    go_enter Tryd.func84, Tryd.ntmps84
    go_wp2
    go_ret
    exact ⟨rfl, ⟨at_, HRD.out⟩, Kept.refl _ _⟩
end Go.Proofs.YtdfeccmcefcpbaaDoor

namespace Go.Proofs.YtdfeccmcefcpbaaDoor
open Go.RowKit
set_option maxRecDepth 100000

/-- where the reader is behind k numbers, and its error -/
def runN (b : List UInt8) : Nat → Nat × Nat
  | 0 => (0, 0)
  | k + 1 => (Plain.stepN b (runN b k).1 (runN b k).2).2
def valN (b : List UInt8) (k : Nat) : Nat := (Plain.stepN b (runN b k).1 (runN b k).2).1
/-- and behind k texts, which stand behind five numbers -/
def runT (b : List UInt8) : Nat → Nat × Nat
  | 0 => runN b 5
  | k + 1 => (Plain.stepT b (runT b k).1 (runT b k).2).2
def valT (b : List UInt8) (k : Nat) : List UInt8 := (Plain.stepT b (runT b k).1 (runT b k).2).1
theorem runN_le (b : List UInt8) (k : Nat) : (runN b k).1 ≤ b.length := by
  induction k with
  | zero => simp [runN]
  | succ k ih => exact (Plain.stepN_le b _ _ ih).1
theorem runT_le (b : List UInt8) (k : Nat) : (runT b k).1 ≤ b.length := by
  induction k with
  | zero => exact runN_le b 5
  | succ k ih => exact (Plain.stepT_le b _ _ ih).1
theorem valN_le (b : List UInt8) (k : Nat) : valN b k ≤ 281474976710656 := (Plain.stepN_le b _ _ (runN_le b k)).2
theorem valT_le (b : List UInt8) (k : Nat) : (valT b k).length ≤ 32 := (Plain.stepT_le b _ _ (runT_le b k)).2
theorem parts_is (b : List UInt8) : Plain.parts b = (⟨valN b 0, valN b 1, valN b 2, valN b 3, valN b 4, valT b 0, valT b 1⟩, runT b 2) := by
  simp only [Plain.parts, valN, valT, runN, runT]

/-- the span's cells behind k numbers -/
def spN (b : List UInt8) (k : Nat) : Array Value :=
  #[.int .i64 (if 0 < k then valN b 0 else 0 : Nat), .int .i64 (if 1 < k then valN b 1 else 0 : Nat), .int .i64 (if 2 < k then valN b 2 else 0 : Nat), .int .i64 (if 3 < k then valN b 3 else 0 : Nat), .int .i64 (if 4 < k then valN b 4 else 0 : Nat), .string ⟨#[]⟩, .string ⟨#[]⟩]
theorem spN_set (b : List UInt8) (k : Nat) (h : k < 5) : (spN b k).setIfInBounds k (.int .i64 (valN b k)) = spN b (k + 1) := by
  obtain rfl | rfl | rfl | rfl | rfl : k = 0 ∨ k = 1 ∨ k = 2 ∨ k = 3 ∨ k = 4 := by omega
  all_goals rfl
theorem spN_at (b : List UInt8) (k : Nat) (h : k < 5) : ∃ x : Int, (spN b k)[k]? = some (.int .i64 x) := by
  obtain rfl | rfl | rfl | rfl | rfl : k = 0 ∨ k = 1 ∨ k = 2 ∨ k = 3 ∨ k = 4 := by omega
  all_goals exact ⟨_, rfl⟩
/-- and behind k texts -/
def spT (b : List UInt8) (k : Nat) : Array Value :=
  #[.int .i64 (valN b 0 : Nat), .int .i64 (valN b 1 : Nat), .int .i64 (valN b 2 : Nat), .int .i64 (valN b 3 : Nat), .int .i64 (valN b 4 : Nat), .string (if 0 < k then str (valT b 0) else ⟨#[]⟩), .string (if 1 < k then str (valT b 1) else ⟨#[]⟩)]
theorem spN_spT (b : List UInt8) : spN b 5 = spT b 0 := rfl
theorem spT_set (b : List UInt8) (k : Nat) (h : k < 2) : (spT b k).setIfInBounds (5 + k) (.string (str (valT b k))) = spT b (k + 1) := by
  obtain rfl | rfl : k = 0 ∨ k = 1 := by omega
  all_goals rfl
theorem spT_at (b : List UInt8) (k : Nat) (h : k < 2) : ∃ x, (spT b k)[5 + k]? = some (.string x) := by
  obtain rfl | rfl : k = 0 ∨ k = 1 := by omega
  all_goals exact ⟨_, rfl⟩

theorem takeNumbers_any (w0 w : World) (g q pb : Nat) (A : Option Addr) (n cap : Nat) (bs : List UInt8) (hG : Stand w0 w g A n cap bs) (hgq : g ≠ q) (hq : w0.heap.size ≤ q) (hpg : pb ≠ g) (hpq : pb ≠ q) (hpl : pb < w.heap.size)
    (hp : ∀ k, k < 5 → w.cell? ⟨pb, k, none⟩ = some (.pointer (some ⟨q, k, none⟩))) (h : Rd w g A n cap 0 0 0) (hs : Blk w q (spN bs 0) 40) :
    Calls Tryd.prog 77 #[.pointer (some ⟨g, 0, none⟩), .slice (some ⟨pb, 0, none⟩) 5 5] w fun ev w' => ev = .returned (.tuple #[]) ∧ (∃ at_, Rd w' g A n cap (runN bs 5).1 at_ (runN bs 5).2) ∧ Blk w' q (spN bs 5) 40 ∧ Kept [g, q] w w' := by
  have HG := Lib.hid hG
  have HP := Lib.hid hp
  clear hp hG
  go_enter Tryd.func77, Tryd.ntmps77
  go_wp2
  go_loopw [8] (fun i wr => ∃ (k : Nat) (at_ : Int), i = .int .i64 k ∧ k ≤ 5 ∧ Rd wr g A n cap (runN bs k).1 at_ (runN bs k).2 ∧ Blk wr q (spN bs k) 40 ∧ Kept [g, q] w wr) (fun i _ => 5 - (intOf i).toNat)
  case atStart => exact ⟨0, 0, rfl, Nat.zero_le _, h, hs, Kept.refl _ _⟩
  case round =>
    obtain ⟨k, at_, rfl, hk, hr, hb, hkp⟩ := hrel
    have HR := Lib.hid hr
    have HB := Lib.hid hb
    have HK := Lib.hid hkp
    clear hr hb hkp
    by_cases hlt : k < 5
    · have hc : wr.cell? ⟨pb, k, none⟩ = some (.pointer (some ⟨q, k, none⟩)) := (World.cell?_of_block (HK.out.block pb hpl (by simp [hpg, hpq]))).trans (HP.out k hlt)
      have hst : Stand w0 wr g A n cap bs := HG.out.on (HK.out.below HG.out.kept (fun i hi => by
        simp at hi; rcases hi with rfl | rfl
        · exact HG.out.new
        · exact hq))
      have HN := Lib.hid (number_any w0 wr g A n cap _ at_ _ bs hst (by rw [← HG.out.len]; exact runN_le bs k) HR.out)
      have HR1 := Lib.hid (show Plain.stepN bs (runN bs k).1 (runN bs k).2 = (valN bs k, (runN bs (k + 1)).1, (runN bs (k + 1)).2) from rfl)
      rw [HR1.out] at HN
      simp only at HN
      have HSET := Lib.hid (spN_set bs k hlt)
      obtain ⟨x, hx⟩ := spN_at bs k hlt
      have hv := valN_le bs k
      generalize valN bs k = v at *
      have HX := Lib.hid hx
      clear hx hst
      go_wp2_with fail
      refine HN.out.mono ?_
      rintro e w2 ⟨rfl, ⟨at2, r2⟩, k2⟩
      have b2 : Blk w2 q (spN bs k) 40 := k2.blk HB.out (by simp; exact fun h => hgq h.symm)
      have c2 : w2.cell? ⟨q, k, none⟩ = some (.int .i64 x) := (b2.cell k).trans HX.out
      have f2 := b2.frozen k
      have b3 := b2.set k (.int .i64 (v : Int))
      rw [HSET.out] at b3
      have r3 : Rd (w2.setCell ⟨q, k, none⟩ (.int .i64 (v : Int))) g A n cap (runN bs (k + 1)).1 at2 (runN bs (k + 1)).2 := ((Kept.refl [q] w2).setCell (p := ⟨q, k, none⟩) (by simp) _).blk r2 (by simp; exact hgq)
      have k3 : Kept [g, q] w (w2.setCell ⟨q, k, none⟩ (.int .i64 (v : Int))) := (HK.out.trans (k2.mono (by simp))).setCell (by simp) _
      have B3 := Lib.hid b3
      have R3 := Lib.hid r3
      have K3 := Lib.hid k3
      clear b2 b3 r2 r3 k2 k3
      go_wp2
      go_roundw
      case rel => exact ⟨k + 1, at2, by go_num, by omega, R3.out, B3.out, K3.out⟩
      case measure => simp [intOf]; omega
    · obtain rfl : k = 5 := by omega
      go_wp2
      go_returns
      exact ⟨rfl, ⟨at_, HR.out⟩, HB.out, HK.out⟩

theorem takeTexts_any (w0 w : World) (g q pb : Nat) (A : Option Addr) (n cap : Nat) (at0 : Int) (bs : List UInt8) (hG : Stand w0 w g A n cap bs) (hgq : g ≠ q) (hq : w0.heap.size ≤ q) (hpg : pb ≠ g) (hpq : pb ≠ q) (hpl : pb < w.heap.size)
    (hp : ∀ k, k < 2 → w.cell? ⟨pb, k, none⟩ = some (.pointer (some ⟨q, 5 + k, none⟩))) (h : Rd w g A n cap (runN bs 5).1 at0 (runN bs 5).2) (hs : Blk w q (spN bs 5) 40) :
    Calls Tryd.prog 78 #[.pointer (some ⟨g, 0, none⟩), .slice (some ⟨pb, 0, none⟩) 2 2] w fun ev w' => ev = .returned (.tuple #[]) ∧ (∃ at_, Rd w' g A n cap (runT bs 2).1 at_ (runT bs 2).2) ∧ Blk w' q (spT bs 2) 40 ∧ Kept [g, q] w w' := by
  have HG := Lib.hid hG
  have HP := Lib.hid hp
  clear hp hG
  go_enter Tryd.func78, Tryd.ntmps78
  go_wp2
  go_loopw [8] (fun i wr => ∃ (k : Nat) (at_ : Int), i = .int .i64 k ∧ k ≤ 2 ∧ Rd wr g A n cap (runT bs k).1 at_ (runT bs k).2 ∧ Blk wr q (spT bs k) 40 ∧ Kept [g, q] w wr) (fun i _ => 2 - (intOf i).toNat)
  case atStart => exact ⟨0, at0, rfl, Nat.zero_le _, h, hs, Kept.refl _ _⟩
  case round =>
    obtain ⟨k, at_, rfl, hk, hr, hb, hkp⟩ := hrel
    have HR := Lib.hid hr
    have HB := Lib.hid hb
    have HK := Lib.hid hkp
    clear hr hb hkp
    by_cases hlt : k < 2
    · have hc : wr.cell? ⟨pb, k, none⟩ = some (.pointer (some ⟨q, 5 + k, none⟩)) := (World.cell?_of_block (HK.out.block pb hpl (by simp [hpg, hpq]))).trans (HP.out k hlt)
      have hst : Stand w0 wr g A n cap bs := HG.out.on (HK.out.below HG.out.kept (fun i hi => by
        simp at hi; rcases hi with rfl | rfl
        · exact HG.out.new
        · exact hq))
      have HN := Lib.hid (text_any w0 wr g A n cap _ at_ _ bs hst (by rw [← HG.out.len]; exact runT_le bs k) HR.out)
      have HR1 := Lib.hid (show Plain.stepT bs (runT bs k).1 (runT bs k).2 = (valT bs k, (runT bs (k + 1)).1, (runT bs (k + 1)).2) from rfl)
      rw [HR1.out] at HN
      simp only at HN
      have HSET := Lib.hid (spT_set bs k hlt)
      obtain ⟨x, hx⟩ := spT_at bs k hlt
      generalize str (valT bs k) = v at *
      have HX := Lib.hid hx
      clear hx hst
      go_wp2_with fail
      refine HN.out.mono ?_
      rintro e w2 ⟨rfl, ⟨at2, r2⟩, k2⟩
      have b2 : Blk w2 q (spT bs k) 40 := k2.blk HB.out (by simp; exact fun h => hgq h.symm)
      have c2 : w2.cell? ⟨q, 5 + k, none⟩ = some (.string x) := (b2.cell (5 + k)).trans HX.out
      have f2 := b2.frozen (5 + k)
      have b3 := b2.set (5 + k) (.string v)
      rw [HSET.out] at b3
      have r3 : Rd (w2.setCell ⟨q, 5 + k, none⟩ (.string v)) g A n cap (runT bs (k + 1)).1 at2 (runT bs (k + 1)).2 := ((Kept.refl [q] w2).setCell (p := ⟨q, 5 + k, none⟩) (by simp) _).blk r2 (by simp; exact hgq)
      have k3 : Kept [g, q] w (w2.setCell ⟨q, 5 + k, none⟩ (.string v)) := (HK.out.trans (k2.mono (by simp))).setCell (by simp) _
      have B3 := Lib.hid b3
      have R3 := Lib.hid r3
      have K3 := Lib.hid k3
      clear b2 b3 r2 r3 k2 k3
      go_wp2
      go_roundw
      case rel => exact ⟨k + 1, at2, by go_num, by omega, R3.out, B3.out, K3.out⟩
      case measure => simp [intOf]; omega
    · obtain rfl : k = 2 := by omega
      go_wp2
      go_returns
      exact ⟨rfl, ⟨at_, HR.out⟩, HB.out, HK.out⟩
end Go.Proofs.YtdfeccmcefcpbaaDoor
