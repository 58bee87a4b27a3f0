/-
  Layer 14: how entries are compared (entry.byTick, byPlace), what fits (isAny, In's): what these answer, of entries in blocks of their own, and that memory only grows by it; the library's sorting of pointers to them. Nothing is assumed but that there are at most a million.
-/
import Derived.Test.YtepfbpljkhchbaaEnD
import Derived.BigQuiet

namespace Go.Proofs.Ytepfbpljkhchbaa
open Go.RowKit Go.Maps En
set_option maxRecDepth 100000

def orN2 (a b : Int) : Int := if a = 0 then b else a
def cmpT (y z : E) : Int := orN2 (Plain.cmpN y.tick z.tick) (Plain.cmpN y.id z.id)
def cmpQ (y z : E) : Int := orN2 (Plain.cmpN y.pl z.pl) (Plain.cmpN y.id z.id)
theorem ltOf_cmpT (y z : E) : ltOf cmpT y z = En.lt y z := by
  rw [Bool.eq_iff_iff, lt_iff]
  unfold ltOf cmpT orN2 Plain.cmpN
  rw [decide_eq_true_eq]
  repeat' split
  all_goals omega
theorem ltOf_cmpQ (y z : E) : ltOf cmpQ y z = En.ltP y z := by
  rw [Bool.eq_iff_iff, ltP_iff]
  unfold ltOf cmpQ orN2 Plain.cmpN
  rw [decide_eq_true_eq]
  repeat' split
  all_goals omega

set_option maxHeartbeats 1000000 in
theorem or2_any (g : Nat) (a b : Int) (w : World) (h0 : w.cell? ⟨g, 0, none⟩ = some (.int .i64 a)) (h1 : w.cell? ⟨g, 1, none⟩ = some (.int .i64 b)) :
    Calls Try.prog 61 #[.slice (some ⟨g, 0, none⟩) 2 2] w fun e w' => e = .returned (.int .i64 (orN2 a b)) ∧ w = w' := by
  unfold orN2
  by_cases ha : a = 0
  · subst ha
    rw [if_pos rfl]
    by_cases hb : b = 0
    · subst hb
      go_enter Try.func61, Try.ntmps61
      go_wp2
      refine wp_loop_rounds 3 ?_
      rw [rounds_succ]
      go_wp2
      rw [rounds_succ]
      go_wp2
      rw [rounds_succ]
      go_wp2
      go_ret
      exact ⟨rfl, rfl⟩
    · go_enter Try.func61, Try.ntmps61
      go_wp2
      refine wp_loop_rounds 3 ?_
      rw [rounds_succ]
      go_wp2
      rw [rounds_succ]
      go_wp2
      go_ret
      exact ⟨rfl, rfl⟩
  · rw [if_neg ha]
    go_enter Try.func61, Try.ntmps61
    go_wp2
    refine wp_loop_rounds 3 ?_
    rw [rounds_succ]
    go_wp2
    go_ret
    exact ⟨rfl, rfl⟩

/-- two numbers in a block of their own -/
def Fact.two14 (a b : Int) : Fact := ⟨fun v w => ∃ g, v = .slice (some ⟨g, 0, none⟩) 2 2 ∧ Blk w g #[.int .i64 a, .int .i64 b] 3, fun _ _ _ ⟨g, e, h⟩ hb => ⟨g, e, (hb.block g h.lt).trans h⟩⟩
theorem g_two14 {w : World} {ρ : Operand → Value} {o : Oper} {x y : Operand} {a b : Int} (hx : ρ x = .int .i64 a) (hy : ρ y = .int .i64 b) (ho : o.op = .buildSlice 92 2 #[(0, x), (1, y)]) : gUpon Try.prog w (Fact.two14 a b) ((execOp ρ o).run Try.prog w) := by
  have e : (execOp ρ o).run Try.prog w = .ok (.value (.slice (some ⟨w.heap.size, 0, none⟩) 2 2)) (w.alloc (.cells #[.int .i64 a, .int .i64 b] 3)) := by
    simp only [execOp, ho]
    go_simp
  rw [e]
  exact ⟨⟨_, rfl, Blk.new _ _ _⟩, (Below.refl _ _).alloc (Nat.le_refl _) _, Nat.le_refl _⟩
theorem g_or14 {w : World} {ρ : Operand → Value} {o : Oper} {x : Operand} {ats : Array TypeId} {a b C : Int}
    (hf : ∀ f, ρ (.func f) = .func (.func f) #[] #[]) (hx : (Fact.two14 a b).φ (ρ x) w) (hC : orN2 a b = C) (ho : o.op = .call { callee := .value (.func 61), args := #[x], argTypes := ats }) : gUpon Try.prog w (Fact.is (.int .i64 C)) ((execOp ρ o).run Try.prog w) := by
  obtain ⟨g, hx, hb⟩ := hx
  have e : (execOp ρ o).run Try.prog w = .ok (.enter 61 #[.slice (some ⟨g, 0, none⟩) 2 2]) w := by
    simp [execOp, ho, resolve, invoke, hf, hx, Deferred.ofValue, go_sem, enters (P := Try.prog) (f := 61) (by kernel_rfl)]
  rw [e]
  refine ⟨rfl, (or2_any g a b w (hb.cell 0) (hb.cell 1)).mono fun _ _ ⟨he, hw⟩ => ⟨_, he, ?_, hw ▸ Grows.refl _⟩⟩
  show _ = _
  rw [hC]

set_option maxHeartbeats 4000000 in
theorem byTick14_any (g h : Nat) (y z : E) (sy sz : Value) (w : World) (hX : BoxE w g y sy) (hY : BoxE w h z sz) :
    Calls Try.prog 55 #[.pointer (some ⟨g, 0, none⟩), .pointer (some ⟨h, 0, none⟩)] w fun e w' => e = .returned (.int .i64 (cmpT y z)) ∧ Grows w w' := by
  obtain ⟨C, hC⟩ : ∃ C, cmpT y z = C := ⟨_, rfl⟩
  rw [hC]
  unfold cmpT at hC
  have hdrew : ∀ W, Grows w.drew W → Grows w W := fun W h => ⟨⟨h.1.os, h.1.tape, h.1.output, h.1.size, h.1.block⟩, Nat.le_trans (Nat.le_succ _) h.2⟩
  have HX := Lib.hid (fun (W : World) (h : Grows w.drew W) => BoxE.all (BoxE.below hX (hdrew W h).1))
  have HY := Lib.hid (fun (W : World) (h : Grows w.drew W) => BoxE.all (BoxE.below hY (hdrew W h).1))
  have HD := Lib.hid hdrew
  clear hX hY hdrew
  obtain ⟨yid, ycl, yti, yco, ypi, ybi, ylo, yhi, yma, ysv, yse, ypl, ysz⟩ := y
  obtain ⟨zid, zcl, zti, zco, zpi, zbi, zlo, zhi, zma, zsv, zse, zpl, zsz⟩ := z
  simp only at *
  have H1 := Lib.hid (fun (W : World) => compareL_any yti zti W)
  have H2 := Lib.hid (fun (W : World) => compareL_any yid zid W)
  generalize Plain.cmpN yti zti = c1 at *
  generalize Plain.cmpN yid zid = c2 at *
  have HO := Lib.hid hC
  clear hC
  go_enter Try.func55, Try.ntmps55
  go_wp2
  refine wp_g (by kernel_rfl) 29 [(5, [0]), (6, [5]), (7, [6]), (8, [7]), (9, [8]), (10, [1]), (11, [10]), (12, [11]), (13, [12]), (14, [13]), (15, [9, 14]), (16, [0]), (17, [16]), (18, [17]), (19, [18]), (20, [19]), (21, [1]), (22, [21]), (23, [22]), (24, [23]), (25, [24]), (26, [20, 25]), (27, [15, 26]), (28, [27]), (4, [28])]
    [Fact.is (.pointer (some ⟨g, 0, none⟩)), Fact.is (.pointer (some ⟨g, 0, none⟩)), Fact.is (.pointer (some ⟨g, 0, none⟩)), Fact.is (.pointer (some ⟨g, 2, none⟩)), Fact.is (.int .i64 yti), Fact.is (.pointer (some ⟨h, 0, none⟩)), Fact.is (.pointer (some ⟨h, 0, none⟩)), Fact.is (.pointer (some ⟨h, 0, none⟩)), Fact.is (.pointer (some ⟨h, 2, none⟩)), Fact.is (.int .i64 zti), Fact.is (.int .i64 c1), Fact.is (.pointer (some ⟨g, 0, none⟩)), Fact.is (.pointer (some ⟨g, 0, none⟩)), Fact.is (.pointer (some ⟨g, 0, none⟩)), Fact.is (.pointer (some ⟨g, 0, none⟩)), Fact.is (.int .i64 yid), Fact.is (.pointer (some ⟨h, 0, none⟩)), Fact.is (.pointer (some ⟨h, 0, none⟩)), Fact.is (.pointer (some ⟨h, 0, none⟩)), Fact.is (.pointer (some ⟨h, 0, none⟩)), Fact.is (.int .i64 zid), Fact.is (.int .i64 c2), Fact.two14 c1 c2, Fact.is (.int .i64 C), Fact.is (.int .i64 C)]
    (by kernel_rfl) rfl rfl ⟨?s0, ?s1, ?s2, ?s3, ?s4, ?s5, ?s6, ?s7, ?s8, ?s9, ?s10, ?s11, ?s12, ?s13, ?s14, ?s15, ?s16, ?s17, ?s18, ?s19, ?s20, ?s21, ?s22, ?s23, ?s24, trivial⟩ ?fin
  case s0 =>
    intro ρ W hb hc hf hr
    obtain ⟨r0, -⟩ := hr
    have e0 : ρ (.tmp 0) = .pointer (some ⟨g, 0, none⟩) := r0
    clear r0
    refine under_none rfl ?_
    exact ⟨e0, Grows.refl _⟩
  case s1 =>
    intro ρ W hb hc hf hr
    obtain ⟨r5, -⟩ := hr
    have e5 : ρ (.tmp 5) = .pointer (some ⟨g, 0, none⟩) := r5
    clear r5
    refine under_none rfl ?_
    simp [execOp, e5, go_sem, gUpon, Fact.is, Grows.refl]
  case s2 =>
    intro ρ W hb hc hf hr
    obtain ⟨r6, -⟩ := hr
    have e6 : ρ (.tmp 6) = .pointer (some ⟨g, 0, none⟩) := r6
    clear r6
    refine under_none rfl ?_
    exact g_field e6 rfl (fun W => by go_simp)
  case s3 =>
    intro ρ W hb hc hf hr
    obtain ⟨r7, -⟩ := hr
    have e7 : ρ (.tmp 7) = .pointer (some ⟨g, 0, none⟩) := r7
    clear r7
    refine under_none rfl ?_
    exact g_field e7 rfl (fun W => by go_simp)
  case s4 =>
    intro ρ W hb hc hf hr
    obtain ⟨r8, -⟩ := hr
    have e8 : ρ (.tmp 8) = .pointer (some ⟨g, 2, none⟩) := r8
    clear r8
    refine under_none rfl ?_
    exact g_load e8 (by have := (HX.out W hb).2.2.1; go_simp) rfl
  case s5 =>
    intro ρ W hb hc hf hr
    obtain ⟨r1, -⟩ := hr
    have e1 : ρ (.tmp 1) = .pointer (some ⟨h, 0, none⟩) := r1
    clear r1
    refine under_none rfl ?_
    exact ⟨e1, Grows.refl _⟩
  case s6 =>
    intro ρ W hb hc hf hr
    obtain ⟨r10, -⟩ := hr
    have e10 : ρ (.tmp 10) = .pointer (some ⟨h, 0, none⟩) := r10
    clear r10
    refine under_none rfl ?_
    simp [execOp, e10, go_sem, gUpon, Fact.is, Grows.refl]
  case s7 =>
    intro ρ W hb hc hf hr
    obtain ⟨r11, -⟩ := hr
    have e11 : ρ (.tmp 11) = .pointer (some ⟨h, 0, none⟩) := r11
    clear r11
    refine under_none rfl ?_
    exact g_field e11 rfl (fun W => by go_simp)
  case s8 =>
    intro ρ W hb hc hf hr
    obtain ⟨r12, -⟩ := hr
    have e12 : ρ (.tmp 12) = .pointer (some ⟨h, 0, none⟩) := r12
    clear r12
    refine under_none rfl ?_
    exact g_field e12 rfl (fun W => by go_simp)
  case s9 =>
    intro ρ W hb hc hf hr
    obtain ⟨r13, -⟩ := hr
    have e13 : ρ (.tmp 13) = .pointer (some ⟨h, 2, none⟩) := r13
    clear r13
    refine under_none rfl ?_
    exact g_load e13 (by have := (HY.out W hb).2.2.1; go_simp) rfl
  case s10 =>
    intro ρ W hb hc hf hr
    obtain ⟨r9, r14, -⟩ := hr
    have e9 : ρ (.tmp 9) = .int .i64 yti := r9
    clear r9
    have e14 : ρ (.tmp 14) = .int .i64 zti := r14
    clear r14
    refine under_none rfl ?_
    exact g_call2 hf e9 e14 (H1.out W) rfl (by kernel_rfl)
  case s11 =>
    intro ρ W hb hc hf hr
    obtain ⟨r0, -⟩ := hr
    have e0 : ρ (.tmp 0) = .pointer (some ⟨g, 0, none⟩) := r0
    clear r0
    refine under_none rfl ?_
    exact ⟨e0, Grows.refl _⟩
  case s12 =>
    intro ρ W hb hc hf hr
    obtain ⟨r16, -⟩ := hr
    have e16 : ρ (.tmp 16) = .pointer (some ⟨g, 0, none⟩) := r16
    clear r16
    refine under_none rfl ?_
    simp [execOp, e16, go_sem, gUpon, Fact.is, Grows.refl]
  case s13 =>
    intro ρ W hb hc hf hr
    obtain ⟨r17, -⟩ := hr
    have e17 : ρ (.tmp 17) = .pointer (some ⟨g, 0, none⟩) := r17
    clear r17
    refine under_none rfl ?_
    exact g_field e17 rfl (fun W => by go_simp)
  case s14 =>
    intro ρ W hb hc hf hr
    obtain ⟨r18, -⟩ := hr
    have e18 : ρ (.tmp 18) = .pointer (some ⟨g, 0, none⟩) := r18
    clear r18
    refine under_none rfl ?_
    exact g_field e18 rfl (fun W => by go_simp)
  case s15 =>
    intro ρ W hb hc hf hr
    obtain ⟨r19, -⟩ := hr
    have e19 : ρ (.tmp 19) = .pointer (some ⟨g, 0, none⟩) := r19
    clear r19
    refine under_none rfl ?_
    exact g_load e19 (by have := (HX.out W hb).1; go_simp) rfl
  case s16 =>
    intro ρ W hb hc hf hr
    obtain ⟨r1, -⟩ := hr
    have e1 : ρ (.tmp 1) = .pointer (some ⟨h, 0, none⟩) := r1
    clear r1
    refine under_none rfl ?_
    exact ⟨e1, Grows.refl _⟩
  case s17 =>
    intro ρ W hb hc hf hr
    obtain ⟨r21, -⟩ := hr
    have e21 : ρ (.tmp 21) = .pointer (some ⟨h, 0, none⟩) := r21
    clear r21
    refine under_none rfl ?_
    simp [execOp, e21, go_sem, gUpon, Fact.is, Grows.refl]
  case s18 =>
    intro ρ W hb hc hf hr
    obtain ⟨r22, -⟩ := hr
    have e22 : ρ (.tmp 22) = .pointer (some ⟨h, 0, none⟩) := r22
    clear r22
    refine under_none rfl ?_
    exact g_field e22 rfl (fun W => by go_simp)
  case s19 =>
    intro ρ W hb hc hf hr
    obtain ⟨r23, -⟩ := hr
    have e23 : ρ (.tmp 23) = .pointer (some ⟨h, 0, none⟩) := r23
    clear r23
    refine under_none rfl ?_
    exact g_field e23 rfl (fun W => by go_simp)
  case s20 =>
    intro ρ W hb hc hf hr
    obtain ⟨r24, -⟩ := hr
    have e24 : ρ (.tmp 24) = .pointer (some ⟨h, 0, none⟩) := r24
    clear r24
    refine under_none rfl ?_
    exact g_load e24 (by have := (HY.out W hb).1; go_simp) rfl
  case s21 =>
    intro ρ W hb hc hf hr
    obtain ⟨r20, r25, -⟩ := hr
    have e20 : ρ (.tmp 20) = .int .i64 yid := r20
    clear r20
    have e25 : ρ (.tmp 25) = .int .i64 zid := r25
    clear r25
    refine under_none rfl ?_
    exact g_call2 hf e20 e25 (H2.out W) rfl (by kernel_rfl)
  case s22 =>
    intro ρ W hb hc hf hr
    obtain ⟨r15, r26, -⟩ := hr
    have e15 : ρ (.tmp 15) = .int .i64 c1 := r15
    clear r15
    have e26 : ρ (.tmp 26) = .int .i64 c2 := r26
    clear r26
    refine under_none rfl ?_
    exact g_two14 e15 e26 rfl
  case s23 =>
    intro ρ W hb hc hf hr
    obtain ⟨r27, -⟩ := hr
    refine under_none rfl ?_
    exact g_or14 hf r27 HO.out rfl
  case s24 =>
    intro ρ W hb hc hf hr
    obtain ⟨r28, -⟩ := hr
    have e28 : ρ (.tmp 28) = .int .i64 C := r28
    clear r28
    refine under_none rfl ?_
    exact ⟨e28, Grows.refl _⟩
  case fin =>
    intro a w1 hb hd hsz hk
    have k4 : a.tmps.getD 4 undef = .int .i64 C := hk 4
    go_wp2
    refine bodyPost_ret (results_tmp rfl _ _ _) hd ?_
    exact ⟨congrArg Ending.returned k4, HD.out _ hb⟩

set_option maxHeartbeats 4000000 in
theorem byPlace14_any (g h : Nat) (y z : E) (sy sz : Value) (w : World) (hX : BoxE w g y sy) (hY : BoxE w h z sz) :
    Calls Try.prog 50 #[.pointer (some ⟨g, 0, none⟩), .pointer (some ⟨h, 0, none⟩)] w fun e w' => e = .returned (.int .i64 (cmpQ y z)) ∧ Grows w w' := by
  obtain ⟨C, hC⟩ : ∃ C, cmpQ y z = C := ⟨_, rfl⟩
  rw [hC]
  unfold cmpQ at hC
  have hdrew : ∀ W, Grows w.drew W → Grows w W := fun W h => ⟨⟨h.1.os, h.1.tape, h.1.output, h.1.size, h.1.block⟩, Nat.le_trans (Nat.le_succ _) h.2⟩
  have HX := Lib.hid (fun (W : World) (h : Grows w.drew W) => BoxE.all (BoxE.below hX (hdrew W h).1))
  have HY := Lib.hid (fun (W : World) (h : Grows w.drew W) => BoxE.all (BoxE.below hY (hdrew W h).1))
  have HD := Lib.hid hdrew
  clear hX hY hdrew
  obtain ⟨yid, ycl, yti, yco, ypi, ybi, ylo, yhi, yma, ysv, yse, ypl, ysz⟩ := y
  obtain ⟨zid, zcl, zti, zco, zpi, zbi, zlo, zhi, zma, zsv, zse, zpl, zsz⟩ := z
  simp only at *
  have H1 := Lib.hid (fun (W : World) => compareI_any ypl zpl W)
  have H2 := Lib.hid (fun (W : World) => compareL_any yid zid W)
  generalize Plain.cmpN ypl zpl = c1 at *
  generalize Plain.cmpN yid zid = c2 at *
  have HO := Lib.hid hC
  clear hC
  go_enter Try.func50, Try.ntmps50
  go_wp2
  refine wp_g (by kernel_rfl) 27 [(5, [0]), (6, [5]), (7, [6]), (8, [7]), (9, [1]), (10, [9]), (11, [10]), (12, [11]), (13, [8, 12]), (14, [0]), (15, [14]), (16, [15]), (17, [16]), (18, [17]), (19, [1]), (20, [19]), (21, [20]), (22, [21]), (23, [22]), (24, [18, 23]), (25, [13, 24]), (26, [25]), (4, [26])]
    [Fact.is (.pointer (some ⟨g, 0, none⟩)), Fact.is (.pointer (some ⟨g, 0, none⟩)), Fact.is (.pointer (some ⟨g, 11, none⟩)), Fact.is (.int .i64 ypl), Fact.is (.pointer (some ⟨h, 0, none⟩)), Fact.is (.pointer (some ⟨h, 0, none⟩)), Fact.is (.pointer (some ⟨h, 11, none⟩)), Fact.is (.int .i64 zpl), Fact.is (.int .i64 c1), Fact.is (.pointer (some ⟨g, 0, none⟩)), Fact.is (.pointer (some ⟨g, 0, none⟩)), Fact.is (.pointer (some ⟨g, 0, none⟩)), Fact.is (.pointer (some ⟨g, 0, none⟩)), Fact.is (.int .i64 yid), Fact.is (.pointer (some ⟨h, 0, none⟩)), Fact.is (.pointer (some ⟨h, 0, none⟩)), Fact.is (.pointer (some ⟨h, 0, none⟩)), Fact.is (.pointer (some ⟨h, 0, none⟩)), Fact.is (.int .i64 zid), Fact.is (.int .i64 c2), Fact.two14 c1 c2, Fact.is (.int .i64 C), Fact.is (.int .i64 C)]
    (by kernel_rfl) rfl rfl ⟨?s0, ?s1, ?s2, ?s3, ?s4, ?s5, ?s6, ?s7, ?s8, ?s9, ?s10, ?s11, ?s12, ?s13, ?s14, ?s15, ?s16, ?s17, ?s18, ?s19, ?s20, ?s21, ?s22, trivial⟩ ?fin
  case s0 =>
    intro ρ W hb hc hf hr
    obtain ⟨r0, -⟩ := hr
    have e0 : ρ (.tmp 0) = .pointer (some ⟨g, 0, none⟩) := r0
    clear r0
    refine under_none rfl ?_
    exact ⟨e0, Grows.refl _⟩
  case s1 =>
    intro ρ W hb hc hf hr
    obtain ⟨r5, -⟩ := hr
    have e5 : ρ (.tmp 5) = .pointer (some ⟨g, 0, none⟩) := r5
    clear r5
    refine under_none rfl ?_
    simp [execOp, e5, go_sem, gUpon, Fact.is, Grows.refl]
  case s2 =>
    intro ρ W hb hc hf hr
    obtain ⟨r6, -⟩ := hr
    have e6 : ρ (.tmp 6) = .pointer (some ⟨g, 0, none⟩) := r6
    clear r6
    refine under_none rfl ?_
    exact g_field e6 rfl (fun W => by go_simp)
  case s3 =>
    intro ρ W hb hc hf hr
    obtain ⟨r7, -⟩ := hr
    have e7 : ρ (.tmp 7) = .pointer (some ⟨g, 11, none⟩) := r7
    clear r7
    refine under_none rfl ?_
    exact g_load e7 (by have := (HX.out W hb).2.2.2.2.2.2.2.2.2.2.2.1; go_simp) rfl
  case s4 =>
    intro ρ W hb hc hf hr
    obtain ⟨r1, -⟩ := hr
    have e1 : ρ (.tmp 1) = .pointer (some ⟨h, 0, none⟩) := r1
    clear r1
    refine under_none rfl ?_
    exact ⟨e1, Grows.refl _⟩
  case s5 =>
    intro ρ W hb hc hf hr
    obtain ⟨r9, -⟩ := hr
    have e9 : ρ (.tmp 9) = .pointer (some ⟨h, 0, none⟩) := r9
    clear r9
    refine under_none rfl ?_
    simp [execOp, e9, go_sem, gUpon, Fact.is, Grows.refl]
  case s6 =>
    intro ρ W hb hc hf hr
    obtain ⟨r10, -⟩ := hr
    have e10 : ρ (.tmp 10) = .pointer (some ⟨h, 0, none⟩) := r10
    clear r10
    refine under_none rfl ?_
    exact g_field e10 rfl (fun W => by go_simp)
  case s7 =>
    intro ρ W hb hc hf hr
    obtain ⟨r11, -⟩ := hr
    have e11 : ρ (.tmp 11) = .pointer (some ⟨h, 11, none⟩) := r11
    clear r11
    refine under_none rfl ?_
    exact g_load e11 (by have := (HY.out W hb).2.2.2.2.2.2.2.2.2.2.2.1; go_simp) rfl
  case s8 =>
    intro ρ W hb hc hf hr
    obtain ⟨r8, r12, -⟩ := hr
    have e8 : ρ (.tmp 8) = .int .i64 ypl := r8
    clear r8
    have e12 : ρ (.tmp 12) = .int .i64 zpl := r12
    clear r12
    refine under_none rfl ?_
    exact g_call2 hf e8 e12 (H1.out W) rfl (by kernel_rfl)
  case s9 =>
    intro ρ W hb hc hf hr
    obtain ⟨r0, -⟩ := hr
    have e0 : ρ (.tmp 0) = .pointer (some ⟨g, 0, none⟩) := r0
    clear r0
    refine under_none rfl ?_
    exact ⟨e0, Grows.refl _⟩
  case s10 =>
    intro ρ W hb hc hf hr
    obtain ⟨r14, -⟩ := hr
    have e14 : ρ (.tmp 14) = .pointer (some ⟨g, 0, none⟩) := r14
    clear r14
    refine under_none rfl ?_
    simp [execOp, e14, go_sem, gUpon, Fact.is, Grows.refl]
  case s11 =>
    intro ρ W hb hc hf hr
    obtain ⟨r15, -⟩ := hr
    have e15 : ρ (.tmp 15) = .pointer (some ⟨g, 0, none⟩) := r15
    clear r15
    refine under_none rfl ?_
    exact g_field e15 rfl (fun W => by go_simp)
  case s12 =>
    intro ρ W hb hc hf hr
    obtain ⟨r16, -⟩ := hr
    have e16 : ρ (.tmp 16) = .pointer (some ⟨g, 0, none⟩) := r16
    clear r16
    refine under_none rfl ?_
    exact g_field e16 rfl (fun W => by go_simp)
  case s13 =>
    intro ρ W hb hc hf hr
    obtain ⟨r17, -⟩ := hr
    have e17 : ρ (.tmp 17) = .pointer (some ⟨g, 0, none⟩) := r17
    clear r17
    refine under_none rfl ?_
    exact g_load e17 (by have := (HX.out W hb).1; go_simp) rfl
  case s14 =>
    intro ρ W hb hc hf hr
    obtain ⟨r1, -⟩ := hr
    have e1 : ρ (.tmp 1) = .pointer (some ⟨h, 0, none⟩) := r1
    clear r1
    refine under_none rfl ?_
    exact ⟨e1, Grows.refl _⟩
  case s15 =>
    intro ρ W hb hc hf hr
    obtain ⟨r19, -⟩ := hr
    have e19 : ρ (.tmp 19) = .pointer (some ⟨h, 0, none⟩) := r19
    clear r19
    refine under_none rfl ?_
    simp [execOp, e19, go_sem, gUpon, Fact.is, Grows.refl]
  case s16 =>
    intro ρ W hb hc hf hr
    obtain ⟨r20, -⟩ := hr
    have e20 : ρ (.tmp 20) = .pointer (some ⟨h, 0, none⟩) := r20
    clear r20
    refine under_none rfl ?_
    exact g_field e20 rfl (fun W => by go_simp)
  case s17 =>
    intro ρ W hb hc hf hr
    obtain ⟨r21, -⟩ := hr
    have e21 : ρ (.tmp 21) = .pointer (some ⟨h, 0, none⟩) := r21
    clear r21
    refine under_none rfl ?_
    exact g_field e21 rfl (fun W => by go_simp)
  case s18 =>
    intro ρ W hb hc hf hr
    obtain ⟨r22, -⟩ := hr
    have e22 : ρ (.tmp 22) = .pointer (some ⟨h, 0, none⟩) := r22
    clear r22
    refine under_none rfl ?_
    exact g_load e22 (by have := (HY.out W hb).1; go_simp) rfl
  case s19 =>
    intro ρ W hb hc hf hr
    obtain ⟨r18, r23, -⟩ := hr
    have e18 : ρ (.tmp 18) = .int .i64 yid := r18
    clear r18
    have e23 : ρ (.tmp 23) = .int .i64 zid := r23
    clear r23
    refine under_none rfl ?_
    exact g_call2 hf e18 e23 (H2.out W) rfl (by kernel_rfl)
  case s20 =>
    intro ρ W hb hc hf hr
    obtain ⟨r13, r24, -⟩ := hr
    have e13 : ρ (.tmp 13) = .int .i64 c1 := r13
    clear r13
    have e24 : ρ (.tmp 24) = .int .i64 c2 := r24
    clear r24
    refine under_none rfl ?_
    exact g_two14 e13 e24 rfl
  case s21 =>
    intro ρ W hb hc hf hr
    obtain ⟨r25, -⟩ := hr
    refine under_none rfl ?_
    exact g_or14 hf r25 HO.out rfl
  case s22 =>
    intro ρ W hb hc hf hr
    obtain ⟨r26, -⟩ := hr
    have e26 : ρ (.tmp 26) = .int .i64 C := r26
    clear r26
    refine under_none rfl ?_
    exact ⟨e26, Grows.refl _⟩
  case fin =>
    intro a w1 hb hd hsz hk
    have k4 : a.tmps.getD 4 undef = .int .i64 C := hk 4
    go_wp2
    refine bodyPost_ret (results_tmp rfl _ _ _) hd ?_
    exact ⟨congrArg Ending.returned k4, HD.out _ hb⟩

theorem isAny14 (v : Value) (w : World) : Calls Try.prog 54 #[v] w fun e w' => e = .returned (.bool true) ∧ w' = w := by
  go_enter Try.func54, Try.ntmps54
  go_wp2
  go_ret
  exact ⟨rfl, rfl⟩
theorem inF14 (g k : Nat) (s : Int) (y : E) (sy : Value) (w : World) (hB : BoxE w g y sy) (hk : w.cell? ⟨k, 0, none⟩ = some (.int .i64 s)) :
    Calls Try.prog 47 #[.pointer (some ⟨g, 0, none⟩), .pointer (some ⟨k, 0, none⟩)] w fun e w' => e = .returned (.bool (y.seq == s)) ∧ Below w.heap.size w w' := by
  obtain ⟨-, -, -, -, -, -, -, -, -, -, c10, -⟩ := hB.all
  clear hB
  go_enter Try.func47, Try.ntmps47
  go_wp2
  go_quiet (fail)
  go_wp2
  go_ret
  exact ⟨rfl, below_many (Below.refl _ _) _⟩
end Go.Proofs.Ytepfbpljkhchbaa

