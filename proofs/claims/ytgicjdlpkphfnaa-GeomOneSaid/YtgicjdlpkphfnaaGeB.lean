/-
  Layer 17, the document's answer: Budget: what it answers, of any use. Nothing is assumed.
-/
import Derived.Test.YtgicjdlpkphfnaaGeS
import Derived.Lib.MinMax

namespace Go.Proofs.Ytgicjdlpkphfnaa
open Go.RowKit Go.Maps
set_option maxRecDepth 100000

theorem run_load17 (W : World) (a : Addr) (z : Int) (h : W.cell? a = some (.int .i64 z)) : (Instr.loadAt 3 (.pointer (some a))).run Try.prog W = .ok (.int .i64 z) W := by
  go_simp
theorem run_loadG17 {W : World} {gb : Nat} {g : Ge.G} (h : Blk W gb #[.int .i64 g.E, .int .i64 g.S, .int .i64 g.M] 23) : (Instr.loadAt 23 (.pointer (some ⟨gb, 0, none⟩))).run Try.prog W = .ok (.agg #[.int .i64 g.E, .int .i64 g.S, .int .i64 g.M]) W := by
  have c0 : W.cell? ⟨gb, 0, none⟩ = some (.int .i64 g.E) := h.cell 0
  have c1 : W.cell? ⟨gb, 1, none⟩ = some (.int .i64 g.S) := h.cell 1
  have c2 : W.cell? ⟨gb, 2, none⟩ = some (.int .i64 g.M) := h.cell 2
  clear h
  go_simp
theorem sub17 (W : World) (a b c : Int) (h : IntKind.i64.wrap (a - b) = c) : (binOp .sub 3 (.int .i64 a) (.int .i64 b)).run Try.prog W = .ok (.int .i64 c) W := by
  subst h
  go_simp
theorem mulr17 (W : World) (a b c : Int) (h : IntKind.i64.wrap (a * b) = c) : (binOp .mul 3 (.int .i64 a) (.int .i64 b)).run Try.prog W = .ok (.int .i64 c) W := by
  subst h
  go_simp
theorem max_run17 (x y z : Int) (W : World) (h : max x y = z) : (Builtin.max_ #[3, 3] 3 #[.int .i64 x, .int .i64 y]).run Try.prog W = .ok (.int .i64 z) W := by
  subst h
  by_cases h2 : x < y
  · have e : max x y = y := Int.max_eq_right (Int.le_of_lt h2)
    simp [Builtin.max_, Builtin.max2, go_sem, h2, e]
  · have e : max x y = x := Int.max_eq_left (Int.not_lt.1 h2)
    simp [Builtin.max_, Builtin.max2, go_sem, h2, e]
theorem soft_max17 {w : World} {ρ : Operand → Value} {o : Oper} {x y : Operand} {a b c : Int} (hx : ρ x = .int .i64 a) (hy : ρ y = .int .i64 b) (hab : max a b = c) (ho : o.op = .call { callee := .builtin .max, args := #[x, y], argTypes := #[3, 3] }) (hty : o.type = 3) :
    softUpon Try.prog w (Fact.is (.int .i64 c)) ((execOp ρ o).run Try.prog w) := by
  have hr : (execOp ρ o).run Try.prog w = .ok (.value (.int .i64 c)) w := by
    simp [execOp, ho, hty, resolve, invoke, builtin, hx, hy, max_run17 a b c w hab, Result.andThen]
  rw [hr]
  exact ⟨rfl, Below.refl _ _⟩
set_option maxHeartbeats 4000000 in
theorem rbudget17_any (g : Ge.G) (w : World) : Calls Try.prog 18 #[.agg #[.int .i64 g.E, .int .i64 g.S, .int .i64 g.M]] w fun e w' => e = .returned (.int .i64 (Ge.budget g)) ∧ Below w.heap.size w w' := by
  have hb := Blk.new w #[.int .i64 g.E, .int .i64 g.S, .int .i64 g.M] 23
  have HB := Lib.hid (show Below w.heap.size w (w.alloc (.cells #[.int .i64 g.E, .int .i64 g.S, .int .i64 g.M] 23)) from (Below.refl _ _).alloc (Nat.le_refl _) _)
  have x0 : (w.alloc (.cells #[.int .i64 g.E, .int .i64 g.S, .int .i64 g.M] 23)).cell? ⟨w.heap.size, 0, none⟩ = some (.int .i64 g.E) := hb.cell 0
  have x1 : (w.alloc (.cells #[.int .i64 g.E, .int .i64 g.S, .int .i64 g.M] 23)).cell? ⟨w.heap.size, 1, none⟩ = some (.int .i64 g.S) := hb.cell 1
  have x2 : (w.alloc (.cells #[.int .i64 g.E, .int .i64 g.S, .int .i64 g.M] 23)).cell? ⟨w.heap.size, 2, none⟩ = some (.int .i64 g.M) := hb.cell 2
  obtain ⟨wa, hwa⟩ : ∃ wa, (w.alloc (.cells #[.int .i64 g.E, .int .i64 g.S, .int .i64 g.M] 23)) = wa := ⟨_, rfl⟩
  rw [hwa] at x0 x1 x2 HB hb
  have HW := Lib.hid hwa
  have HBX := Lib.hid hb
  clear hb hwa
  by_cases hok : g.ok
  rotate_left
  · have hr := Lib.hid (show Ge.budget g = 0 by unfold Ge.budget; rw [if_neg (by rw [Ge.right_iff]; exact hok)])
    have hrt : Ge.right g = false := decide_eq_false hok
    have HRR := Lib.hid (fun (W : World) => show Calls Try.prog 10 #[.agg #[.int .i64 g.E, .int .i64 g.S, .int .i64 g.M]] W (fun e w' => e = .returned (.bool false) ∧ Below W.heap.size W w') by have := rright17_any g W; rwa [hrt] at this)
    clear hok hrt
    go_enter Try.func18, Try.ntmps18
    go_wp2_with fail
    rw [HW.out]
    refine (HRR.out wa).mono ?_
    rintro e w1 ⟨rfl, d1⟩
    have HB1 := Lib.hid (HB.out.trans (d1.mono HB.out.size))
    clear d1
    go_wp2
    go_ret
    rw [hr.out]; exact ⟨rfl, HB1.out⟩
  · have hrt : Ge.right g = true := decide_eq_true hok
    have HRR := Lib.hid (fun (W : World) => show Calls Try.prog 10 #[.agg #[.int .i64 g.E, .int .i64 g.S, .int .i64 g.M]] W (fun e w' => e = .returned (.bool true) ∧ Below W.heap.size W w') by have := rright17_any g W; rwa [hrt] at this)
    have HRM := Lib.hid (fun (W : World) => show Calls Try.prog 16 #[.agg #[.int .i64 g.E, .int .i64 g.S, .int .i64 g.M]] W (fun e w' => e = .returned (.int .i64 (57 * g.S)) ∧ Below W.heap.size W w') by have := rroom17_any g W; rwa [Ge.room_ok hok] at this)
    obtain ⟨bu, hbu⟩ : ∃ bu, Ge.budget g = bu := ⟨_, rfl⟩
    have HBU := Lib.hid hbu
    have HMX := Lib.hid (show max 0 ((g.E - 3) * (57 * g.S - g.M) - 57 * g.E) = bu by rw [← hbu, Ge.budget_ok hok])
    have hbd : -1000000 ≤ (g.E - 3) * (57 * g.S - g.M) ∧ (g.E - 3) * (57 * g.S - g.M) ≤ 1000000 ∧ -1000000 ≤ g.E ∧ g.E ≤ 1000000 ∧ -1000000 ≤ 57 * g.S - g.M ∧ 57 * g.S - g.M ≤ 1000000 := by
      obtain ⟨_, _, h3, h4, h5, h6, h7⟩ := id hok
      rcases Ge.exts_of hok with e | e | e | e | e <;> rw [e] <;> omega
    have H8 := Lib.hid (fun (W : World) => sub17 W g.E 3 (g.E - 3) (wrap17 _ (by omega) (by omega)))
    have H13 := Lib.hid (fun (W : World) => sub17 W (57 * g.S) g.M (57 * g.S - g.M) (wrap17 _ (by omega) (by omega)))
    have H14 := Lib.hid (fun (W : World) => mulr17 W (g.E - 3) (57 * g.S - g.M) ((g.E - 3) * (57 * g.S - g.M)) (wrap17 _ (by omega) (by omega)))
    have H17 := Lib.hid (fun (W : World) => mulr17 W 57 g.E (57 * g.E) (wrap17 _ (by omega) (by omega)))
    have H18 := Lib.hid (fun (W : World) => sub17 W ((g.E - 3) * (57 * g.S - g.M)) (57 * g.E) ((g.E - 3) * (57 * g.S - g.M) - 57 * g.E) (wrap17 _ (by omega) (by omega)))
    clear hok hrt hbd
    obtain ⟨gb, hgb⟩ : ∃ gb, w.heap.size = gb := ⟨_, rfl⟩
    go_enter Try.func18, Try.ntmps18
    go_wp2_with fail
    rw [HW.out]
    refine (HRR.out wa).mono ?_
    rintro e w1 ⟨rfl, d1⟩
    have HB1 := Lib.hid (HB.out.trans (d1.mono HB.out.size))
    have hb1 := (Kept.of d1 []).blk HBX.out (by simp)
    rw [hgb] at hb1
    have HXG := Lib.hid (fun (W : World) (hW : Below w1.heap.size w1 W) => show Blk W gb #[.int .i64 g.E, .int .i64 g.S, .int .i64 g.M] 23 from (Kept.of hW []).blk hb1 (by simp))
    have HX0 := Lib.hid (fun (W : World) (hW : Below w1.heap.size w1 W) => show W.cell? ⟨gb, 0, none⟩ = some (.int .i64 g.E) from (HXG.out W hW).cell 0)
    have HX2 := Lib.hid (fun (W : World) (hW : Below w1.heap.size w1 W) => show W.cell? ⟨gb, 2, none⟩ = some (.int .i64 g.M) from (HXG.out W hW).cell 2)
    have hbd : Below w1.heap.size w1 w1.drew := (Below.refl _ _).drew
    clear d1 x0 x1 x2 hb1
    go_wp2
    refine wp_softS (by kernel_rfl) 20 [(6, [1]), (7, [6]), (8, [7]), (9, [1]), (10, [9]), (11, [1]), (12, [11]), (13, [10, 12]), (14, [8, 13]), (15, [1]), (16, [15]), (17, [16]), (18, [14, 17]), (19, [18]), (2, [19])]
      [Fact.is (.pointer (some ⟨gb, 0, none⟩)), Fact.is (.int .i64 g.E), Fact.is (.int .i64 (g.E - 3)), Fact.is (.agg #[.int .i64 g.E, .int .i64 g.S, .int .i64 g.M]), Fact.is (.int .i64 (57 * g.S)), Fact.is (.pointer (some ⟨gb, 2, none⟩)), Fact.is (.int .i64 g.M), Fact.is (.int .i64 (57 * g.S - g.M)), Fact.is (.int .i64 ((g.E - 3) * (57 * g.S - g.M))), Fact.is (.pointer (some ⟨gb, 0, none⟩)), Fact.is (.int .i64 g.E), Fact.is (.int .i64 (57 * g.E)), Fact.is (.int .i64 ((g.E - 3) * (57 * g.S - g.M) - 57 * g.E)), Fact.is (.int .i64 bu), Fact.is (.int .i64 bu)]
      (by kernel_rfl) rfl rfl ⟨?s0, ?s1, ?s2, ?s3, ?s4, ?s5, ?s6, ?s7, ?s8, ?s9, ?s10, ?s11, ?s12, ?s13, ?s14, trivial⟩ ?fin
    case s0 =>
      intro ρ W hb hc hf hr
      obtain ⟨r1, -⟩ := hr
      have e1 : ρ (.tmp 1) = .pointer (some ⟨gb, 0, none⟩) := r1
      clear r1
      refine under_none rfl ?_
      exact soft_field e1 rfl (fun W => by go_simp)
    case s1 =>
      intro ρ W hb hc hf hr
      obtain ⟨r6, -⟩ := hr
      have e6 : ρ (.tmp 6) = .pointer (some ⟨gb, 0, none⟩) := r6
      clear r6
      refine under_none rfl ?_
      exact soft_load e6 (run_load17 W _ _ (HX0.out W (hbd.trans (hb.mono (by simp))))) rfl
    case s2 =>
      intro ρ W hb hc hf hr
      obtain ⟨r7, -⟩ := hr
      have e7 : ρ (.tmp 7) = .int .i64 g.E := r7
      clear r7
      refine under_none rfl ?_
      exact soft_bin e7 (hc _) rfl rfl (H8.out W)
    case s3 =>
      intro ρ W hb hc hf hr
      obtain ⟨r1, -⟩ := hr
      have e1 : ρ (.tmp 1) = .pointer (some ⟨gb, 0, none⟩) := r1
      clear r1
      refine under_none rfl ?_
      exact soft_load e1 (run_loadG17 (HXG.out W (hbd.trans (hb.mono (by simp))))) rfl
    case s4 =>
      intro ρ W hb hc hf hr
      obtain ⟨r9, -⟩ := hr
      have e9 : ρ (.tmp 9) = .agg #[.int .i64 g.E, .int .i64 g.S, .int .i64 g.M] := r9
      clear r9
      refine under_none rfl ?_
      exact soft_call1 hf e9 (HRM.out W) rfl (by kernel_rfl) below_is
    case s5 =>
      intro ρ W hb hc hf hr
      obtain ⟨r1, -⟩ := hr
      have e1 : ρ (.tmp 1) = .pointer (some ⟨gb, 0, none⟩) := r1
      clear r1
      refine under_none rfl ?_
      exact soft_field e1 rfl (fun W => by go_simp)
    case s6 =>
      intro ρ W hb hc hf hr
      obtain ⟨r11, -⟩ := hr
      have e11 : ρ (.tmp 11) = .pointer (some ⟨gb, 2, none⟩) := r11
      clear r11
      refine under_none rfl ?_
      exact soft_load e11 (run_load17 W _ _ (HX2.out W (hbd.trans (hb.mono (by simp))))) rfl
    case s7 =>
      intro ρ W hb hc hf hr
      obtain ⟨r10, r12, -⟩ := hr
      have e10 : ρ (.tmp 10) = .int .i64 (57 * g.S) := r10
      clear r10
      have e12 : ρ (.tmp 12) = .int .i64 g.M := r12
      clear r12
      refine under_none rfl ?_
      exact soft_bin e10 e12 rfl rfl (H13.out W)
    case s8 =>
      intro ρ W hb hc hf hr
      obtain ⟨r8, r13, -⟩ := hr
      have e8 : ρ (.tmp 8) = .int .i64 (g.E - 3) := r8
      clear r8
      have e13 : ρ (.tmp 13) = .int .i64 (57 * g.S - g.M) := r13
      clear r13
      refine under_none rfl ?_
      exact soft_bin e8 e13 rfl rfl (H14.out W)
    case s9 =>
      intro ρ W hb hc hf hr
      obtain ⟨r1, -⟩ := hr
      have e1 : ρ (.tmp 1) = .pointer (some ⟨gb, 0, none⟩) := r1
      clear r1
      refine under_none rfl ?_
      exact soft_field e1 rfl (fun W => by go_simp)
    case s10 =>
      intro ρ W hb hc hf hr
      obtain ⟨r15, -⟩ := hr
      have e15 : ρ (.tmp 15) = .pointer (some ⟨gb, 0, none⟩) := r15
      clear r15
      refine under_none rfl ?_
      exact soft_load e15 (run_load17 W _ _ (HX0.out W (hbd.trans (hb.mono (by simp))))) rfl
    case s11 =>
      intro ρ W hb hc hf hr
      obtain ⟨r16, -⟩ := hr
      have e16 : ρ (.tmp 16) = .int .i64 g.E := r16
      clear r16
      refine under_none rfl ?_
      exact soft_bin (hc _) e16 rfl rfl (H17.out W)
    case s12 =>
      intro ρ W hb hc hf hr
      obtain ⟨r14, r17, -⟩ := hr
      have e14 : ρ (.tmp 14) = .int .i64 ((g.E - 3) * (57 * g.S - g.M)) := r14
      clear r14
      have e17 : ρ (.tmp 17) = .int .i64 (57 * g.E) := r17
      clear r17
      refine under_none rfl ?_
      exact soft_bin e14 e17 rfl rfl (H18.out W)
    case s13 =>
      intro ρ W hb hc hf hr
      obtain ⟨r18, -⟩ := hr
      have e18 : ρ (.tmp 18) = .int .i64 ((g.E - 3) * (57 * g.S - g.M) - 57 * g.E) := r18
      clear r18
      refine under_none rfl ?_
      exact soft_max17 (hc _) e18 HMX.out rfl rfl
    case s14 =>
      intro ρ W hb hc hf hr
      obtain ⟨r19, -⟩ := hr
      have e19 : ρ (.tmp 19) = .int .i64 bu := r19
      clear r19
      refine under_none rfl ?_
      exact ⟨e19, Below.refl _ _⟩
    case fin =>
      intro a w2 hb hd hsz hk
      have ea := act_puts hd hsz rfl hk
      have k6 : a.tmps.getD 6 undef = .pointer (some ⟨gb, 0, none⟩) := hk 6
      have k7 : a.tmps.getD 7 undef = .int .i64 g.E := hk 7
      have k8 : a.tmps.getD 8 undef = .int .i64 (g.E - 3) := hk 8
      have k9 : a.tmps.getD 9 undef = .agg #[.int .i64 g.E, .int .i64 g.S, .int .i64 g.M] := hk 9
      have k10 : a.tmps.getD 10 undef = .int .i64 (57 * g.S) := hk 10
      have k11 : a.tmps.getD 11 undef = .pointer (some ⟨gb, 2, none⟩) := hk 11
      have k12 : a.tmps.getD 12 undef = .int .i64 g.M := hk 12
      have k13 : a.tmps.getD 13 undef = .int .i64 (57 * g.S - g.M) := hk 13
      have k14 : a.tmps.getD 14 undef = .int .i64 ((g.E - 3) * (57 * g.S - g.M)) := hk 14
      have k15 : a.tmps.getD 15 undef = .pointer (some ⟨gb, 0, none⟩) := hk 15
      have k16 : a.tmps.getD 16 undef = .int .i64 g.E := hk 16
      have k17 : a.tmps.getD 17 undef = .int .i64 (57 * g.E) := hk 17
      have k18 : a.tmps.getD 18 undef = .int .i64 ((g.E - 3) * (57 * g.S - g.M) - 57 * g.E) := hk 18
      have k19 : a.tmps.getD 19 undef = .int .i64 bu := hk 19
      have k2 : a.tmps.getD 2 undef = .int .i64 bu := hk 2
      clear hk hd hsz
      simp only [List.map_cons, List.map_nil, List.foldl_cons, List.foldl_nil, k6, k7, k8, k9, k10, k11, k12, k13, k14, k15, k16, k17, k18, k19, k2] at ea
      clear k6 k7 k8 k9 k10 k11 k12 k13 k14 k15 k16 k17 k18 k19 k2
      simp only [Act.put, List.setIfInBounds_toArray, List.set_cons_succ, List.set_cons_zero] at ea
      subst ea
      have HB2 := Lib.hid (HB1.out.trans ((hbd.trans (hb.mono (by simp))).mono HB1.out.size))
      clear hb hbd
      go_wp2
      go_ret
      rw [HBU.out]; exact ⟨rfl, HB2.out⟩
end Go.Proofs.Ytgicjdlpkphfnaa

