/-
  Layer 6: how items are compared (order.compare), and order.First: what they answer, of any items, and that memory only grows by it; and the library's sorting of items by it, alike ones in their order. Nothing is assumed but that there are at most a million items.
-/
import Derived.Test.YtkhlgjkbkpbhiaaItm

namespace Go.Proofs.Ytkhlgjkbkpbhiaa
open Go.RowKit Go.Sort
set_option maxRecDepth 100000

/-- three numbers in a block of their own -/
def Fact.three (a b c : Int) : Fact := ⟨fun v w => ∃ g, v = .slice (some ⟨g, 0, none⟩) 3 3 ∧ Blk w g #[.int .i64 a, .int .i64 b, .int .i64 c] 3, fun _ _ _ ⟨g, e, h⟩ hb => ⟨g, e, (hb.block g h.lt).trans h⟩⟩
theorem g_val {P : Program} {w : World} {u : Value} {r : Result Next} (h : r = .ok (.value u) w) : gUpon P w (Fact.is u) r := by rw [h]; exact ⟨rfl, Grows.refl _⟩
theorem g_field {w : World} {ρ : Operand → Value} {o : Oper} {x : Operand} {a b : Addr} {t : TypeId} {j : Nat} (hx : ρ x = .pointer (some a)) (ho : o.op = .fieldAddr t x j) (hr : ∀ W, (Instr.fieldAt t (.pointer (some a)) j).run Try.prog W = .ok (.pointer (some b)) W) : gUpon Try.prog w (Fact.is (.pointer (some b))) ((execOp ρ o).run Try.prog w) :=
  g_val (by simp [execOp, ho, hx, hr w])
theorem g_load {P : Program} {w : World} {ρ : Operand → Value} {o : Oper} {x : Operand} {t : TypeId} {a : Addr} {u : Value} (hx : ρ x = .pointer (some a)) (hr : (Instr.loadAt t (.pointer (some a))).run P w = .ok u w) (ho : o.op = .load t x) : gUpon P w (Fact.is u) ((execOp ρ o).run P w) :=
  g_val (by simp [execOp, ho, hx, hr])
theorem g_call2 {P : Program} {w : World} {ρ : Operand → Value} {o : Oper} {x y : Operand} {f : FuncId} {ats : Array TypeId} {vx vy u : Value}
    (hf : ∀ f, ρ (.func f) = .func (.func f) #[] #[]) (hx : ρ x = vx) (hy : ρ y = vy) (hc : Calls P f #[vx, vy] w fun e w' => e = .returned u ∧ w = w') (ho : o.op = .call { callee := .value (.func f), args := #[x, y], argTypes := ats })
    (hfn : (P.funcs[f]?).map (fun fn => (fn.name == "runtime.NumGoroutine", fn.body.isNone)) = some (false, false)) : gUpon P w (Fact.is u) ((execOp ρ o).run P w) := by
  have e : (execOp ρ o).run P w = .ok (.enter f #[vx, vy]) w := by
    simp [execOp, ho, resolve, invoke, hf, hx, hy, Deferred.ofValue, go_sem, enters hfn]
  rw [e]
  exact ⟨rfl, hc.mono fun _ _ ⟨he, hw⟩ => ⟨u, he, rfl, hw ▸ Grows.refl _⟩⟩
theorem g_three {w : World} {ρ : Operand → Value} {o : Oper} {x y z : Operand} {a b c : Int} (hx : ρ x = .int .i64 a) (hy : ρ y = .int .i64 b) (hz : ρ z = .int .i64 c) (ho : o.op = .buildSlice 53 3 #[(0, x), (1, y), (2, z)]) : gUpon Try.prog w (Fact.three a b c) ((execOp ρ o).run Try.prog w) := by
  have e : (execOp ρ o).run Try.prog w = .ok (.value (.slice (some ⟨w.heap.size, 0, none⟩) 3 3)) (w.alloc (.cells #[.int .i64 a, .int .i64 b, .int .i64 c] 3)) := by
    simp only [execOp, ho]
    go_simp
  rw [e]
  exact ⟨⟨_, rfl, Blk.new _ _ _⟩, (Below.refl _ _).alloc (Nat.le_refl _) _, Nat.le_refl _⟩
theorem g_or {w : World} {ρ : Operand → Value} {o : Oper} {x : Operand} {ats : Array TypeId} {a b c C : Int}
    (hf : ∀ f, ρ (.func f) = .func (.func f) #[] #[]) (hx : (Fact.three a b c).φ (ρ x) w) (hC : Plain.orN a b c = C) (ho : o.op = .call { callee := .value (.func 28), args := #[x], argTypes := ats }) : gUpon Try.prog w (Fact.is (.int .i64 C)) ((execOp ρ o).run Try.prog w) := by
  obtain ⟨g, hx, hb⟩ := hx
  have e : (execOp ρ o).run Try.prog w = .ok (.enter 28 #[.slice (some ⟨g, 0, none⟩) 3 3]) w := by
    simp [execOp, ho, resolve, invoke, hf, hx, Deferred.ofValue, go_sem, enters (P := Try.prog) (f := 28) (by kernel_rfl)]
  rw [e]
  refine ⟨rfl, (or_any g a b c w (hb.cell 0) (hb.cell 1) (hb.cell 2)).mono fun _ _ ⟨he, hw⟩ => ⟨_, he, ?_, hw ▸ Grows.refl _⟩⟩
  show _ = _
  rw [hC]

set_option maxHeartbeats 2000000 in
theorem compare_grow (x y : Plain.It) (w : World) :
    Calls Try.prog 25 #[itV x, itV y] w fun e w' => e = .returned (.int .i64 (Plain.cmpI x y)) ∧ Grows w w' := by
  obtain ⟨C, hC⟩ : ∃ C, Plain.cmpI x y = C := ⟨_, rfl⟩
  rw [hC]
  obtain ⟨xi, xc, xt, xs, xp⟩ := x
  obtain ⟨yi, yc, yt, ys, yp⟩ := y
  unfold Plain.cmpI at hC
  simp only at hC
  have H1 := Lib.hid (fun (W : World) => compareI_any xc yc W)
  have H2 := Lib.hid (fun (W : World) => compareL_any xt yt W)
  have H3 := Lib.hid (fun (W : World) => compareL_any xi yi W)
  generalize Plain.cmpN xc yc = c1 at *
  generalize Plain.cmpN xt yt = c2 at *
  generalize Plain.cmpN xi yi = c3 at *
  have HO := Lib.hid hC
  clear hC
  have hbx := Blk.new w #[.int .i64 xi, .int .i64 xc, .int .i64 xt, .int .i64 xs, .bool xp] 24
  obtain ⟨W0, hW0⟩ : ∃ W0, w.alloc (.cells #[.int .i64 xi, .int .i64 xc, .int .i64 xt, .int .i64 xs, .bool xp] 24) = W0 := ⟨_, rfl⟩
  have hby := Blk.new W0 #[.int .i64 yi, .int .i64 yc, .int .i64 yt, .int .i64 ys, .bool yp] 24
  have hs0 : W0.heap.size = w.heap.size + 1 := by rw [← hW0]; simp
  rw [hW0] at hbx
  have hbx2 := (Kept.of ((Below.refl W0.heap.size W0).alloc (Nat.le_refl _) (.cells #[.int .i64 yi, .int .i64 yc, .int .i64 yt, .int .i64 ys, .bool yp] 24)) []).blk hbx (by simp)
  rw [hs0] at hby
  have hg0 : Grows w (W0.alloc (.cells #[.int .i64 yi, .int .i64 yc, .int .i64 yt, .int .i64 ys, .bool yp] 24)) := by
    rw [← hW0]
    exact ⟨((Below.refl _ w).alloc (Nat.le_refl _) _).alloc (by simp) _, Nat.le_refl _⟩
  obtain ⟨V, hV⟩ : ∃ V, W0.alloc (.cells #[.int .i64 yi, .int .i64 yc, .int .i64 yt, .int .i64 ys, .bool yp] 24) = V := ⟨_, rfl⟩
  rw [hV] at hbx2 hby hg0
  obtain ⟨N, hN⟩ : ∃ N, w.heap.size = N := ⟨_, rfl⟩
  have hdrew : ∀ W, Grows V.drew W → Grows V W := fun W h => ⟨⟨h.1.os, h.1.tape, h.1.output, h.1.size, h.1.block⟩, Nat.le_trans (Nat.le_succ _) h.2⟩
  have HX := Lib.hid (fun (W : World) (h : Grows V.drew W) => (Kept.of (hdrew W h).1 []).blk hbx2 (by simp))
  have HY := Lib.hid (fun (W : World) (h : Grows V.drew W) => (Kept.of (hdrew W h).1 []).blk hby (by simp))
  rw [hN] at HX HY
  have HD := Lib.hid hdrew
  have HG := Lib.hid hg0
  have HW0 := Lib.hid hW0
  have HV := Lib.hid hV
  have HN := Lib.hid hN
  clear hbx hby hbx2 hs0 hW0 hV hN hg0 hdrew
  go_enter Try.func25, Try.ntmps25
  go_wp2_with fail
  rw [HW0.out, HV.out, HN.out]
  refine wp_g (by kernel_rfl) 22 [(5, [2]), (6, [5]), (7, [3]), (8, [7]), (9, [6, 8]), (10, [2]), (11, [10]), (12, [3]), (13, [12]), (14, [11, 13]), (15, [2]), (16, [15]), (17, [3]), (18, [17]), (19, [16, 18]), (20, [9, 14, 19]), (21, [20]), (4, [21])]
    [Fact.is (.pointer (some ⟨N, 1, none⟩)), Fact.is (.int .i64 xc), Fact.is (.pointer (some ⟨N + 1, 1, none⟩)), Fact.is (.int .i64 yc), Fact.is (.int .i64 c1), Fact.is (.pointer (some ⟨N, 2, none⟩)), Fact.is (.int .i64 xt), Fact.is (.pointer (some ⟨N + 1, 2, none⟩)), Fact.is (.int .i64 yt), Fact.is (.int .i64 c2), Fact.is (.pointer (some ⟨N, 0, none⟩)), Fact.is (.int .i64 xi), Fact.is (.pointer (some ⟨N + 1, 0, none⟩)), Fact.is (.int .i64 yi), Fact.is (.int .i64 c3), Fact.three c1 c2 c3, Fact.is (.int .i64 C), Fact.is (.int .i64 C)]
    (by kernel_rfl) rfl rfl ⟨?s0, ?s1, ?s2, ?s3, ?s4, ?s5, ?s6, ?s7, ?s8, ?s9, ?s10, ?s11, ?s12, ?s13, ?s14, ?s15, ?s16, ?s17, trivial⟩ ?fin
  case s0 =>
    intro ρ W hb hc hf hr
    obtain ⟨r2, -⟩ := hr
    have e2 : ρ (.tmp 2) = .pointer (some ⟨N, 0, none⟩) := r2
    clear r2
    refine under_none rfl ?_
    exact g_field e2 rfl (fun W => by go_simp)
  case s1 =>
    intro ρ W hb hc hf hr
    obtain ⟨r5, -⟩ := hr
    have e5 : ρ (.tmp 5) = .pointer (some ⟨N, 1, none⟩) := r5
    clear r5
    refine under_none rfl ?_
    exact g_load e5 (by have := (HX.out W hb).cell 1; go_simp) rfl
  case s2 =>
    intro ρ W hb hc hf hr
    obtain ⟨r3, -⟩ := hr
    have e3 : ρ (.tmp 3) = .pointer (some ⟨N + 1, 0, none⟩) := r3
    clear r3
    refine under_none rfl ?_
    exact g_field e3 rfl (fun W => by go_simp)
  case s3 =>
    intro ρ W hb hc hf hr
    obtain ⟨r7, -⟩ := hr
    have e7 : ρ (.tmp 7) = .pointer (some ⟨N + 1, 1, none⟩) := r7
    clear r7
    refine under_none rfl ?_
    exact g_load e7 (by have := (HY.out W hb).cell 1; go_simp) rfl
  case s4 =>
    intro ρ W hb hc hf hr
    obtain ⟨r6, r8, -⟩ := hr
    have e6 : ρ (.tmp 6) = .int .i64 xc := r6
    clear r6
    have e8 : ρ (.tmp 8) = .int .i64 yc := r8
    clear r8
    refine under_none rfl ?_
    exact g_call2 hf e6 e8 (H1.out W) rfl (by kernel_rfl)
  case s5 =>
    intro ρ W hb hc hf hr
    obtain ⟨r2, -⟩ := hr
    have e2 : ρ (.tmp 2) = .pointer (some ⟨N, 0, none⟩) := r2
    clear r2
    refine under_none rfl ?_
    exact g_field e2 rfl (fun W => by go_simp)
  case s6 =>
    intro ρ W hb hc hf hr
    obtain ⟨r10, -⟩ := hr
    have e10 : ρ (.tmp 10) = .pointer (some ⟨N, 2, none⟩) := r10
    clear r10
    refine under_none rfl ?_
    exact g_load e10 (by have := (HX.out W hb).cell 2; go_simp) rfl
  case s7 =>
    intro ρ W hb hc hf hr
    obtain ⟨r3, -⟩ := hr
    have e3 : ρ (.tmp 3) = .pointer (some ⟨N + 1, 0, none⟩) := r3
    clear r3
    refine under_none rfl ?_
    exact g_field e3 rfl (fun W => by go_simp)
  case s8 =>
    intro ρ W hb hc hf hr
    obtain ⟨r12, -⟩ := hr
    have e12 : ρ (.tmp 12) = .pointer (some ⟨N + 1, 2, none⟩) := r12
    clear r12
    refine under_none rfl ?_
    exact g_load e12 (by have := (HY.out W hb).cell 2; go_simp) rfl
  case s9 =>
    intro ρ W hb hc hf hr
    obtain ⟨r11, r13, -⟩ := hr
    have e11 : ρ (.tmp 11) = .int .i64 xt := r11
    clear r11
    have e13 : ρ (.tmp 13) = .int .i64 yt := r13
    clear r13
    refine under_none rfl ?_
    exact g_call2 hf e11 e13 (H2.out W) rfl (by kernel_rfl)
  case s10 =>
    intro ρ W hb hc hf hr
    obtain ⟨r2, -⟩ := hr
    have e2 : ρ (.tmp 2) = .pointer (some ⟨N, 0, none⟩) := r2
    clear r2
    refine under_none rfl ?_
    exact g_field e2 rfl (fun W => by go_simp)
  case s11 =>
    intro ρ W hb hc hf hr
    obtain ⟨r15, -⟩ := hr
    have e15 : ρ (.tmp 15) = .pointer (some ⟨N, 0, none⟩) := r15
    clear r15
    refine under_none rfl ?_
    exact g_load e15 (by have := (HX.out W hb).cell 0; go_simp) rfl
  case s12 =>
    intro ρ W hb hc hf hr
    obtain ⟨r3, -⟩ := hr
    have e3 : ρ (.tmp 3) = .pointer (some ⟨N + 1, 0, none⟩) := r3
    clear r3
    refine under_none rfl ?_
    exact g_field e3 rfl (fun W => by go_simp)
  case s13 =>
    intro ρ W hb hc hf hr
    obtain ⟨r17, -⟩ := hr
    have e17 : ρ (.tmp 17) = .pointer (some ⟨N + 1, 0, none⟩) := r17
    clear r17
    refine under_none rfl ?_
    exact g_load e17 (by have := (HY.out W hb).cell 0; go_simp) rfl
  case s14 =>
    intro ρ W hb hc hf hr
    obtain ⟨r16, r18, -⟩ := hr
    have e16 : ρ (.tmp 16) = .int .i64 xi := r16
    clear r16
    have e18 : ρ (.tmp 18) = .int .i64 yi := r18
    clear r18
    refine under_none rfl ?_
    exact g_call2 hf e16 e18 (H3.out W) rfl (by kernel_rfl)
  case s15 =>
    intro ρ W hb hc hf hr
    obtain ⟨r9, r14, r19, -⟩ := hr
    have e9 : ρ (.tmp 9) = .int .i64 c1 := r9
    clear r9
    have e14 : ρ (.tmp 14) = .int .i64 c2 := r14
    clear r14
    have e19 : ρ (.tmp 19) = .int .i64 c3 := r19
    clear r19
    refine under_none rfl ?_
    exact g_three e9 e14 e19 rfl
  case s16 =>
    intro ρ W hb hc hf hr
    obtain ⟨r20, -⟩ := hr
    refine under_none rfl ?_
    exact g_or hf r20 HO.out rfl
  case s17 =>
    intro ρ W hb hc hf hr
    obtain ⟨r21, -⟩ := hr
    have e21 : ρ (.tmp 21) = .int .i64 C := r21
    clear r21
    refine under_none rfl ?_
    exact ⟨e21, Grows.refl _⟩
  case fin =>
    intro a w1 hb hd hsz hk
    have k4 : a.tmps.getD 4 undef = .int .i64 C := hk 4
    go_wp2
    refine bodyPost_ret (results_tmp rfl _ _ _) hd ?_
    exact ⟨congrArg Ending.returned k4, HG.out.trans (HD.out _ hb)⟩

theorem first_any (x y : Plain.It) (w : World) : Calls Try.prog 15 #[itV x, itV y] w fun e w' => e = .returned (.bool (Plain.ilt x y)) ∧ Below w.heap.size w w' := by
  have HC := Lib.hid (fun (W : World) => compare_grow x y W)
  obtain ⟨R, hR⟩ : ∃ R, Plain.ilt x y = R := ⟨_, rfl⟩
  have hq := Plain.cmpI_neg x y
  rw [hR] at hq ⊢
  generalize Plain.cmpI x y = C at *
  clear hR
  obtain ⟨xi, xc, xt, xs, xp⟩ := x
  obtain ⟨yi, yc, yt, ys, yp⟩ := y
  simp only [itV] at HC ⊢
  have HB := Lib.hid (((Below.refl w.heap.size w).alloc (Nat.le_refl _) (.cells #[.int .i64 xi, .int .i64 xc, .int .i64 xt, .int .i64 xs, .bool xp] 24)).alloc (by simp) (.cells #[.int .i64 yi, .int .i64 yc, .int .i64 yt, .int .i64 ys, .bool yp] 24))
  have HQ := Lib.hid (show R = decide (C < 0) by rw [Bool.eq_iff_iff, decide_eq_true_eq, hq])
  clear hq
  go_enter Try.func15, Try.ntmps15
  go_wp2_with fail
  refine (HC.out _).mono ?_
  rintro e w1 ⟨rfl, hg⟩
  have HB2 := Lib.hid (HB.out.trans (hg.1.mono HB.out.size))
  clear hg
  by_cases h : C < 0
  · go_wp2
    go_ret
    exact ⟨by rw [HQ.out, decide_eq_true h]; rfl, HB2.out⟩
  · go_wp2
    go_ret
    exact ⟨by rw [HQ.out, decide_eq_false (by omega)]; rfl, HB2.out⟩

/-! the library's sorting, of items -/
theorem stP : StP Try.prog 5 where
  mixed := by kernel_rfl
  f31 := Try.func31
  f34 := Try.func34
  f35 := Try.func35
  f36 := Try.func36
  f37 := Try.func37
  t0 := Try.underlying0
  a0 := Try.isAgg0
  z0 := Try.sizeOf0
  v0 := Try.zeroValue0
  t3 := Try.underlying3
  a3 := Try.isAgg3
  z3 := Try.sizeOf3
  v3 := Try.zeroValue3
  t4 := Try.underlying4
  a4 := Try.isAgg4
  z4 := Try.sizeOf4
  v4 := Try.zeroValue4
  t22 := Try.underlying22
  a22 := Try.isAgg22
  z22 := Try.sizeOf22
  v22 := Try.zeroValue22
  t25 := Try.underlying47
  a25 := Try.isAgg47
  z25 := Try.sizeOf47
  v25 := Try.zeroValue47
  t58 := Try.underlying58
  a58 := Try.isAgg58
  z58 := Try.sizeOf58
  v58 := Try.zeroValue58
  aE := Try.isAgg24
  zE := Try.sizeOf24

theorem cmpLays_any (blk off size : Nat) (w : World) : CmpLays Try.prog 25 #[] itCells 5 Plain.cmpI blk off size w := fun _ _ _ _ x y =>
  (compare_grow x y _).mono fun _ _ ⟨he, hg⟩ => ⟨he, hg.grown⟩
theorem flatK_flatI (l : List Plain.It) : flatK itCells 5 l.toArray = (flatI l).toArray := by
  refine ext_get! (by simp [flatI_length]) fun t ht => ?_
  have ht' : t < l.length * 5 := by simpa using ht
  rw [get_flatK _ _ _ t (by simpa using ht')]
  have hi : t / 5 < l.length := by omega
  have h := flatI_at l (t / 5) (t % 5) l[t / 5] (List.getElem?_eq_getElem hi) (by omega)
  rw [show t / 5 * 5 + t % 5 = t by omega] at h
  have e1 : (l.toArray)[t / 5]! = l[t / 5] := by simp [hi]
  rw [e1]
  have hf : t < (flatI l).length := by rw [flatI_length]; exact ht'
  have hs : t % 5 < (itCells l[t / 5]).length := by rw [itCells_length]; omega
  rw [List.getElem?_eq_getElem hf, List.getElem?_eq_getElem hs] at h
  simp [hf, hs, Option.some.inj h]
theorem sortWorld_below (B : Nat) (w : World) (blk off m : Nat) (dk : Array Plain.It) (os : Array Obj) (hB : B ≤ blk) (hb : blk < w.heap.size) : Below B w (sortWorldK itCells 5 w blk off m dk os) := by
  unfold sortWorldK putRowK putRow mapBlock
  refine ⟨rfl, rfl, rfl, ?_, fun k hk => ?_⟩
  · rw [size_grow]; simp [Sort.ahead]
  · rw [heap_grow_old _ _ (by simp [Sort.ahead]; omega)]
    simp only [Sort.ahead, Array.getElem?_modify]
    rw [if_neg (by omega)]

theorem sortWorld_cells (w : World) (blk off m : Nat) (dk : Array Plain.It) (os : Array Obj) (hb : blk < w.heap.size) (cs : Array Value) (T : TypeId) (q : Nat × Nat) (h : w.heap[blk]? = some (.cells cs T q)) : ∃ cs', (sortWorldK itCells 5 w blk off m dk os).heap[blk]? = some (.cells cs' T q) := by
  unfold sortWorldK putRowK putRow mapBlock
  rw [heap_grow_old _ _ (by simp [Sort.ahead]; omega)]
  simp only [Sort.ahead, Array.getElem?_modify, if_true, h, Option.map_some]
  exact ⟨_, rfl⟩

theorem sortStable_any (g cap n : Nat) (l : List Plain.It) (w : World) (hn : l.length = n) (hg : g < w.heap.size) (hc : ∀ j, j < (flatI l).length → w.cell? ⟨g, j, none⟩ = some (flatI l)[j]! ∧ w.frozen? ⟨g, j, none⟩ = false) (hsz : n ≤ 1000000) :
    Calls Try.prog 26 #[.slice (some ⟨g, 0, none⟩) n cap, .func (.func 25) #[] #[]] w fun e w' => e = .returned (.tuple #[]) ∧ Lies w' (some ⟨g, 0, none⟩) (flatI (Plain.srt Plain.ilt l)) ∧ (∀ cs T m, w.heap[g]? = some (.cells cs T m) → ∃ cs', w'.heap[g]? = some (.cells cs' T m)) ∧ ∀ B, B ≤ g → Below B w w' := by
  have hH : HoldsK itCells 5 w g 0 l.toArray := by
    unfold HoldsK
    rw [flatK_flatI]
    intro j hj
    have hj' : j < (flatI l).length := by simpa using hj
    have := hc j hj'
    rw [Nat.zero_add]
    simpa [hj'] using this
  have eg : ∀ args w, (callFunc 25 args).run Try.prog w = .ok (.enter 25 args) w := enters_of Try.func25 (by kernel_rfl) rfl
  have R : RowK itCells 5 w g 0 l.toArray := ⟨fun _ => rfl, fun x v hv => by simp [itCells] at hv; rcases hv with rfl | rfl | rfl | rfl | rfl <;> rfl, hH, hg⟩
  have hls : l.toArray.size = n := by simpa using hn
  have hcon := stable_p stP itCells Plain.cmpI Plain.swoC 25 #[] eg g 0 cap n l.toArray l.toArray w w (cmpLays_any g 0 n w) R hls hls (SWK.start hH) hsz (fun a b d W hab hb hd S => by
    have hs' : (Sort.insertionSort (ltOf Plain.cmpI) d a b).size = d.size := (insertionSort_holds Plain.swoC d a b hab (by omega)).1.1
    have hq := AnyQ.insertionSortCmpFunc Try.insF 5 Try.isAgg24 Try.sizeOf24 itCells R.hk R.h1 Plain.cmpI 25 #[] g 0 cap a b d W eg (cmpLays_any g 0 d.size W) (S.holds R.hblk R.hH (by omega)) (S.lt R.hblk) hab (by omega) (by omega)
    rw [hd] at hq
    refine Calls.mono (show Calls Try.prog 34 _ _ _ from hq) ?_
    rintro e w' ⟨rfl, m, os, rfl⟩
    exact ⟨rfl, S.on R.hblk m _ os hs'⟩)
  rw [Plain.ltOf_eq] at hcon
  have HC := Lib.hid hcon
  have HG := Lib.hid hg
  have HH := Lib.hid hH
  have HL := Lib.hid hls
  clear hcon hg hH hls R hc eg hn
  go_enter Try.func26, Try.ntmps26
  go_wp2_with fail
  refine HC.out.mono ?_
  rintro e w1 ⟨rfl, d', h1, ⟨m, os, hw⟩, h3⟩
  have HW := Lib.hid hw
  have H3 := Lib.hid h3
  clear hw h3
  go_wp2
  go_end0
  refine ⟨rfl, ?_, fun cs T q h => by rw [HW.out]; exact sortWorld_cells w g 0 m d' os HG.out cs T q h, fun B hB => by rw [HW.out]; exact sortWorld_below B w g 0 m d' os hB HG.out⟩
  have h2 := holdsK_sortWorldK_c itCells 5 w g 0 l.toArray d' m os HH.out HG.out (by rw [HL.out]; exact h1)
  rw [← HW.out] at h2
  have hlt : g < w1.heap.size := by rw [HW.out]; exact Nat.lt_of_lt_of_le HG.out (size_sortWorldK_c itCells 5 w g 0 m d' os)
  have e3 : d'.toList = Plain.srt Plain.ilt l := H3.out
  refine .inr ⟨_, rfl, hlt, ?_⟩
  intro j u hu
  rw [← e3] at hu
  unfold HoldsK at h2
  have e : flatK itCells 5 d' = (flatI d'.toList).toArray := flatK_flatI d'.toList
  rw [e] at h2
  have hj : j < (flatI d'.toList).length := by
    rcases Nat.lt_or_ge j (flatI d'.toList).length with h | h
    · exact h
    · rw [List.getElem?_eq_none h] at hu; cases hu
  have h4 := (h2 j (by simpa using hj)).1
  rw [List.getElem?_eq_getElem hj] at hu
  have e2 : (⟨g, 0, none⟩ : Addr).add j = ⟨g, j, none⟩ := by unfold Addr.add; split <;> simp_all
  rw [e2]
  rw [Nat.zero_add] at h4
  rw [h4]
  simpa [hj] using hu

/-- of no items, wherever they lie -/
theorem sortNone_any (A : Option Addr) (cap : Nat) (w : World) :
    Calls Try.prog 26 #[.slice A 0 cap, .func (.func 25) #[] #[]] w fun e w' => e = .returned (.tuple #[]) ∧ w = w' := by
  have hi : ∀ W, Calls Try.prog 34 #[.slice A 0 cap, .int .i64 0, .int .i64 0, .func (.func 25) #[] #[]] W fun e w' => e = .returned (.tuple #[]) ∧ W = w' := fun W => by
    go_enter Try.func34, Try.ntmps34
    go_wp2
    refine wp_loop_rounds 1 ?_
    rw [rounds_succ]
    go_wp2
    go_end0
    exact ⟨rfl, rfl⟩
  have HI := Lib.hid hi
  have hs : ∀ W, Calls Try.prog 31 #[.slice A 0 cap, .int .i64 0, .func (.func 25) #[] #[]] W fun e w' => e = .returned (.tuple #[]) ∧ W = w' := fun W => by
    go_enter Try.func31, Try.ntmps31
    go_wp2
    refine wp_loop_rounds 1 ?_
    rw [rounds_succ]
    go_wp2_with fail
    refine (HI.out _).mono ?_
    rintro e w1 ⟨rfl, rfl⟩
    go_wp2_with fail
    refine wp_loop_rounds 1 ?_
    rw [rounds_succ]
    go_wp2
    go_end0
    exact ⟨rfl, rfl⟩
  have HS := Lib.hid hs
  clear hi hs
  go_enter Try.func26, Try.ntmps26
  go_wp2_with fail
  refine (HS.out _).mono ?_
  rintro e w1 ⟨rfl, rfl⟩
  go_wp2
  go_end0
  exact ⟨rfl, rfl⟩
end Go.Proofs.Ytkhlgjkbkpbhiaa
