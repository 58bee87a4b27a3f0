/-
  Layer 6: turntablelaw06.head, the live question: it returns true. Nothing is assumed.
-/
import Derived.Test.YtkhlgjkbkpbhiaaSam

namespace Go.Proofs.Ytkhlgjkbkpbhiaa
open Go.RowKit
set_option maxRecDepth 100000

/-- numbers, and items, that lie in memory -/
def Fact.gN (ids : List Int) : Fact := ⟨fun v w => ∃ A c, v = .slice A ids.length c ∧ ids.length ≤ c ∧ c ≤ maxLen ∧ Lies w A (nums ids), fun _ _ _ ⟨A, c, e, h1, h2, h⟩ hb => ⟨A, c, e, h1, h2, h.below hb⟩⟩
def Fact.gI (xs : List Plain.It) : Fact := ⟨fun v w => ∃ A c, v = .slice A xs.length c ∧ xs.length ≤ c ∧ c ≤ maxLen ∧ Lies w A (flatI xs), fun _ _ _ ⟨A, c, e, h1, h2, h⟩ hb => ⟨A, c, e, h1, h2, h.below hb⟩⟩
theorem soft_num1 {w : World} {ρ : Operand → Value} {o : Oper} {a : Int} (hc : ∀ v, ρ (.const v) = v) (ho : o.op = .buildSlice 26 1 #[(0, .const (.int .i64 a))]) : softUpon Try.prog w (Fact.gN [a]) ((execOp ρ o).run Try.prog w) := by
  have e : (execOp ρ o).run Try.prog w = .ok (.value (.slice (some ⟨w.heap.size, 0, none⟩) 1 1)) (w.alloc (.cells #[.int .i64 a] 2)) := by
    simp only [execOp, ho]
    go_simp
  rw [e]
  exact ⟨⟨_, _, rfl, Nat.le_refl _, by unfold maxLen; simp, lies_new5 w _ _ _ rfl⟩, (Below.refl _ _).alloc (Nat.le_refl _) _⟩
theorem soft_num2 {w : World} {ρ : Operand → Value} {o : Oper} {a b : Int} (hc : ∀ v, ρ (.const v) = v) (ho : o.op = .buildSlice 26 2 #[(0, .const (.int .i64 a)), (1, .const (.int .i64 b))]) : softUpon Try.prog w (Fact.gN [a, b]) ((execOp ρ o).run Try.prog w) := by
  have e : (execOp ρ o).run Try.prog w = .ok (.value (.slice (some ⟨w.heap.size, 0, none⟩) 2 2)) (w.alloc (.cells #[.int .i64 a, .int .i64 b] 2)) := by
    simp only [execOp, ho]
    go_simp
  rw [e]
  exact ⟨⟨_, _, rfl, Nat.le_refl _, by unfold maxLen; simp, lies_new5 w _ _ _ rfl⟩, (Below.refl _ _).alloc (Nat.le_refl _) _⟩
theorem soft_buildI {w : World} {ρ : Operand → Value} {o : Oper} {x y : Operand} {a b : Plain.It} (hx : ρ x = itV a) (hy : ρ y = itV b) (ho : o.op = .buildSlice 22 2 #[(0, x), (1, y)]) : softUpon Try.prog w (Fact.gI [a, b]) ((execOp ρ o).run Try.prog w) := by
  have e : (execOp ρ o).run Try.prog w = .ok (.value (.slice (some ⟨w.heap.size, 0, none⟩) 2 2)) (w.alloc (.cells #[.int .i64 a.id, .int .i64 a.cls, .int .i64 a.tick, .int .i64 a.cost, .bool a.pin, .int .i64 b.id, .int .i64 b.cls, .int .i64 b.tick, .int .i64 b.cost, .bool b.pin] 24)) := by
    simp only [execOp, ho]
    go_simp
  rw [e]
  exact ⟨⟨_, _, rfl, Nat.le_refl _, by unfold maxLen; simp, lies_new5 w _ _ _ rfl⟩, (Below.refl _ _).alloc (Nat.le_refl _) _⟩
theorem soft_ids {w : World} {ρ : Operand → Value} {o : Oper} {x y : Operand} {ats : Array TypeId} {A : Option Addr} {n ca : Nat} {a b : List Int} {r : Bool} (hf : ∀ f, ρ (.func f) = .func (.func f) #[] #[]) (hx : ρ x = .slice A n ca) (hn : a.length = n) (hca : n ≤ ca) (hma : ca ≤ maxLen) (hA : Lies w A (nums a)) (hy : (Fact.gN b).φ (ρ y) w)
    (ho : o.op = .call { callee := .value (.func 20), args := #[x, y], argTypes := ats }) (hr : decide (a = b) = r) : softUpon Try.prog w (Fact.is (.bool r)) ((execOp ρ o).run Try.prog w) := by
  obtain ⟨B, cb, ey, h1, h2, hB⟩ := hy
  exact soft_call2 hf hx ey (sameIds_any A B n b.length ca cb a b w hn rfl hca h1 hma h2 hA hB) ho (by kernel_rfl) (fun e w' ⟨he, hb⟩ => ⟨_, he, by show _ = _; rw [hr], hb⟩)
theorem soft_same {w : World} {ρ : Operand → Value} {o : Oper} {x y : Operand} {ats : Array TypeId} {a b : List Plain.It} {r : Bool} (hf : ∀ f, ρ (.func f) = .func (.func f) #[] #[]) (hx : (Fact.gI a).φ (ρ x) w) (hy : (Fact.gI b).φ (ρ y) w)
    (ho : o.op = .call { callee := .value (.func 17), args := #[x, y], argTypes := ats }) (hr : decide (a = b) = r) : softUpon Try.prog w (Fact.is (.bool r)) ((execOp ρ o).run Try.prog w) := by
  obtain ⟨A, ca, ex, g1, g2, hA⟩ := hx
  obtain ⟨B, cb, ey, h1, h2, hB⟩ := hy
  exact soft_call2 hf ex ey (same_any A B a.length b.length ca cb a b w rfl rfl g1 h1 g2 h2 hA hB) ho (by kernel_rfl) (fun e w' ⟨he, hb⟩ => ⟨_, he, by show _ = _; rw [hr], hb⟩)
theorem soft_sort {w : World} {ρ : Operand → Value} {o : Oper} {x : Operand} {ats : Array TypeId} {A : Option Addr} {n ca : Nat} {a b : List Plain.It} (hf : ∀ f, ρ (.func f) = .func (.func f) #[] #[]) (hx : ρ x = .slice A n ca) (hn : a.length = n) (hm : n ≤ 1000) (hA : Lies w A (flatI a))
    (ho : o.op = .call { callee := .value (.func 18), args := #[x], argTypes := ats }) (hr : Plain.inOrder a = b) : softUpon Try.prog w (Fact.gI b) ((execOp ρ o).run Try.prog w) :=
  soft_call1 hf hx (osort_any A n ca a w hn hm hA) ho (by kernel_rfl) (fun e w' ⟨v, he, B, cb, hv, h1, h2, h3, h4, _⟩ => ⟨v, he, by subst hr; exact ⟨B, cb, hv, h1, h2, h3⟩, h4⟩)
theorem soft_first {w : World} {ρ : Operand → Value} {o : Oper} {x y : Operand} {ats : Array TypeId} {a b : Plain.It} {r : Bool} (hf : ∀ f, ρ (.func f) = .func (.func f) #[] #[]) (hx : ρ x = itV a) (hy : ρ y = itV b)
    (ho : o.op = .call { callee := .value (.func 15), args := #[x, y], argTypes := ats }) (hr : Plain.ilt a b = r) : softUpon Try.prog w (Fact.is (.bool r)) ((execOp ρ o).run Try.prog w) :=
  soft_call2 hf hx hy (first_any a b w) ho (by kernel_rfl) (fun e w' ⟨he, hb⟩ => ⟨_, he, by show _ = _; rw [hr], hb⟩)
theorem soft_right {w : World} {ρ : Operand → Value} {o : Oper} {x : Operand} {ats : Array TypeId} {a : Plain.It} {r : Bool} (hf : ∀ f, ρ (.func f) = .func (.func f) #[] #[]) (hx : ρ x = itV a)
    (ho : o.op = .call { callee := .value (.func 13), args := #[x], argTypes := ats }) (hr : a.right = r) : softUpon Try.prog w (Fact.is (.bool r)) ((execOp ρ o).run Try.prog w) :=
  soft_call1 hf hx (right_any a w) ho (by kernel_rfl) (fun e w' ⟨he, hb⟩ => ⟨_, he, by show _ = _; rw [hr], hb⟩)
theorem load_item {W : World} {g : Nat} {x : Plain.It} (h : Blk W g #[.int .i64 x.id, .int .i64 x.cls, .int .i64 x.tick, .int .i64 x.cost, .bool x.pin] 24) : (Instr.loadAt 24 (.pointer (some ⟨g, 0, none⟩))).run Try.prog W = .ok (itV x) W := by
  have x0 := h.cell 0
  have x1 := h.cell 1
  have x2 := h.cell 2
  have x3 := h.cell 3
  have x4 := h.cell 4
  simp at x0 x1 x2 x3 x4
  go_simp
theorem soft_loadI {w : World} {ρ : Operand → Value} {o : Oper} {x : Operand} {g : Nat} {a : Plain.It} (hx : ρ x = .pointer (some ⟨g, 0, none⟩)) (h : Blk w g #[.int .i64 a.id, .int .i64 a.cls, .int .i64 a.tick, .int .i64 a.cost, .bool a.pin] 24) (ho : o.op = .load 24 x) : softUpon Try.prog w (Fact.is (itV a)) ((execOp ρ o).run Try.prog w) :=
  soft_load hx (load_item h) ho

def ha1 : Plain.It := ⟨1, 1, 5, 10, false⟩
def hb2 : Plain.It := ⟨2, 0, 9, 20, false⟩
def hc3 : Plain.It := ⟨3, 0, 1, 30, true⟩
def hz0 : Plain.It := ⟨0, 0, 0, 0, false⟩
theorem hd_may : Plain.mayGo [ha1, hb2, hc3] = [ha1, hb2] := by decide
theorem hd_ba : Plain.ilt hb2 ha1 = true := by decide
theorem hd_aa : Plain.ilt ha1 ha1 = false := by decide
theorem hd_ra : ha1.right = true := by decide
theorem hd_rz : hz0.right = false := by decide
theorem hd_order : Plain.inOrder [ha1, hb2, hc3] = [hb2, ha1] := by
  unfold Plain.inOrder
  rw [hd_may]
  simp only [Plain.srt, List.foldl_cons, List.foldl_nil, Plain.mrg_nil_left]
  rw [Plain.mrg_yes hd_ba, Plain.mrg_nil]
theorem hd_costs : Plain.costs [ha1, hb2, hc3] = 60 := by decide
theorem hd_pins : Plain.pins [ha1, hb2, hc3] = 30 := by decide
theorem hd_v1 : (Plain.gone [ha1, hb2, hc3] 15 60).map (·.id) = [2] ∧ Plain.fits [ha1, hb2, hc3] 15 60 = true := by
  have hf : Plain.fits [ha1, hb2, hc3] 15 60 = true := by decide
  refine ⟨?_, hf⟩
  unfold Plain.gone
  rw [if_pos hf, hd_costs, hd_order]
  decide
theorem hd_v2 : (Plain.gone [ha1, hb2, hc3] 30 60).map (·.id) = [2, 1] ∧ Plain.fits [ha1, hb2, hc3] 30 60 = true := by
  have hf : Plain.fits [ha1, hb2, hc3] 30 60 = true := by decide
  refine ⟨?_, hf⟩
  unfold Plain.gone
  rw [if_pos hf, hd_costs, hd_order]
  decide
theorem hd_v3 : Plain.fits [ha1, hb2, hc3] 31 60 = false := by decide

set_option maxHeartbeats 8000000 in
theorem head_any (w : World) : Calls Try.prog 8 #[] w fun e w' => e = .returned (.bool true) ∧ Below w.heap.size w w' := by
  obtain ⟨N, hN⟩ : ∃ N, w.heap.size = N := ⟨_, rfl⟩
  obtain ⟨V, hV⟩ : ∃ V, ((((w.alloc (.cells #[.int .i64 1, .int .i64 1, .int .i64 5, .int .i64 10, .bool false] 24)).alloc (.cells #[.int .i64 2, .int .i64 0, .int .i64 9, .int .i64 20, .bool false] 24)).alloc (.cells #[.int .i64 3, .int .i64 0, .int .i64 1, .int .i64 30, .bool true] 24)).alloc (.cells #[.int .i64 1, .int .i64 1, .int .i64 5, .int .i64 10, .bool false, .int .i64 2, .int .i64 0, .int .i64 9, .int .i64 20, .bool false, .int .i64 3, .int .i64 0, .int .i64 1, .int .i64 30, .bool true] 24)) = V := ⟨_, rfl⟩
  have hB0 : Below w.heap.size w V := by rw [← hV]; exact ((((Below.refl _ w).alloc (Nat.le_refl _) _).alloc (by simp) _).alloc (by simp; omega) _).alloc (by simp; omega) _
  have hA0 : Blk V N #[.int .i64 ha1.id, .int .i64 ha1.cls, .int .i64 ha1.tick, .int .i64 ha1.cost, .bool ha1.pin] 24 := by
    rw [← hV, ← hN]
    exact (heap_alloc_old _ _ (by simp; omega)).trans ((heap_alloc_old _ _ (by simp; omega)).trans ((heap_alloc_old _ _ (by simp)).trans (heap_alloc_new w _)))
  have hA1 : Blk V (N + 1) #[.int .i64 hb2.id, .int .i64 hb2.cls, .int .i64 hb2.tick, .int .i64 hb2.cost, .bool hb2.pin] 24 := by
    rw [← hV, ← hN]
    refine (heap_alloc_old _ _ (by simp)).trans ((heap_alloc_old _ _ (by simp)).trans ?_)
    have := heap_alloc_new (w.alloc (.cells #[.int .i64 1, .int .i64 1, .int .i64 5, .int .i64 10, .bool false] 24)) (.cells #[.int .i64 2, .int .i64 0, .int .i64 9, .int .i64 20, .bool false] 24)
    rw [World.size_alloc] at this
    exact this
  have hL0 : Lies V (some ⟨N + 3, 0, none⟩) (flatI [ha1, hb2, hc3]) := by
    rw [← hV, ← hN]
    have := lies_new5 (((w.alloc (.cells #[.int .i64 1, .int .i64 1, .int .i64 5, .int .i64 10, .bool false] 24)).alloc (.cells #[.int .i64 2, .int .i64 0, .int .i64 9, .int .i64 20, .bool false] 24)).alloc (.cells #[.int .i64 3, .int .i64 0, .int .i64 1, .int .i64 30, .bool true] 24)) #[.int .i64 1, .int .i64 1, .int .i64 5, .int .i64 10, .bool false, .int .i64 2, .int .i64 0, .int .i64 9, .int .i64 20, .bool false, .int .i64 3, .int .i64 0, .int .i64 1, .int .i64 30, .bool true] 24 (flatI [ha1, hb2, hc3]) rfl
    rw [World.size_alloc, World.size_alloc, World.size_alloc] at this
    exact this
  have HV1 := Lib.hid (fun (W : World) (h : Below V.heap.size V W) => victims_any (some ⟨N + 3, 0, none⟩) 3 3 [ha1, hb2, hc3] 15 60 W rfl (by decide) (hL0.below h))
  have HV2 := Lib.hid (fun (W : World) (h : Below V.heap.size V W) => victims_any (some ⟨N + 3, 0, none⟩) 3 3 [ha1, hb2, hc3] 30 60 W rfl (by decide) (hL0.below h))
  have HV3 := Lib.hid (fun (W : World) (h : Below V.heap.size V W) => victims_no (some ⟨N + 3, 0, none⟩) 3 3 [ha1, hb2, hc3] 31 60 W rfl (by decide) (hL0.below h) hd_v3)
  have HC := Lib.hid (fun (W : World) (h : Below V.heap.size V W) => cost_any (some ⟨N + 3, 0, none⟩) 3 3 [ha1, hb2, hc3] W rfl (by decide) (hL0.below h))
  rw [hd_v1.1, hd_v1.2] at HV1
  rw [hd_v2.1, hd_v2.2] at HV2
  rw [hd_costs, hd_pins] at HC
  have HB0 := Lib.hid hB0
  have HXA0 := Lib.hid hA0
  have HXB0 := Lib.hid hA1
  have HL0 := Lib.hid hL0
  have HVV := Lib.hid hV
  have HN := Lib.hid hN
  clear hV hB0 hA0 hA1 hL0 hN
  go_enter Try.func8, Try.ntmps8
  go_wp2_with fail
  rw [HVV.out, HN.out]
  refine (HV1.out _ (Below.refl _ _)).mono ?_
  rintro e w1 ⟨v5, rfl, A5, c5, rfl, hl5, hm5, hL5, d1⟩
  have HL5a := Lib.hid hL5
  clear hL5
  simp only [List.length_cons, List.length_nil, Nat.zero_add] at hl5 ⊢
  go_wp2_with fail
  refine (HV2.out _ d1).mono ?_
  rintro e w2 ⟨v7, rfl, A7, c7, rfl, hl7, hm7, hL7, d2⟩
  have HL7a := Lib.hid hL7
  clear hL7
  have e2 := d1.trans (d2.mono d1.size)
  simp only [List.length_cons, List.length_nil, Nat.zero_add, Nat.reduceAdd] at hl7 ⊢
  go_wp2_with fail
  refine (HV3.out _ e2).mono ?_
  rintro e w3 ⟨rfl, d3⟩
  have e3 := e2.trans (d3.mono e2.size)
  go_wp2_with fail
  refine (HC.out _ e3).mono ?_
  rintro e w4 ⟨rfl, d4⟩
  have e4 := e3.trans (d4.mono e3.size)
  have hdr : ∀ W, Below w4.drew.heap.size w4.drew W → Below w4.heap.size w4 W := fun W h => ⟨h.os, h.tape, h.output, h.size, h.block⟩
  have HXA := Lib.hid (fun (W : World) (h : Below w4.drew.heap.size w4.drew W) => (Kept.of (hdr W h) []).blk ((Kept.of e4 []).blk HXA0.out (by simp)) (by simp))
  have HXB := Lib.hid (fun (W : World) (h : Below w4.drew.heap.size w4.drew W) => (Kept.of (hdr W h) []).blk ((Kept.of e4 []).blk HXB0.out (by simp)) (by simp))
  have HLL := Lib.hid (fun (W : World) (h : Below w4.drew.heap.size w4.drew W) => (HL0.out.below e4).below (hdr W h))
  have HL5 := Lib.hid (fun (W : World) (h : Below w4.drew.heap.size w4.drew W) => (((HL5a.out.below d2).below d3).below d4).below (hdr W h))
  have HL7 := Lib.hid (fun (W : World) (h : Below w4.drew.heap.size w4.drew W) => ((HL7a.out.below d3).below d4).below (hdr W h))
  have HE := Lib.hid (fun (W : World) (h : Below w4.drew.heap.size w4.drew W) => HB0.out.trans ((e4.trans ((hdr W h).mono e4.size)).mono HB0.out.size))
  clear HV1 HV2 HV3 HC HL5a HL7a HXA0 HXB0 HL0 hdr d1 d2 d3 d4 e2 e3 e4 HVV
  go_wp2_with fail
  refine wp_soft (by kernel_rfl) 94 [(40, [5]), (41, []), (42, [40, 41]), (43, [42]), (44, [6, 43]), (45, [43, 44]), (46, [45]), (47, [7, 46]), (48, [46]), (49, [47, 48, 46]), (50, [46, 49]), (51, [50]), (52, [8, 51]), (53, [51, 52]), (54, [53]), (55, [10, 54]), (56, [55, 54]), (57, [54, 56]), (58, [57]), (59, [11, 58]), (60, [59, 58]), (61, [58, 60]), (62, [61]), (63, [12, 62]), (64, [63, 62]), (65, [62, 64]), (66, [65]), (67, [4, 66]), (68, [67, 66]), (69, [2, 66]), (70, [1, 66]), (71, [69, 70, 66]), (72, [68, 71, 66]), (73, [66, 72]), (74, [73]), (75, [2, 74]), (76, [1, 74]), (77, [75, 76, 74]), (78, [74, 77]), (79, [78]), (80, [1, 79]), (81, [1, 79]), (82, [80, 81, 79]), (83, [82, 79]), (84, [79, 83]), (85, [84]), (86, [1, 85]), (87, [86, 85]), (88, [85, 87]), (89, [88]), (90, [89]), (91, [90, 89]), (92, [91, 89]), (93, [89, 92]), (0, [93])]
    [Fact.is (.slice A5 1 c5), Fact.gN [2], Fact.is (.bool true), Fact.is (.bool true), Fact.is (.bool true), Fact.is (.bool true), Fact.is (.bool true), Fact.is (.slice A7 2 c7), Fact.gN [2, 1], Fact.is (.bool true), Fact.is (.bool true), Fact.is (.bool true), Fact.is (.bool true), Fact.is (.bool true), Fact.is (.bool true), Fact.is (.bool false), Fact.is (.bool true), Fact.is (.bool true), Fact.is (.bool true), Fact.is (.int .i64 60), Fact.is (.bool true), Fact.is (.bool true), Fact.is (.bool true), Fact.is (.int .i64 30), Fact.is (.bool true), Fact.is (.bool true), Fact.is (.bool true), Fact.is (.slice (some ⟨N + 3, 0, none⟩) 3 3), Fact.gI [hb2, ha1], Fact.is (itV hb2), Fact.is (itV ha1), Fact.gI [hb2, ha1], Fact.is (.bool true), Fact.is (.bool true), Fact.is (.bool true), Fact.is (itV hb2), Fact.is (itV ha1), Fact.is (.bool true), Fact.is (.bool true), Fact.is (.bool true), Fact.is (itV ha1), Fact.is (itV ha1), Fact.is (.bool false), Fact.is (.bool true), Fact.is (.bool true), Fact.is (.bool true), Fact.is (itV ha1), Fact.is (.bool true), Fact.is (.bool true), Fact.is (.bool true), Fact.is (itV hz0), Fact.is (.bool false), Fact.is (.bool true), Fact.is (.bool true), Fact.is (.bool true)]
    (by kernel_rfl) rfl rfl ⟨?s0, ?s1, ?s2, ?s3, ?s4, ?s5, ?s6, ?s7, ?s8, ?s9, ?s10, ?s11, ?s12, ?s13, ?s14, ?s15, ?s16, ?s17, ?s18, ?s19, ?s20, ?s21, ?s22, ?s23, ?s24, ?s25, ?s26, ?s27, ?s28, ?s29, ?s30, ?s31, ?s32, ?s33, ?s34, ?s35, ?s36, ?s37, ?s38, ?s39, ?s40, ?s41, ?s42, ?s43, ?s44, ?s45, ?s46, ?s47, ?s48, ?s49, ?s50, ?s51, ?s52, ?s53, ?s54, trivial⟩ ?fin
  case s0 =>
    intro ρ W hb hc hf hr
    obtain ⟨r5, -⟩ := hr
    have e5 : ρ (.tmp 5) = .slice A5 1 c5 := r5
    clear r5
    refine under_none rfl ?_
    exact ⟨e5, Below.refl _ _⟩
  case s1 =>
    intro ρ W hb hc hf hr
    clear hr
    refine under_none rfl ?_
    exact soft_num1 hc rfl
  case s2 =>
    intro ρ W hb hc hf hr
    obtain ⟨r40, r41, -⟩ := hr
    have e40 : ρ (.tmp 40) = .slice A5 1 c5 := r40
    clear r40
    refine under_none rfl ?_
    exact soft_ids hf e40 rfl hl5 hm5 (HL5.out W hb) r41 rfl (by decide)
  case s3 =>
    intro ρ W hb hc hf hr
    obtain ⟨r42, -⟩ := hr
    have e42 : ρ (.tmp 42) = .bool true := r42
    clear r42
    refine under_none rfl ?_
    exact ⟨e42, Below.refl _ _⟩
  case s4 =>
    intro ρ W hb hc hf hr
    obtain ⟨r6, r43, -⟩ := hr
    have e6 : ρ (.tmp 6) = .bool true := r6
    clear r6
    have e43 : ρ (.tmp 43) = .bool true := r43
    clear r43
    refine ⟨43, rfl, .inl ⟨e43, ?_⟩⟩
    exact ⟨e6, Below.refl _ _⟩
  case s5 =>
    intro ρ W hb hc hf hr
    obtain ⟨r43, r44, -⟩ := hr
    have e43 : ρ (.tmp 43) = .bool true := r43
    clear r43
    have e44 : ρ (.tmp 44) = .bool true := r44
    clear r44
    refine under_none rfl ?_
    simp [execOp, e43, e44, go_sem, softUpon, Fact.is, Below.refl]
  case s6 =>
    intro ρ W hb hc hf hr
    obtain ⟨r45, -⟩ := hr
    have e45 : ρ (.tmp 45) = .bool true := r45
    clear r45
    refine under_none rfl ?_
    exact ⟨e45, Below.refl _ _⟩
  case s7 =>
    intro ρ W hb hc hf hr
    obtain ⟨r7, r46, -⟩ := hr
    have e7 : ρ (.tmp 7) = .slice A7 2 c7 := r7
    clear r7
    have e46 : ρ (.tmp 46) = .bool true := r46
    clear r46
    refine ⟨46, rfl, .inl ⟨e46, ?_⟩⟩
    exact ⟨e7, Below.refl _ _⟩
  case s8 =>
    intro ρ W hb hc hf hr
    obtain ⟨r46, -⟩ := hr
    have e46 : ρ (.tmp 46) = .bool true := r46
    clear r46
    refine ⟨46, rfl, .inl ⟨e46, ?_⟩⟩
    exact soft_num2 hc rfl
  case s9 =>
    intro ρ W hb hc hf hr
    obtain ⟨r47, r48, r46, -⟩ := hr
    have e47 : ρ (.tmp 47) = .slice A7 2 c7 := r47
    clear r47
    have e46 : ρ (.tmp 46) = .bool true := r46
    clear r46
    refine ⟨46, rfl, .inl ⟨e46, ?_⟩⟩
    exact soft_ids hf e47 rfl hl7 hm7 (HL7.out W hb) r48 rfl (by decide)
  case s10 =>
    intro ρ W hb hc hf hr
    obtain ⟨r46, r49, -⟩ := hr
    have e46 : ρ (.tmp 46) = .bool true := r46
    clear r46
    have e49 : ρ (.tmp 49) = .bool true := r49
    clear r49
    refine under_none rfl ?_
    simp [execOp, e46, e49, go_sem, softUpon, Fact.is, Below.refl]
  case s11 =>
    intro ρ W hb hc hf hr
    obtain ⟨r50, -⟩ := hr
    have e50 : ρ (.tmp 50) = .bool true := r50
    clear r50
    refine under_none rfl ?_
    exact ⟨e50, Below.refl _ _⟩
  case s12 =>
    intro ρ W hb hc hf hr
    obtain ⟨r8, r51, -⟩ := hr
    have e8 : ρ (.tmp 8) = .bool true := r8
    clear r8
    have e51 : ρ (.tmp 51) = .bool true := r51
    clear r51
    refine ⟨51, rfl, .inl ⟨e51, ?_⟩⟩
    exact ⟨e8, Below.refl _ _⟩
  case s13 =>
    intro ρ W hb hc hf hr
    obtain ⟨r51, r52, -⟩ := hr
    have e51 : ρ (.tmp 51) = .bool true := r51
    clear r51
    have e52 : ρ (.tmp 52) = .bool true := r52
    clear r52
    refine under_none rfl ?_
    simp [execOp, e51, e52, go_sem, softUpon, Fact.is, Below.refl]
  case s14 =>
    intro ρ W hb hc hf hr
    obtain ⟨r53, -⟩ := hr
    have e53 : ρ (.tmp 53) = .bool true := r53
    clear r53
    refine under_none rfl ?_
    exact ⟨e53, Below.refl _ _⟩
  case s15 =>
    intro ρ W hb hc hf hr
    obtain ⟨r10, r54, -⟩ := hr
    have e10 : ρ (.tmp 10) = .bool false := r10
    clear r10
    have e54 : ρ (.tmp 54) = .bool true := r54
    clear r54
    refine ⟨54, rfl, .inl ⟨e54, ?_⟩⟩
    exact ⟨e10, Below.refl _ _⟩
  case s16 =>
    intro ρ W hb hc hf hr
    obtain ⟨r55, r54, -⟩ := hr
    have e55 : ρ (.tmp 55) = .bool false := r55
    clear r55
    have e54 : ρ (.tmp 54) = .bool true := r54
    clear r54
    refine ⟨54, rfl, .inl ⟨e54, ?_⟩⟩
    simp [execOp, e55, go_sem, softUpon, Fact.is, Below.refl]
  case s17 =>
    intro ρ W hb hc hf hr
    obtain ⟨r54, r56, -⟩ := hr
    have e54 : ρ (.tmp 54) = .bool true := r54
    clear r54
    have e56 : ρ (.tmp 56) = .bool true := r56
    clear r56
    refine under_none rfl ?_
    simp [execOp, e54, e56, go_sem, softUpon, Fact.is, Below.refl]
  case s18 =>
    intro ρ W hb hc hf hr
    obtain ⟨r57, -⟩ := hr
    have e57 : ρ (.tmp 57) = .bool true := r57
    clear r57
    refine under_none rfl ?_
    exact ⟨e57, Below.refl _ _⟩
  case s19 =>
    intro ρ W hb hc hf hr
    obtain ⟨r11, r58, -⟩ := hr
    have e11 : ρ (.tmp 11) = .int .i64 60 := r11
    clear r11
    have e58 : ρ (.tmp 58) = .bool true := r58
    clear r58
    refine ⟨58, rfl, .inl ⟨e58, ?_⟩⟩
    exact ⟨e11, Below.refl _ _⟩
  case s20 =>
    intro ρ W hb hc hf hr
    obtain ⟨r59, r58, -⟩ := hr
    have e59 : ρ (.tmp 59) = .int .i64 60 := r59
    clear r59
    have e58 : ρ (.tmp 58) = .bool true := r58
    clear r58
    refine ⟨58, rfl, .inl ⟨e58, ?_⟩⟩
    simp [execOp, e59, hc, go_sem, softUpon, Fact.is, Below.refl]
  case s21 =>
    intro ρ W hb hc hf hr
    obtain ⟨r58, r60, -⟩ := hr
    have e58 : ρ (.tmp 58) = .bool true := r58
    clear r58
    have e60 : ρ (.tmp 60) = .bool true := r60
    clear r60
    refine under_none rfl ?_
    simp [execOp, e58, e60, go_sem, softUpon, Fact.is, Below.refl]
  case s22 =>
    intro ρ W hb hc hf hr
    obtain ⟨r61, -⟩ := hr
    have e61 : ρ (.tmp 61) = .bool true := r61
    clear r61
    refine under_none rfl ?_
    exact ⟨e61, Below.refl _ _⟩
  case s23 =>
    intro ρ W hb hc hf hr
    obtain ⟨r12, r62, -⟩ := hr
    have e12 : ρ (.tmp 12) = .int .i64 30 := r12
    clear r12
    have e62 : ρ (.tmp 62) = .bool true := r62
    clear r62
    refine ⟨62, rfl, .inl ⟨e62, ?_⟩⟩
    exact ⟨e12, Below.refl _ _⟩
  case s24 =>
    intro ρ W hb hc hf hr
    obtain ⟨r63, r62, -⟩ := hr
    have e63 : ρ (.tmp 63) = .int .i64 30 := r63
    clear r63
    have e62 : ρ (.tmp 62) = .bool true := r62
    clear r62
    refine ⟨62, rfl, .inl ⟨e62, ?_⟩⟩
    simp [execOp, e63, hc, go_sem, softUpon, Fact.is, Below.refl]
  case s25 =>
    intro ρ W hb hc hf hr
    obtain ⟨r62, r64, -⟩ := hr
    have e62 : ρ (.tmp 62) = .bool true := r62
    clear r62
    have e64 : ρ (.tmp 64) = .bool true := r64
    clear r64
    refine under_none rfl ?_
    simp [execOp, e62, e64, go_sem, softUpon, Fact.is, Below.refl]
  case s26 =>
    intro ρ W hb hc hf hr
    obtain ⟨r65, -⟩ := hr
    have e65 : ρ (.tmp 65) = .bool true := r65
    clear r65
    refine under_none rfl ?_
    exact ⟨e65, Below.refl _ _⟩
  case s27 =>
    intro ρ W hb hc hf hr
    obtain ⟨r4, r66, -⟩ := hr
    have e4 : ρ (.tmp 4) = .slice (some ⟨N + 3, 0, none⟩) 3 3 := r4
    clear r4
    have e66 : ρ (.tmp 66) = .bool true := r66
    clear r66
    refine ⟨66, rfl, .inl ⟨e66, ?_⟩⟩
    exact ⟨e4, Below.refl _ _⟩
  case s28 =>
    intro ρ W hb hc hf hr
    obtain ⟨r67, r66, -⟩ := hr
    have e67 : ρ (.tmp 67) = .slice (some ⟨N + 3, 0, none⟩) 3 3 := r67
    clear r67
    have e66 : ρ (.tmp 66) = .bool true := r66
    clear r66
    refine ⟨66, rfl, .inl ⟨e66, ?_⟩⟩
    exact soft_sort hf e67 rfl (by decide) (HLL.out W hb) rfl hd_order
  case s29 =>
    intro ρ W hb hc hf hr
    obtain ⟨r2, r66, -⟩ := hr
    have e2 : ρ (.tmp 2) = .pointer (some ⟨N + 1, 0, none⟩) := r2
    clear r2
    have e66 : ρ (.tmp 66) = .bool true := r66
    clear r66
    refine ⟨66, rfl, .inl ⟨e66, ?_⟩⟩
    exact soft_loadI e2 (HXB.out W hb) rfl
  case s30 =>
    intro ρ W hb hc hf hr
    obtain ⟨r1, r66, -⟩ := hr
    have e1 : ρ (.tmp 1) = .pointer (some ⟨N, 0, none⟩) := r1
    clear r1
    have e66 : ρ (.tmp 66) = .bool true := r66
    clear r66
    refine ⟨66, rfl, .inl ⟨e66, ?_⟩⟩
    exact soft_loadI e1 (HXA.out W hb) rfl
  case s31 =>
    intro ρ W hb hc hf hr
    obtain ⟨r69, r70, r66, -⟩ := hr
    have e69 : ρ (.tmp 69) = itV hb2 := r69
    clear r69
    have e70 : ρ (.tmp 70) = itV ha1 := r70
    clear r70
    have e66 : ρ (.tmp 66) = .bool true := r66
    clear r66
    refine ⟨66, rfl, .inl ⟨e66, ?_⟩⟩
    exact soft_buildI e69 e70 rfl
  case s32 =>
    intro ρ W hb hc hf hr
    obtain ⟨r68, r71, r66, -⟩ := hr
    have e66 : ρ (.tmp 66) = .bool true := r66
    clear r66
    refine ⟨66, rfl, .inl ⟨e66, ?_⟩⟩
    exact soft_same hf r68 r71 rfl (by simp)
  case s33 =>
    intro ρ W hb hc hf hr
    obtain ⟨r66, r72, -⟩ := hr
    have e66 : ρ (.tmp 66) = .bool true := r66
    clear r66
    have e72 : ρ (.tmp 72) = .bool true := r72
    clear r72
    refine under_none rfl ?_
    simp [execOp, e66, e72, go_sem, softUpon, Fact.is, Below.refl]
  case s34 =>
    intro ρ W hb hc hf hr
    obtain ⟨r73, -⟩ := hr
    have e73 : ρ (.tmp 73) = .bool true := r73
    clear r73
    refine under_none rfl ?_
    exact ⟨e73, Below.refl _ _⟩
  case s35 =>
    intro ρ W hb hc hf hr
    obtain ⟨r2, r74, -⟩ := hr
    have e2 : ρ (.tmp 2) = .pointer (some ⟨N + 1, 0, none⟩) := r2
    clear r2
    have e74 : ρ (.tmp 74) = .bool true := r74
    clear r74
    refine ⟨74, rfl, .inl ⟨e74, ?_⟩⟩
    exact soft_loadI e2 (HXB.out W hb) rfl
  case s36 =>
    intro ρ W hb hc hf hr
    obtain ⟨r1, r74, -⟩ := hr
    have e1 : ρ (.tmp 1) = .pointer (some ⟨N, 0, none⟩) := r1
    clear r1
    have e74 : ρ (.tmp 74) = .bool true := r74
    clear r74
    refine ⟨74, rfl, .inl ⟨e74, ?_⟩⟩
    exact soft_loadI e1 (HXA.out W hb) rfl
  case s37 =>
    intro ρ W hb hc hf hr
    obtain ⟨r75, r76, r74, -⟩ := hr
    have e75 : ρ (.tmp 75) = itV hb2 := r75
    clear r75
    have e76 : ρ (.tmp 76) = itV ha1 := r76
    clear r76
    have e74 : ρ (.tmp 74) = .bool true := r74
    clear r74
    refine ⟨74, rfl, .inl ⟨e74, ?_⟩⟩
    exact soft_first hf e75 e76 rfl hd_ba
  case s38 =>
    intro ρ W hb hc hf hr
    obtain ⟨r74, r77, -⟩ := hr
    have e74 : ρ (.tmp 74) = .bool true := r74
    clear r74
    have e77 : ρ (.tmp 77) = .bool true := r77
    clear r77
    refine under_none rfl ?_
    simp [execOp, e74, e77, go_sem, softUpon, Fact.is, Below.refl]
  case s39 =>
    intro ρ W hb hc hf hr
    obtain ⟨r78, -⟩ := hr
    have e78 : ρ (.tmp 78) = .bool true := r78
    clear r78
    refine under_none rfl ?_
    exact ⟨e78, Below.refl _ _⟩
  case s40 =>
    intro ρ W hb hc hf hr
    obtain ⟨r1, r79, -⟩ := hr
    have e1 : ρ (.tmp 1) = .pointer (some ⟨N, 0, none⟩) := r1
    clear r1
    have e79 : ρ (.tmp 79) = .bool true := r79
    clear r79
    refine ⟨79, rfl, .inl ⟨e79, ?_⟩⟩
    exact soft_loadI e1 (HXA.out W hb) rfl
  case s41 =>
    intro ρ W hb hc hf hr
    obtain ⟨r1, r79, -⟩ := hr
    have e1 : ρ (.tmp 1) = .pointer (some ⟨N, 0, none⟩) := r1
    clear r1
    have e79 : ρ (.tmp 79) = .bool true := r79
    clear r79
    refine ⟨79, rfl, .inl ⟨e79, ?_⟩⟩
    exact soft_loadI e1 (HXA.out W hb) rfl
  case s42 =>
    intro ρ W hb hc hf hr
    obtain ⟨r80, r81, r79, -⟩ := hr
    have e80 : ρ (.tmp 80) = itV ha1 := r80
    clear r80
    have e81 : ρ (.tmp 81) = itV ha1 := r81
    clear r81
    have e79 : ρ (.tmp 79) = .bool true := r79
    clear r79
    refine ⟨79, rfl, .inl ⟨e79, ?_⟩⟩
    exact soft_first hf e80 e81 rfl hd_aa
  case s43 =>
    intro ρ W hb hc hf hr
    obtain ⟨r82, r79, -⟩ := hr
    have e82 : ρ (.tmp 82) = .bool false := r82
    clear r82
    have e79 : ρ (.tmp 79) = .bool true := r79
    clear r79
    refine ⟨79, rfl, .inl ⟨e79, ?_⟩⟩
    simp [execOp, e82, go_sem, softUpon, Fact.is, Below.refl]
  case s44 =>
    intro ρ W hb hc hf hr
    obtain ⟨r79, r83, -⟩ := hr
    have e79 : ρ (.tmp 79) = .bool true := r79
    clear r79
    have e83 : ρ (.tmp 83) = .bool true := r83
    clear r83
    refine under_none rfl ?_
    simp [execOp, e79, e83, go_sem, softUpon, Fact.is, Below.refl]
  case s45 =>
    intro ρ W hb hc hf hr
    obtain ⟨r84, -⟩ := hr
    have e84 : ρ (.tmp 84) = .bool true := r84
    clear r84
    refine under_none rfl ?_
    exact ⟨e84, Below.refl _ _⟩
  case s46 =>
    intro ρ W hb hc hf hr
    obtain ⟨r1, r85, -⟩ := hr
    have e1 : ρ (.tmp 1) = .pointer (some ⟨N, 0, none⟩) := r1
    clear r1
    have e85 : ρ (.tmp 85) = .bool true := r85
    clear r85
    refine ⟨85, rfl, .inl ⟨e85, ?_⟩⟩
    exact soft_loadI e1 (HXA.out W hb) rfl
  case s47 =>
    intro ρ W hb hc hf hr
    obtain ⟨r86, r85, -⟩ := hr
    have e86 : ρ (.tmp 86) = itV ha1 := r86
    clear r86
    have e85 : ρ (.tmp 85) = .bool true := r85
    clear r85
    refine ⟨85, rfl, .inl ⟨e85, ?_⟩⟩
    exact soft_right hf e86 rfl hd_ra
  case s48 =>
    intro ρ W hb hc hf hr
    obtain ⟨r85, r87, -⟩ := hr
    have e85 : ρ (.tmp 85) = .bool true := r85
    clear r85
    have e87 : ρ (.tmp 87) = .bool true := r87
    clear r87
    refine under_none rfl ?_
    simp [execOp, e85, e87, go_sem, softUpon, Fact.is, Below.refl]
  case s49 =>
    intro ρ W hb hc hf hr
    obtain ⟨r88, -⟩ := hr
    have e88 : ρ (.tmp 88) = .bool true := r88
    clear r88
    refine under_none rfl ?_
    exact ⟨e88, Below.refl _ _⟩
  case s50 =>
    intro ρ W hb hc hf hr
    obtain ⟨r89, -⟩ := hr
    have e89 : ρ (.tmp 89) = .bool true := r89
    clear r89
    refine ⟨89, rfl, .inl ⟨e89, ?_⟩⟩
    simp [execOp, go_sem, softUpon, Fact.is, Below.refl, hz0]
  case s51 =>
    intro ρ W hb hc hf hr
    obtain ⟨r90, r89, -⟩ := hr
    have e90 : ρ (.tmp 90) = itV hz0 := r90
    clear r90
    have e89 : ρ (.tmp 89) = .bool true := r89
    clear r89
    refine ⟨89, rfl, .inl ⟨e89, ?_⟩⟩
    exact soft_right hf e90 rfl hd_rz
  case s52 =>
    intro ρ W hb hc hf hr
    obtain ⟨r91, r89, -⟩ := hr
    have e91 : ρ (.tmp 91) = .bool false := r91
    clear r91
    have e89 : ρ (.tmp 89) = .bool true := r89
    clear r89
    refine ⟨89, rfl, .inl ⟨e89, ?_⟩⟩
    simp [execOp, e91, go_sem, softUpon, Fact.is, Below.refl]
  case s53 =>
    intro ρ W hb hc hf hr
    obtain ⟨r89, r92, -⟩ := hr
    have e89 : ρ (.tmp 89) = .bool true := r89
    clear r89
    have e92 : ρ (.tmp 92) = .bool true := r92
    clear r92
    refine under_none rfl ?_
    simp [execOp, e89, e92, go_sem, softUpon, Fact.is, Below.refl]
  case s54 =>
    intro ρ W hb hc hf hr
    obtain ⟨r93, -⟩ := hr
    have e93 : ρ (.tmp 93) = .bool true := r93
    clear r93
    refine under_none rfl ?_
    exact ⟨e93, Below.refl _ _⟩
  case fin =>
    intro a w1 hb hd hk
    have k0 : a.tmps.getD 0 undef = .bool true := hk 0
    go_wp2
    refine bodyPost_ret (results_tmp rfl _ _ _) hd ?_
    exact ⟨congrArg Ending.returned k0, HE.out _ hb⟩
end Go.Proofs.Ytkhlgjkbkpbhiaa

