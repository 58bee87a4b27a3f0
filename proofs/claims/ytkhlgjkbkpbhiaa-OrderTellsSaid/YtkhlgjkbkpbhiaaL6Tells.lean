/-
  P6.1, OrderTells: for all items, and all numbers in and budget, the law returns true: whether any two are right, which is first, the order of any, what they cost, and which are to go, are the document's. No condition.
-/
import Derived.Test.YtkhlgjkbkpbhiaaRv6
namespace Go.Proofs.Ytkhlgjkbkpbhiaa.orderTells
open Go.ChangeShapes Go.WideShapes Go.ChangeAt Go.RowKit
set_option maxRecDepth 100000

theorem soft_rright {w : World} {ρ : Operand → Value} {o : Oper} {x : Operand} {ats : Array TypeId} {a : Plain.It} {r : Bool} (hf : ∀ f, ρ (.func f) = .func (.func f) #[] #[]) (hx : ρ x = itV a)
    (ho : o.op = .call { callee := .value (.func 14), args := #[x], argTypes := ats }) (hr : a.right = r) : softUpon Try.prog w (Fact.is (.bool r)) ((execOp ρ o).run Try.prog w) :=
  soft_call1 hf hx (rright_any a w) ho (by kernel_rfl) (fun e w' ⟨he, hb⟩ => ⟨_, he, by show _ = _; rw [hr], hb⟩)
theorem soft_rfirst {w : World} {ρ : Operand → Value} {o : Oper} {x y : Operand} {ats : Array TypeId} {a b : Plain.It} {r : Bool} (hf : ∀ f, ρ (.func f) = .func (.func f) #[] #[]) (hx : ρ x = itV a) (hy : ρ y = itV b)
    (ho : o.op = .call { callee := .value (.func 16), args := #[x, y], argTypes := ats }) (hr : Plain.ilt a b = r) : softUpon Try.prog w (Fact.is (.bool r)) ((execOp ρ o).run Try.prog w) :=
  soft_call2 hf hx hy (rfirst_any a b w) ho (by kernel_rfl) (fun e w' ⟨he, hb⟩ => ⟨_, he, by show _ = _; rw [hr], hb⟩)
theorem soft_rsort {w : World} {ρ : Operand → Value} {o : Oper} {x : Operand} {ats : Array TypeId} {A : Option Addr} {n ca : Nat} {a b : List Plain.It} (hf : ∀ f, ρ (.func f) = .func (.func f) #[] #[]) (hx : ρ x = .slice A n ca) (hn : a.length = n) (hm : n ≤ 300) (hA : Lies w A (flatI a))
    (ho : o.op = .call { callee := .value (.func 19), args := #[x], argTypes := ats }) (hr : Plain.inOrder a = b) : softUpon Try.prog w (Fact.gI b) ((execOp ρ o).run Try.prog w) :=
  soft_call1 hf hx (rsort_any A n ca a w hn hm hA) ho (by kernel_rfl) (fun e w' ⟨v, he, B, cb, hv, h1, h2, h3, h4, _⟩ => ⟨v, he, by subst hr; exact ⟨B, cb, hv, h1, h2, h3⟩, h4⟩)

set_option maxHeartbeats 8000000 in
theorem walk (w : World) (A : Option Addr) (cap : Nat) (l : List Plain.It) (_hl : l.length ≤ cap) (_hm : cap ≤ maxLen) (hA : Lies w A (flatI l)) (a b : Plain.It) (x : Int) (_hx : -9223372036854775808 ≤ x ∧ x ≤ 9223372036854775807) (bu : Int) (_hbu : -9223372036854775808 ≤ bu ∧ bu ≤ 9223372036854775807) :
    Calls Try.prog 3 #[.slice A l.length cap, itV a, itV b, .int .i64 x, .int .i64 bu] w fun e w' => e = .returned (.bool true) ∧ Below w.heap.size w w' := by
  obtain ⟨N, hN⟩ : ∃ N, w.heap.size = N := ⟨_, rfl⟩
  obtain ⟨n, hn⟩ : ∃ n, l.length = n := ⟨_, rfl⟩
  rw [hn]
  obtain ⟨V, hV⟩ : ∃ V, (w.alloc (.cells #[.int .i64 a.id, .int .i64 a.cls, .int .i64 a.tick, .int .i64 a.cost, .bool a.pin] 24)).alloc (.cells #[.int .i64 b.id, .int .i64 b.cls, .int .i64 b.tick, .int .i64 b.cost, .bool b.pin] 24) = V := ⟨_, rfl⟩
  have hB0 : Below w.heap.size w V := by rw [← hV]; exact ((Below.refl _ w).alloc (Nat.le_refl _) _).alloc (by simp) _
  have hA0 : Blk V N #[.int .i64 a.id, .int .i64 a.cls, .int .i64 a.tick, .int .i64 a.cost, .bool a.pin] 24 := by
    rw [← hV, ← hN]
    exact (heap_alloc_old _ _ (by simp)).trans (heap_alloc_new w _)
  have hA1 : Blk V (N + 1) #[.int .i64 b.id, .int .i64 b.cls, .int .i64 b.tick, .int .i64 b.cost, .bool b.pin] 24 := by
    rw [← hV, ← hN]
    have := heap_alloc_new (w.alloc (.cells #[.int .i64 a.id, .int .i64 a.cls, .int .i64 a.tick, .int .i64 a.cost, .bool a.pin] 24)) (.cells #[.int .i64 b.id, .int .i64 b.cls, .int .i64 b.tick, .int .i64 b.cost, .bool b.pin] 24)
    rw [World.size_alloc] at this
    exact this
  have hL0 : Lies V A (flatI l) := hA.below hB0
  have HV1 := Lib.hid (fun (h3 : n ≤ 300) (W : World) (h : Below V.heap.size V W) => victims_any A n cap l x bu W hn (by omega) (hL0.below h))
  have HV2 := Lib.hid (fun (h3 : n ≤ 300) (W : World) (h : Below V.heap.size V W) => rvictims_any A n cap l x bu W hn h3 (hL0.below h))
  have HC1 := Lib.hid (fun (h3 : n ≤ 300) (W : World) (h : Below V.heap.size V W) => cost_any A n cap l W hn (by omega) (hL0.below h))
  have HC2 := Lib.hid (fun (h3 : n ≤ 300) (W : World) (h : Below V.heap.size V W) => rcost_any A n cap l W hn (by omega) (hL0.below h))
  have HN := Lib.hid hn
  generalize Plain.fits l x bu = FT at *
  generalize (Plain.gone l x bu).map (·.id) = ga at *
  generalize Plain.costs l = CL at *
  generalize Plain.pins l = PL at *
  obtain ⟨IO, hIO⟩ : ∃ IO, Plain.inOrder l = IO := ⟨_, rfl⟩
  have HIO := Lib.hid hIO
  obtain ⟨ra, hra⟩ : ∃ ra, a.right = ra := ⟨_, rfl⟩
  obtain ⟨fab, hfab⟩ : ∃ fab, Plain.ilt a b = fab := ⟨_, rfl⟩
  have HRA := Lib.hid hra
  have HFA := Lib.hid hfab
  obtain ⟨ng, hng⟩ : ∃ ng, ga.length = ng := ⟨_, rfl⟩
  have HGA := Lib.hid hng
  have HB0 := Lib.hid hB0
  have HXA0 := Lib.hid hA0
  have HXB0 := Lib.hid hA1
  have HL0 := Lib.hid hL0
  have HVV := Lib.hid hV
  have HNN := Lib.hid hN
  clear hV hB0 hA0 hA1 hL0 hN hn hIO hra hfab hng hA
  go_enter Try.func3, Try.ntmps3
  go_wp2_with fail
  rw [HVV.out, HNN.out]
  refine (head_any V).mono ?_
  rintro e w0 ⟨rfl, c0⟩
  by_cases h300 : 300 < n
  · have hz : (300 : Int) < (n : Int) := by omega
    go_wp2
    go_ret
    exact ⟨rfl, HB0.out.trans (c0.mono HB0.out.size)⟩
  have hz : ¬ (300 : Int) < (n : Int) := by omega
  have h3 : n ≤ 300 := by omega
  go_wp2_with fail
  refine (HV1.out h3 _ c0).mono ?_
  rintro e w1 ⟨v5, rfl, A5, c5, rfl, hl5, hm5, hL5, d1⟩
  have e1 := c0.trans (d1.mono c0.size)
  have HL5a := Lib.hid hL5
  clear hL5
  rw [HGA.out] at hl5 ⊢
  go_wp2_with fail
  refine (HV2.out h3 _ e1).mono ?_
  rintro e w2 ⟨v6, rfl, A6, c6, rfl, hl6, hm6, hL6, d2⟩
  have e2 := e1.trans (d2.mono e1.size)
  have HL6a := Lib.hid hL6
  clear hL6
  rw [HGA.out] at hl6 ⊢
  go_wp2_with fail
  refine (HC1.out h3 _ e2).mono ?_
  rintro e w3 ⟨rfl, d3⟩
  have e3 := e2.trans (d3.mono e2.size)
  go_wp2_with fail
  refine (HC2.out h3 _ e3).mono ?_
  rintro e w4 ⟨rfl, d4⟩
  have e4 := e3.trans (d4.mono e3.size)
  have hdr : ∀ W, Below w4.drew.heap.size w4.drew W → Below w4.heap.size w4 W := fun W h => ⟨h.os, h.tape, h.output, h.size, h.block⟩
  have HXA := Lib.hid (fun (W : World) (h : Below w4.drew.heap.size w4.drew W) => (Kept.of (hdr W h) []).blk ((Kept.of e4 []).blk HXA0.out (by simp)) (by simp))
  have HXB := Lib.hid (fun (W : World) (h : Below w4.drew.heap.size w4.drew W) => (Kept.of (hdr W h) []).blk ((Kept.of e4 []).blk HXB0.out (by simp)) (by simp))
  have HLL := Lib.hid (fun (W : World) (h : Below w4.drew.heap.size w4.drew W) => (HL0.out.below e4).below (hdr W h))
  have HL5 := Lib.hid (fun (W : World) (h : Below w4.drew.heap.size w4.drew W) => (((HL5a.out.below d2).below d3).below d4).below (hdr W h))
  have HL6 := Lib.hid (fun (W : World) (h : Below w4.drew.heap.size w4.drew W) => ((HL6a.out.below d3).below d4).below (hdr W h))
  have HE := Lib.hid (fun (W : World) (h : Below w4.drew.heap.size w4.drew W) => HB0.out.trans ((e4.trans ((hdr W h).mono e4.size)).mono HB0.out.size))
  clear HV1 HV2 HC1 HC2 HL5a HL6a HXA0 HXB0 HL0 hdr d1 d2 d3 d4 e1 e2 e3 e4 HVV
  go_wp2_with fail
  refine wp_soft (by kernel_rfl) 93 [(49, [11]), (50, [49]), (51, [6, 50]), (52, [51, 50]), (53, [6, 50]), (54, [53, 50]), (55, [52, 54, 50]), (56, [50, 55]), (57, [56]), (58, [6, 57]), (59, [7, 57]), (60, [58, 59, 57]), (61, [6, 57]), (62, [7, 57]), (63, [61, 62, 57]), (64, [60, 63, 57]), (65, [57, 64]), (66, [65]), (67, [0, 66]), (68, [67, 66]), (69, [0, 66]), (70, [69, 66]), (71, [68, 70, 66]), (72, [66, 71]), (73, [72]), (74, [12, 73]), (75, [14, 73]), (76, [74, 75, 73]), (77, [73, 76]), (78, [77]), (79, [13, 78]), (80, [15, 78]), (81, [79, 80, 78]), (82, [78, 81]), (83, [82]), (84, [16, 83]), (85, [18, 83]), (86, [84, 85, 83]), (87, [83, 86]), (88, [87]), (89, [17, 88]), (90, [19, 88]), (91, [89, 90, 88]), (92, [88, 91]), (10, [92])]
    [Fact.is (.bool true), Fact.is (.bool true), Fact.is (itV a), Fact.is (.bool ra), Fact.is (itV a), Fact.is (.bool ra), Fact.is (.bool true), Fact.is (.bool true), Fact.is (.bool true), Fact.is (itV a), Fact.is (itV b), Fact.is (.bool fab), Fact.is (itV a), Fact.is (itV b), Fact.is (.bool fab), Fact.is (.bool true), Fact.is (.bool true), Fact.is (.bool true), Fact.is (.slice A n cap), Fact.gI IO, Fact.is (.slice A n cap), Fact.gI IO, Fact.is (.bool true), Fact.is (.bool true), Fact.is (.bool true), Fact.is (.slice A5 ng c5), Fact.is (.slice A6 ng c6), Fact.is (.bool true), Fact.is (.bool true), Fact.is (.bool true), Fact.is (.bool FT), Fact.is (.bool FT), Fact.is (.bool true), Fact.is (.bool true), Fact.is (.bool true), Fact.is (.int .i64 CL), Fact.is (.int .i64 CL), Fact.is (.bool true), Fact.is (.bool true), Fact.is (.bool true), Fact.is (.int .i64 PL), Fact.is (.int .i64 PL), Fact.is (.bool true), Fact.is (.bool true), Fact.is (.bool true)]
    (by kernel_rfl) rfl rfl ⟨?s0, ?s1, ?s2, ?s3, ?s4, ?s5, ?s6, ?s7, ?s8, ?s9, ?s10, ?s11, ?s12, ?s13, ?s14, ?s15, ?s16, ?s17, ?s18, ?s19, ?s20, ?s21, ?s22, ?s23, ?s24, ?s25, ?s26, ?s27, ?s28, ?s29, ?s30, ?s31, ?s32, ?s33, ?s34, ?s35, ?s36, ?s37, ?s38, ?s39, ?s40, ?s41, ?s42, ?s43, ?s44, trivial⟩ ?fin
  case s0 =>
    intro ρ W hb hc hf hr
    obtain ⟨r11, -⟩ := hr
    have e11 : ρ (.tmp 11) = .bool true := r11
    clear r11
    refine under_none rfl ?_
    exact ⟨e11, Below.refl _ _⟩
  case s1 =>
    intro ρ W hb hc hf hr
    obtain ⟨r49, -⟩ := hr
    have e49 : ρ (.tmp 49) = .bool true := r49
    clear r49
    refine under_none rfl ?_
    exact ⟨e49, Below.refl _ _⟩
  case s2 =>
    intro ρ W hb hc hf hr
    obtain ⟨r6, r50, -⟩ := hr
    have e6 : ρ (.tmp 6) = .pointer (some ⟨N, 0, none⟩) := r6
    clear r6
    have e50 : ρ (.tmp 50) = .bool true := r50
    clear r50
    refine ⟨50, rfl, .inl ⟨e50, ?_⟩⟩
    exact soft_loadI e6 (HXA.out W hb) rfl
  case s3 =>
    intro ρ W hb hc hf hr
    obtain ⟨r51, r50, -⟩ := hr
    have e51 : ρ (.tmp 51) = itV a := r51
    clear r51
    have e50 : ρ (.tmp 50) = .bool true := r50
    clear r50
    refine ⟨50, rfl, .inl ⟨e50, ?_⟩⟩
    exact soft_right hf e51 rfl HRA.out
  case s4 =>
    intro ρ W hb hc hf hr
    obtain ⟨r6, r50, -⟩ := hr
    have e6 : ρ (.tmp 6) = .pointer (some ⟨N, 0, none⟩) := r6
    clear r6
    have e50 : ρ (.tmp 50) = .bool true := r50
    clear r50
    refine ⟨50, rfl, .inl ⟨e50, ?_⟩⟩
    exact soft_loadI e6 (HXA.out W hb) rfl
  case s5 =>
    intro ρ W hb hc hf hr
    obtain ⟨r53, r50, -⟩ := hr
    have e53 : ρ (.tmp 53) = itV a := r53
    clear r53
    have e50 : ρ (.tmp 50) = .bool true := r50
    clear r50
    refine ⟨50, rfl, .inl ⟨e50, ?_⟩⟩
    exact soft_rright hf e53 rfl HRA.out
  case s6 =>
    intro ρ W hb hc hf hr
    obtain ⟨r52, r54, r50, -⟩ := hr
    have e52 : ρ (.tmp 52) = .bool ra := r52
    clear r52
    have e54 : ρ (.tmp 54) = .bool ra := r54
    clear r54
    have e50 : ρ (.tmp 50) = .bool true := r50
    clear r50
    refine ⟨50, rfl, .inl ⟨e50, ?_⟩⟩
    simp [execOp, e52, e54, go_sem, softUpon, Fact.is, Below.refl]
  case s7 =>
    intro ρ W hb hc hf hr
    obtain ⟨r50, r55, -⟩ := hr
    have e50 : ρ (.tmp 50) = .bool true := r50
    clear r50
    have e55 : ρ (.tmp 55) = .bool true := r55
    clear r55
    refine under_none rfl ?_
    simp [execOp, e50, e55, go_sem, softUpon, Fact.is, Below.refl]
  case s8 =>
    intro ρ W hb hc hf hr
    obtain ⟨r56, -⟩ := hr
    have e56 : ρ (.tmp 56) = .bool true := r56
    clear r56
    refine under_none rfl ?_
    exact ⟨e56, Below.refl _ _⟩
  case s9 =>
    intro ρ W hb hc hf hr
    obtain ⟨r6, r57, -⟩ := hr
    have e6 : ρ (.tmp 6) = .pointer (some ⟨N, 0, none⟩) := r6
    clear r6
    have e57 : ρ (.tmp 57) = .bool true := r57
    clear r57
    refine ⟨57, rfl, .inl ⟨e57, ?_⟩⟩
    exact soft_loadI e6 (HXA.out W hb) rfl
  case s10 =>
    intro ρ W hb hc hf hr
    obtain ⟨r7, r57, -⟩ := hr
    have e7 : ρ (.tmp 7) = .pointer (some ⟨N + 1, 0, none⟩) := r7
    clear r7
    have e57 : ρ (.tmp 57) = .bool true := r57
    clear r57
    refine ⟨57, rfl, .inl ⟨e57, ?_⟩⟩
    exact soft_loadI e7 (HXB.out W hb) rfl
  case s11 =>
    intro ρ W hb hc hf hr
    obtain ⟨r58, r59, r57, -⟩ := hr
    have e58 : ρ (.tmp 58) = itV a := r58
    clear r58
    have e59 : ρ (.tmp 59) = itV b := r59
    clear r59
    have e57 : ρ (.tmp 57) = .bool true := r57
    clear r57
    refine ⟨57, rfl, .inl ⟨e57, ?_⟩⟩
    exact soft_first hf e58 e59 rfl HFA.out
  case s12 =>
    intro ρ W hb hc hf hr
    obtain ⟨r6, r57, -⟩ := hr
    have e6 : ρ (.tmp 6) = .pointer (some ⟨N, 0, none⟩) := r6
    clear r6
    have e57 : ρ (.tmp 57) = .bool true := r57
    clear r57
    refine ⟨57, rfl, .inl ⟨e57, ?_⟩⟩
    exact soft_loadI e6 (HXA.out W hb) rfl
  case s13 =>
    intro ρ W hb hc hf hr
    obtain ⟨r7, r57, -⟩ := hr
    have e7 : ρ (.tmp 7) = .pointer (some ⟨N + 1, 0, none⟩) := r7
    clear r7
    have e57 : ρ (.tmp 57) = .bool true := r57
    clear r57
    refine ⟨57, rfl, .inl ⟨e57, ?_⟩⟩
    exact soft_loadI e7 (HXB.out W hb) rfl
  case s14 =>
    intro ρ W hb hc hf hr
    obtain ⟨r61, r62, r57, -⟩ := hr
    have e61 : ρ (.tmp 61) = itV a := r61
    clear r61
    have e62 : ρ (.tmp 62) = itV b := r62
    clear r62
    have e57 : ρ (.tmp 57) = .bool true := r57
    clear r57
    refine ⟨57, rfl, .inl ⟨e57, ?_⟩⟩
    exact soft_rfirst hf e61 e62 rfl HFA.out
  case s15 =>
    intro ρ W hb hc hf hr
    obtain ⟨r60, r63, r57, -⟩ := hr
    have e60 : ρ (.tmp 60) = .bool fab := r60
    clear r60
    have e63 : ρ (.tmp 63) = .bool fab := r63
    clear r63
    have e57 : ρ (.tmp 57) = .bool true := r57
    clear r57
    refine ⟨57, rfl, .inl ⟨e57, ?_⟩⟩
    simp [execOp, e60, e63, go_sem, softUpon, Fact.is, Below.refl]
  case s16 =>
    intro ρ W hb hc hf hr
    obtain ⟨r57, r64, -⟩ := hr
    have e57 : ρ (.tmp 57) = .bool true := r57
    clear r57
    have e64 : ρ (.tmp 64) = .bool true := r64
    clear r64
    refine under_none rfl ?_
    simp [execOp, e57, e64, go_sem, softUpon, Fact.is, Below.refl]
  case s17 =>
    intro ρ W hb hc hf hr
    obtain ⟨r65, -⟩ := hr
    have e65 : ρ (.tmp 65) = .bool true := r65
    clear r65
    refine under_none rfl ?_
    exact ⟨e65, Below.refl _ _⟩
  case s18 =>
    intro ρ W hb hc hf hr
    obtain ⟨r0, r66, -⟩ := hr
    have e0 : ρ (.tmp 0) = .slice A n cap := r0
    clear r0
    have e66 : ρ (.tmp 66) = .bool true := r66
    clear r66
    refine ⟨66, rfl, .inl ⟨e66, ?_⟩⟩
    exact ⟨e0, Below.refl _ _⟩
  case s19 =>
    intro ρ W hb hc hf hr
    obtain ⟨r67, r66, -⟩ := hr
    have e67 : ρ (.tmp 67) = .slice A n cap := r67
    clear r67
    have e66 : ρ (.tmp 66) = .bool true := r66
    clear r66
    refine ⟨66, rfl, .inl ⟨e66, ?_⟩⟩
    exact soft_sort hf e67 HN.out (by omega) (HLL.out W hb) rfl HIO.out
  case s20 =>
    intro ρ W hb hc hf hr
    obtain ⟨r0, r66, -⟩ := hr
    have e0 : ρ (.tmp 0) = .slice A n cap := r0
    clear r0
    have e66 : ρ (.tmp 66) = .bool true := r66
    clear r66
    refine ⟨66, rfl, .inl ⟨e66, ?_⟩⟩
    exact ⟨e0, Below.refl _ _⟩
  case s21 =>
    intro ρ W hb hc hf hr
    obtain ⟨r69, r66, -⟩ := hr
    have e69 : ρ (.tmp 69) = .slice A n cap := r69
    clear r69
    have e66 : ρ (.tmp 66) = .bool true := r66
    clear r66
    refine ⟨66, rfl, .inl ⟨e66, ?_⟩⟩
    exact soft_rsort hf e69 HN.out (by omega) (HLL.out W hb) rfl HIO.out
  case s22 =>
    intro ρ W hb hc hf hr
    obtain ⟨r68, r70, r66, -⟩ := hr
    have e66 : ρ (.tmp 66) = .bool true := r66
    clear r66
    refine ⟨66, rfl, .inl ⟨e66, ?_⟩⟩
    exact soft_same hf r68 r70 rfl (by simp)
  case s23 =>
    intro ρ W hb hc hf hr
    obtain ⟨r66, r71, -⟩ := hr
    have e66 : ρ (.tmp 66) = .bool true := r66
    clear r66
    have e71 : ρ (.tmp 71) = .bool true := r71
    clear r71
    refine under_none rfl ?_
    simp [execOp, e66, e71, go_sem, softUpon, Fact.is, Below.refl]
  case s24 =>
    intro ρ W hb hc hf hr
    obtain ⟨r72, -⟩ := hr
    have e72 : ρ (.tmp 72) = .bool true := r72
    clear r72
    refine under_none rfl ?_
    exact ⟨e72, Below.refl _ _⟩
  case s25 =>
    intro ρ W hb hc hf hr
    obtain ⟨r12, r73, -⟩ := hr
    have e12 : ρ (.tmp 12) = .slice A5 ng c5 := r12
    clear r12
    have e73 : ρ (.tmp 73) = .bool true := r73
    clear r73
    refine ⟨73, rfl, .inl ⟨e73, ?_⟩⟩
    exact ⟨e12, Below.refl _ _⟩
  case s26 =>
    intro ρ W hb hc hf hr
    obtain ⟨r14, r73, -⟩ := hr
    have e14 : ρ (.tmp 14) = .slice A6 ng c6 := r14
    clear r14
    have e73 : ρ (.tmp 73) = .bool true := r73
    clear r73
    refine ⟨73, rfl, .inl ⟨e73, ?_⟩⟩
    exact ⟨e14, Below.refl _ _⟩
  case s27 =>
    intro ρ W hb hc hf hr
    obtain ⟨r74, r75, r73, -⟩ := hr
    have e74 : ρ (.tmp 74) = .slice A5 ng c5 := r74
    clear r74
    have e75 : ρ (.tmp 75) = .slice A6 ng c6 := r75
    clear r75
    have e73 : ρ (.tmp 73) = .bool true := r73
    clear r73
    refine ⟨73, rfl, .inl ⟨e73, ?_⟩⟩
    exact soft_ids hf e74 HGA.out hl5 hm5 (HL5.out W hb) ⟨A6, c6, by rw [e75, HGA.out], by rw [HGA.out]; exact hl6, hm6, HL6.out W hb⟩ rfl (by simp)
  case s28 =>
    intro ρ W hb hc hf hr
    obtain ⟨r73, r76, -⟩ := hr
    have e73 : ρ (.tmp 73) = .bool true := r73
    clear r73
    have e76 : ρ (.tmp 76) = .bool true := r76
    clear r76
    refine under_none rfl ?_
    simp [execOp, e73, e76, go_sem, softUpon, Fact.is, Below.refl]
  case s29 =>
    intro ρ W hb hc hf hr
    obtain ⟨r77, -⟩ := hr
    have e77 : ρ (.tmp 77) = .bool true := r77
    clear r77
    refine under_none rfl ?_
    exact ⟨e77, Below.refl _ _⟩
  case s30 =>
    intro ρ W hb hc hf hr
    obtain ⟨r13, r78, -⟩ := hr
    have e13 : ρ (.tmp 13) = .bool FT := r13
    clear r13
    have e78 : ρ (.tmp 78) = .bool true := r78
    clear r78
    refine ⟨78, rfl, .inl ⟨e78, ?_⟩⟩
    exact ⟨e13, Below.refl _ _⟩
  case s31 =>
    intro ρ W hb hc hf hr
    obtain ⟨r15, r78, -⟩ := hr
    have e15 : ρ (.tmp 15) = .bool FT := r15
    clear r15
    have e78 : ρ (.tmp 78) = .bool true := r78
    clear r78
    refine ⟨78, rfl, .inl ⟨e78, ?_⟩⟩
    exact ⟨e15, Below.refl _ _⟩
  case s32 =>
    intro ρ W hb hc hf hr
    obtain ⟨r79, r80, r78, -⟩ := hr
    have e79 : ρ (.tmp 79) = .bool FT := r79
    clear r79
    have e80 : ρ (.tmp 80) = .bool FT := r80
    clear r80
    have e78 : ρ (.tmp 78) = .bool true := r78
    clear r78
    refine ⟨78, rfl, .inl ⟨e78, ?_⟩⟩
    simp [execOp, e79, e80, go_sem, softUpon, Fact.is, Below.refl]
  case s33 =>
    intro ρ W hb hc hf hr
    obtain ⟨r78, r81, -⟩ := hr
    have e78 : ρ (.tmp 78) = .bool true := r78
    clear r78
    have e81 : ρ (.tmp 81) = .bool true := r81
    clear r81
    refine under_none rfl ?_
    simp [execOp, e78, e81, go_sem, softUpon, Fact.is, Below.refl]
  case s34 =>
    intro ρ W hb hc hf hr
    obtain ⟨r82, -⟩ := hr
    have e82 : ρ (.tmp 82) = .bool true := r82
    clear r82
    refine under_none rfl ?_
    exact ⟨e82, Below.refl _ _⟩
  case s35 =>
    intro ρ W hb hc hf hr
    obtain ⟨r16, r83, -⟩ := hr
    have e16 : ρ (.tmp 16) = .int .i64 CL := r16
    clear r16
    have e83 : ρ (.tmp 83) = .bool true := r83
    clear r83
    refine ⟨83, rfl, .inl ⟨e83, ?_⟩⟩
    exact ⟨e16, Below.refl _ _⟩
  case s36 =>
    intro ρ W hb hc hf hr
    obtain ⟨r18, r83, -⟩ := hr
    have e18 : ρ (.tmp 18) = .int .i64 CL := r18
    clear r18
    have e83 : ρ (.tmp 83) = .bool true := r83
    clear r83
    refine ⟨83, rfl, .inl ⟨e83, ?_⟩⟩
    exact ⟨e18, Below.refl _ _⟩
  case s37 =>
    intro ρ W hb hc hf hr
    obtain ⟨r84, r85, r83, -⟩ := hr
    have e84 : ρ (.tmp 84) = .int .i64 CL := r84
    clear r84
    have e85 : ρ (.tmp 85) = .int .i64 CL := r85
    clear r85
    have e83 : ρ (.tmp 83) = .bool true := r83
    clear r83
    refine ⟨83, rfl, .inl ⟨e83, ?_⟩⟩
    simp [execOp, e84, e85, go_sem, softUpon, Fact.is, Below.refl]
  case s38 =>
    intro ρ W hb hc hf hr
    obtain ⟨r83, r86, -⟩ := hr
    have e83 : ρ (.tmp 83) = .bool true := r83
    clear r83
    have e86 : ρ (.tmp 86) = .bool true := r86
    clear r86
    refine under_none rfl ?_
    simp [execOp, e83, e86, go_sem, softUpon, Fact.is, Below.refl]
  case s39 =>
    intro ρ W hb hc hf hr
    obtain ⟨r87, -⟩ := hr
    have e87 : ρ (.tmp 87) = .bool true := r87
    clear r87
    refine under_none rfl ?_
    exact ⟨e87, Below.refl _ _⟩
  case s40 =>
    intro ρ W hb hc hf hr
    obtain ⟨r17, r88, -⟩ := hr
    have e17 : ρ (.tmp 17) = .int .i64 PL := r17
    clear r17
    have e88 : ρ (.tmp 88) = .bool true := r88
    clear r88
    refine ⟨88, rfl, .inl ⟨e88, ?_⟩⟩
    exact ⟨e17, Below.refl _ _⟩
  case s41 =>
    intro ρ W hb hc hf hr
    obtain ⟨r19, r88, -⟩ := hr
    have e19 : ρ (.tmp 19) = .int .i64 PL := r19
    clear r19
    have e88 : ρ (.tmp 88) = .bool true := r88
    clear r88
    refine ⟨88, rfl, .inl ⟨e88, ?_⟩⟩
    exact ⟨e19, Below.refl _ _⟩
  case s42 =>
    intro ρ W hb hc hf hr
    obtain ⟨r89, r90, r88, -⟩ := hr
    have e89 : ρ (.tmp 89) = .int .i64 PL := r89
    clear r89
    have e90 : ρ (.tmp 90) = .int .i64 PL := r90
    clear r90
    have e88 : ρ (.tmp 88) = .bool true := r88
    clear r88
    refine ⟨88, rfl, .inl ⟨e88, ?_⟩⟩
    simp [execOp, e89, e90, go_sem, softUpon, Fact.is, Below.refl]
  case s43 =>
    intro ρ W hb hc hf hr
    obtain ⟨r88, r91, -⟩ := hr
    have e88 : ρ (.tmp 88) = .bool true := r88
    clear r88
    have e91 : ρ (.tmp 91) = .bool true := r91
    clear r91
    refine under_none rfl ?_
    simp [execOp, e88, e91, go_sem, softUpon, Fact.is, Below.refl]
  case s44 =>
    intro ρ W hb hc hf hr
    obtain ⟨r92, -⟩ := hr
    have e92 : ρ (.tmp 92) = .bool true := r92
    clear r92
    refine under_none rfl ?_
    exact ⟨e92, Below.refl _ _⟩
  case fin =>
    intro a w1 hb hd hk
    have k10 : a.tmps.getD 10 undef = .bool true := hk 10
    go_wp2
    refine bodyPost_ret (results_tmp rfl _ _ _) hd ?_
    exact ⟨congrArg Ending.returned k10, HE.out _ hb⟩


set_option maxRecDepth 100000 in
theorem lifted (os : Os) (started : os.Started) (H : Type) (enc : TypeId × Value → H) :
    ReturnsInHanded {} Try.checked os 3 .any (Rows.orderTellsSpec.pre6 enc Try.prog Try.f3 Rows.orderTellsRow.domain false) (Rows.orderTellsSpec.post enc Try.prog Try.f3 false true false false) := by
  refine returnsInHanded_of_change (C := Try.checked) own started (by kernel_rfl) Try.func3
    (ChangeSpec.witness6 (enc := enc) (C := Try.checked) false ⟨#[], #[.slice none 0 0, .agg #[.int .i64 0, .int .i64 0, .int .i64 0, .int .i64 0, .bool false], .agg #[.int .i64 0, .int .i64 0, .int .i64 0, .int .i64 0, .bool false], .int .i64 0, .int .i64 0], []⟩ 8 (by kernel_rfl) (by kernel_rfl) (by kernel_rfl) (by kernel_rfl)) ?_
  intro W base args ds gs before hval0 hW hcnd _
  have hval : ∀ (j : Nat) t v, Try.f3.params[j]? = some t → args[j]? = some v → Value.okWide Try.prog W .any base t v := hval0
  have hfin := fun W' => law_post (enc := enc) (P := Try.prog) (f := Try.f3) (s := Rows.orderTellsSpec) (tb := 4) (W := W) (W' := W') (args := args) (ds := ds) (gs := gs) (before := before) laidOut rfl (by kernel_rfl) Try.underlying4 (by kernel_rfl) (fun xs h => by rw [Try.params3] at h; match xs, h with | [_, _, _, _, _], _ => rfl) hW
  have hlt : ∀ x ∈ before, x.block < W.heap.size := fun x hx => hW.lt x hx
  obtain ⟨p, q, hA0, hV, rfl, hfz, hnd⟩ := hW
  have hA : DataW.TrodAll enc Try.prog W 0 (fun _ => true) true Try.f3.params.toList args.toList ds p := hA0
  rw [Try.params3] at hA hval
  obtain ⟨v0, vs0, d0, ds0, p0, q0, hargs, rfl, rfl, h0, r0⟩ := trodAll_cons hA
  obtain ⟨v1, vs1, d1, ds1, p1, q1, rfl, rfl, rfl, h1, r1⟩ := trodAll_cons r0
  obtain ⟨v2, vs2, d2, ds2, p2, q2, rfl, rfl, rfl, h2, r2⟩ := trodAll_cons r1
  obtain ⟨v3, vs3, d3, ds3, p3, q3, rfl, rfl, rfl, h3, r3⟩ := trodAll_cons r2
  obtain ⟨v4, vs4, d4, ds4, p4, q4, rfl, rfl, rfl, h4, r4⟩ := trodAll_cons r3
  obtain ⟨rfl, rfl, rfl⟩ := trodAll_nil r4
  obtain rfl : args = #[v0, v1, v2, v3, v4] := by cases args; simp_all
  obtain ⟨A0, cap0, l0, rfl, hl0, hm0, hB0⟩ := open_items (hval 0 22 v0 rfl rfl) h0 (fun x hx => hlt x (by simp [hx]))
  obtain ⟨x1, rfl⟩ := open_item (hval 1 24 v1 rfl rfl) h1
  obtain ⟨x2, rfl⟩ := open_item (hval 2 24 v2 rfl rfl) h2
  obtain ⟨a3, rfl, rfl, rfl, w3⟩ := open_int Try.underlying3 (hval 3 3 v3 rfl rfl) h3
  obtain ⟨a4, rfl, rfl, rfl, w4⟩ := open_int Try.underlying3 (hval 4 3 v4 rfl rfl) h4
  refine (walk W A0 cap0 l0 hl0 hm0 hB0 x1 x2 a3 (bounds_i64 w3) a4 (bounds_i64 w4)).mono fun e W' ⟨he, hg⟩ => ?_
  subst he
  exact ⟨_, rfl, hfin W' hg⟩

theorem proved : Rows.OrderTellsSaid :=
  OpenClaim.holds_of_wide 3 Try.f3 rfl rfl rfl rfl rfl rfl rfl ⟨rfl, rfl, rfl, rfl, rfl⟩ rfl rfl rfl rfl rfl (by kernel_rfl) Try.func3 (by kernel_rfl)
    (of_decide_eq_true (by kernel_rfl)) (by unfold Func.isWrapper; first | (rw [if_pos (by decide +kernel)]; kernel_rfl) | (rw [if_neg (by decide +kernel)]; exact ⟨rfl, rfl⟩))
    (fun os started H enc _ => lifted os started H enc)
#print axioms proved
end Go.Proofs.Ytkhlgjkbkpbhiaa.orderTells
