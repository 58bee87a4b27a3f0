/-
  P15.1, QueryTells: for all entries, any entry and any Ask the law returns true: whether the entry is asked for, which of the entries are, and what is to be asked for then, are the document's. No condition.
-/
import Derived.Test.YtcoedohfggeaiaaHdQ
import Derived.Test.YtcoedohfggeaiaaQyP
import Derived.BigRegion
import Derived.BigQuiet
import Derived.Deep.CutRange
namespace Go.Proofs.Ytcoedohfggeaiaa.queryTells
open Go.ChangeShapes Go.WideShapes Go.ChangeAt Go.RowKit Go.Maps En Qy
set_option maxRecDepth 100000

theorem eqb15 (W : World) (a : Bool) : (binOp .eql 4 (.bool a) (.bool a)).run Try.prog W = .ok (.bool true) W := by
  cases a <;> go_simp
set_option maxHeartbeats 16000000 in
theorem walkN (hOK : QueryOk) (w : World) (A : Option Addr) (n cap : Nat) (l : List Ent) (t : Ent) (qa : Qy.A) (hn : l.length = n) (hl : n ≤ cap) (hm : cap ≤ maxLen) (hA : Lies w A (flatEn l)) (hQ : ∀ u ∈ l, EntIn w u) (hT : EntIn w t) :
    Calls Try.prog 3 #[.slice A n cap, .agg (enA t.e (.slice t.A t.e.sv.length t.cap)), .agg (askA qa)] w fun e w' => e = .returned (.bool true) ∧ Below w.heap.size w w' := by
  obtain ⟨tn, htn⟩ : ∃ tn, t.e.sv.length = tn := ⟨_, rfl⟩
  rw [htn]
  have hb0 : Below w.heap.size w ((w.alloc (.cells (enA t.e (.slice t.A tn t.cap)) 29)).alloc (.cells (askA qa) 31)) := ((Below.refl _ _).alloc (Nat.le_refl _) _).alloc (by simp) _
  have hE0 := (BoxE.new w t.e (.slice t.A tn t.cap)).below ((Below.refl _ _).alloc (Nat.le_refl _) (.cells (askA qa) 31))
  have hq0 := BoxQ.new (w.alloc (.cells (enA t.e (.slice t.A tn t.cap)) 29)) qa
  rw [World.size_alloc] at hq0
  obtain ⟨W0, hW0⟩ : ∃ W0, (w.alloc (.cells (enA t.e (.slice t.A tn t.cap)) 29)).alloc (.cells (askA qa) 31) = W0 := ⟨_, rfl⟩
  rw [hW0] at hb0 hq0 hE0
  have HOK := Lib.hid hOK
  have HN := Lib.hid hn
  have HTN := Lib.hid htn
  have HNM := Lib.hid (And.intro hl hm)
  have HA0 := Lib.hid (hA.below hb0)
  have HQ0 := Lib.hid (fun u hu => (hQ u hu).below hb0)
  have HT0 := Lib.hid (hT.below hb0)
  have HB0 := Lib.hid hb0
  obtain ⟨B, hB⟩ : ∃ B, w.heap.size = B := ⟨_, rfl⟩
  rw [hB] at hq0 hE0
  obtain ⟨C, hC⟩ : ∃ C, B + 1 = C := ⟨_, rfl⟩
  rw [hC] at hq0
  have HBX0 := Lib.hid hq0
  have HEX0 := Lib.hid hE0
  have HBQ := Lib.hid hB
  have HCQ := Lib.hid hC
  unfold enA askA at hW0
  unfold enA askA
  have HW0 := Lib.hid hW0
  clear hOK hn hl hm hA hQ hT hb0 hq0 hE0 hW0 hB hC htn
  go_enter Try.func3, Try.ntmps3
  go_wp2_with fail
  rw [HW0.out, HBQ.out, HCQ.out]
  refine (head15_any HOK.out W0).mono ?_
  rintro e w1 ⟨rfl, d1⟩
  have HB1 := Lib.hid (HB0.out.trans (d1.mono HB0.out.size))
  have HBX1 := Lib.hid (HBX0.out.below d1)
  have HEX1 := Lib.hid (HEX0.out.below d1)
  have HA1 := Lib.hid (HA0.out.below d1)
  have HQ1 := Lib.hid (fun u hu => (HQ0.out u hu).below d1)
  have HT1 := Lib.hid (HT0.out.below d1)
  clear d1 HB0 HBX0 HEX0 HA0 HQ0 HT0 HW0
  go_wp2_with fail
  refine (great15_any A n cap l w1 HN.out (Nat.le_trans HNM.out.1 HNM.out.2) HA1.out HQ1.out).mono ?_
  rintro e w2 ⟨r, rfl, hr, rfl⟩
  rcases r with _ | _
  rotate_left
  · have HB := HB1.out
    clear hr
    go_wp2
    go_ret
    exact ⟨rfl, HB⟩
  have HR := Lib.hid (hr rfl)
  clear hr
  obtain ⟨x0, x1, x2, x3, x4, x5, x6, x7, x8, x9, x10, x11, x12⟩ := BoxE.all HEX1.out
  have hlo := Lies.new w2 (enA t.e (.slice t.A tn t.cap)) 29
  have hbo : Below w2.heap.size w2 (w2.alloc (.cells (enA t.e (.slice t.A tn t.cap)) 29)) := (Below.refl _ _).alloc (Nat.le_refl _) _
  have hgr := great15_any (some ⟨w2.heap.size, 0, none⟩) 1 1 [t] _ rfl (by unfold maxLen; omega) (show Lies (w2.alloc (.cells (enA t.e (.slice t.A tn t.cap)) 29)) (some ⟨w2.heap.size, 0, none⟩) (flatEn [t]) by rw [← HTN.out] at hlo ⊢; simpa [flatEn, entCs] using hlo) (fun u hu => by rw [List.mem_singleton.1 hu]; exact HT1.out.below hbo)
  obtain ⟨W3, hW3⟩ : ∃ W3, w2.alloc (.cells (enA t.e (.slice t.A tn t.cap)) 29) = W3 := ⟨_, rfl⟩
  rw [hW3] at hgr hbo
  have HGR := Lib.hid hgr
  have HB3 := Lib.hid (HB1.out.trans (hbo.mono HB1.out.size))
  have HBX3 := Lib.hid (HBX1.out.below hbo)
  have HEX3 := Lib.hid (HEX1.out.below hbo)
  have HA3 := Lib.hid (HA1.out.below hbo)
  have HQ3 := Lib.hid (fun u hu => (HQ1.out u hu).below hbo)
  have HT3 := Lib.hid (HT1.out.below hbo)
  unfold enA at hW3
  have HW3 := Lib.hid hW3
  clear hlo hbo hgr hW3 HB1 HBX1 HEX1 HA1 HQ1 HT1
  go_wp2_with fail
  rw [HW3.out]
  clear x0 x1 x2 x3 x4 x5 x6 x7 x8 x9 x10 x11 x12
  refine HGR.out.mono ?_
  rintro e w4 ⟨r, rfl, hr, rfl⟩
  rcases r with _ | _
  rotate_left
  · have HB := HB3.out
    clear hr
    go_wp2
    go_ret
    exact ⟨rfl, HB⟩
  have HR2 := Lib.hid (show tn ≤ 9000 by have := (hr rfl).2 t (by simp); rwa [HTN.out] at this)
  clear hr
  obtain ⟨q0, -⟩ := HBX3.out.all
  obtain ⟨zs, hzs⟩ : ∃ zs : Nat, (str qa.sv).size = zs := ⟨_, rfl⟩
  by_cases h9 : 900 < zs
  · have t9 : decide ((900 : Int) < ((str qa.sv).size : Int)) = true := by rw [hzs]; exact decide_eq_true (by omega)
    have HB := HB3.out
    clear hzs h9
    go_wp2
    go_ret
    exact ⟨rfl, HB⟩
  have t9 : decide ((900 : Int) < ((str qa.sv).size : Int)) = false := by rw [hzs]; exact decide_eq_false (by omega)
  clear hzs h9
  have HEn := Lib.hid (show Ents w4 A n cap l from ⟨HN.out, by have := HR.out.1; omega, HNM.out.1, HNM.out.2, HA3.out, fun t ht => (HQ3.out t ht).svs (HR.out.2 t ht)⟩)
  have HSV := Lib.hid (HT3.out.svs (by rw [HTN.out]; exact HR2.out))
  obtain ⟨M, hM⟩ : ∃ M, l.map Ent.e = M := ⟨_, rfl⟩
  have HM := Lib.hid hM
  obtain ⟨N, hN⟩ : ∃ N, next M qa = N := ⟨_, rfl⟩
  obtain ⟨mo, hmo⟩ : ∃ mo, more M qa = mo := ⟨_, rfl⟩
  have hld := run_loadAsk w4 C qa HBX3.out
  have hnx := HOK.out.next A n cap l qa w4 HEn.out
  rw [hM, hN, hmo] at hnx
  have HNN := Lib.hid (And.intro hN hmo)
  unfold askA at hld hnx
  have HLD := Lib.hid hld
  have HNX := Lib.hid hnx
  clear hM hN hmo hld hnx HA3 HQ3 HT3 HGR HW3
  go_wp2_with (refine wpList_loadW rfl 31 _ rfl _ _ rfl HLD.out ?_)
  clear q0 t9
  refine HNX.out.mono ?_
  rintro e w5 ⟨rfl, d5⟩
  have hb6 : Below w5.heap.size w5 (w5.alloc (.cells (askA N) 31)) := (Below.refl _ _).alloc (Nat.le_refl _) _
  have hq6 := BoxQ.new w5 N
  obtain ⟨W6, hW6⟩ : ∃ W6, w5.alloc (.cells (askA N) 31) = W6 := ⟨_, rfl⟩
  rw [hW6] at hb6 hq6
  have d6 := d5.trans (hb6.mono d5.size)
  have HE6 := Lib.hid (HEn.out.below d6)
  have HB6 := Lib.hid (HB3.out.trans (d6.mono HB3.out.size))
  have HBX6 := Lib.hid (HBX3.out.below d6)
  have HEX6 := Lib.hid (HEX3.out.below d6)
  have HSV6 := Lib.hid (HSV.out.below d6)
  have HN6 := Lib.hid hq6
  have hld := run_loadAsk W6 C qa HBX6.out
  have hnx := rnext15_any A n cap l qa W6 HE6.out
  rw [HM.out, HNN.out.1, HNN.out.2] at hnx
  unfold askA at hld hnx hW6
  have HLD6 := Lib.hid hld
  have HNX6 := Lib.hid hnx
  have HW6 := Lib.hid hW6
  obtain ⟨p8, hp8⟩ : ∃ p, w5.heap.size = p := ⟨_, rfl⟩
  rw [hp8] at HN6
  have HP8 := Lib.hid hp8
  clear hld hnx hW6 hb6 hq6 d5 d6 hp8 HEn HSV HB3 HBX3 HEX3 HLD HNX
  go_upto_region 5 with fail
  rw [HW6.out, HP8.out]
  go_wp2_with (refine wpList_loadW rfl 31 _ rfl _ _ rfl HLD6.out ?_)
  refine HNX6.out.mono ?_
  rintro e w7 ⟨rfl, d7⟩
  have hb8 : Below w7.heap.size w7 (w7.alloc (.cells (askA N) 31)) := (Below.refl _ _).alloc (Nat.le_refl _) _
  have hq8 := BoxQ.new w7 N
  obtain ⟨W8, hW8⟩ : ∃ W8, w7.alloc (.cells (askA N) 31) = W8 := ⟨_, rfl⟩
  rw [hW8] at hb8 hq8
  have d8 := d7.trans (hb8.mono d7.size)
  have HE8 := Lib.hid (HE6.out.below d8)
  have HB8 := Lib.hid (HB6.out.trans (d8.mono HB6.out.size))
  have HBX8 := Lib.hid (HBX6.out.below d8)
  have HEX8 := Lib.hid (HEX6.out.below d8)
  have HSV8 := Lib.hid (HSV6.out.below d8)
  have HN8 := Lib.hid (HN6.out.below d8)
  obtain ⟨p10, hp10⟩ : ∃ p, w7.heap.size = p := ⟨_, rfl⟩
  rw [hp10] at hq8
  have HN10 := Lib.hid hq8
  have HP10 := Lib.hid hp10
  unfold askA at hW8
  have HW8 := Lib.hid hW8
  clear hW8 hb8 hq8 d7 d8 hp10 HE6 HB6 HBX6 HEX6 HSV6 HN6 HNX6 HLD6 HW6 HP8
  go_upto_region 6 with fail
  rw [HW8.out, HP10.out]
  have hbd : Below W8.heap.size W8 W8.drew := (Below.refl _ _).drew
  have hLA := fun (W : World) (h : Below W8.heap.size W8 W) => run_loadAsk W C qa (HBX8.out.below h)
  have hLE := fun (W : World) (h : Below W8.heap.size W8 W) => run_loadEn W B t.e t.A tn t.cap (HEX8.out.below h)
  have hL8 := fun (W : World) (h : Below W8.heap.size W8 W) => run_loadAsk W p8 N (HN8.out.below h)
  have hL10 := fun (W : World) (h : Below W8.heap.size W8 W) => run_loadAsk W p10 N (HN10.out.below h)
  have hFD := fun (W : World) (h : Below W8.heap.size W8 W) => HOK.out.fits t.e t.A tn t.cap qa W HTN.out (HSV8.out.below h)
  have hFR := fun (W : World) (h : Below W8.heap.size W8 W) => rfits15_any t.e t.A tn t.cap qa W HTN.out (HSV8.out.below h)
  have hRD := fun (W : World) (h : Below W8.heap.size W8 W) => HOK.out.run A n cap l qa W (HE8.out.below h)
  have hRR := fun (W : World) (h : Below W8.heap.size W8 W) => rrun15_any A n cap l qa W (HE8.out.below h)
  obtain ⟨F, hF⟩ : ∃ F, fits t.e qa = F := ⟨_, rfl⟩
  obtain ⟨L, hL⟩ : ∃ L, run (l.map Ent.e) qa = L := ⟨_, rfl⟩
  obtain ⟨XA, hXA⟩ : ∃ X, askA qa = X := ⟨_, rfl⟩
  obtain ⟨XN, hXN⟩ : ∃ X, askA N = X := ⟨_, rfl⟩
  obtain ⟨XE, hXE⟩ : ∃ X, enA t.e (.slice t.A tn t.cap) = X := ⟨_, rfl⟩
  simp only [hF, hXA, hXE] at hFD hFR
  simp only [hL, hXA] at hRD hRR
  simp only [hXA] at hLA
  simp only [hXE] at hLE
  simp only [hXN] at hL8 hL10
  have LA := Lib.hid hLA
  have LE := Lib.hid hLE
  have LN8 := Lib.hid hL8
  have LN10 := Lib.hid hL10
  have FD := Lib.hid hFD
  have FR := Lib.hid hFR
  have RD := Lib.hid hRD
  have RR := Lib.hid hRR
  have HXN := Lib.hid hXN
  clear hLA hLE hL8 hL10 hFD hFR hRD hRR hF hL hXA hXN hXE HE8 HBX8 HEX8 HSV8 HN8 HN10
  refine wp_soft (by kernel_rfl) 68 [(39, [7]), (40, [39]), (41, [4, 40]), (42, [5, 40]), (43, [41, 42, 40]), (44, [4, 40]), (45, [5, 40]), (46, [44, 45, 40]), (47, [43, 46, 40]), (48, [40, 47]), (49, [48]), (50, [0, 49]), (51, [5, 49]), (52, [50, 51, 49]), (53, [0, 49]), (54, [5, 49]), (55, [53, 54, 49]), (56, [52, 55, 49]), (57, [49, 56]), (58, [57]), (59, [8, 58]), (60, [10, 58]), (61, [59, 60, 58]), (62, [58, 61]), (63, [62]), (64, [9, 63]), (65, [11, 63]), (66, [64, 65, 63]), (67, [63, 66]), (6, [67])]
    [Fact.is (.bool true), Fact.is (.bool true), Fact.is (.agg XE), Fact.is (.agg XA), Fact.is (.bool F), Fact.is (.agg XE), Fact.is (.agg XA), Fact.is (.bool F), Fact.is (.bool true), Fact.is (.bool true), Fact.is (.bool true), Fact.is (.slice A n cap), Fact.is (.agg XA), Fact.num15 L, Fact.is (.slice A n cap), Fact.is (.agg XA), Fact.num15 L, Fact.is (.bool true), Fact.is (.bool true), Fact.is (.bool true), Fact.is (.agg XN), Fact.is (.agg XN), Fact.is (.bool true), Fact.is (.bool true), Fact.is (.bool true), Fact.is (.bool mo), Fact.is (.bool mo), Fact.is (.bool true), Fact.is (.bool true), Fact.is (.bool true)]
    (by kernel_rfl) rfl rfl ⟨?s0, ?s1, ?s2, ?s3, ?s4, ?s5, ?s6, ?s7, ?s8, ?s9, ?s10, ?s11, ?s12, ?s13, ?s14, ?s15, ?s16, ?s17, ?s18, ?s19, ?s20, ?s21, ?s22, ?s23, ?s24, ?s25, ?s26, ?s27, ?s28, ?s29, trivial⟩ ?fin
  case s0 =>
    intro ρ W hb hc hf hr
    obtain ⟨r7, -⟩ := hr
    have e7 : ρ (.tmp 7) = .bool true := r7
    clear r7
    refine under_none rfl ?_
    exact ⟨e7, Below.refl _ _⟩
  case s1 =>
    intro ρ W hb hc hf hr
    obtain ⟨r39, -⟩ := hr
    have e39 : ρ (.tmp 39) = .bool true := r39
    clear r39
    refine under_none rfl ?_
    exact ⟨e39, Below.refl _ _⟩
  case s2 =>
    intro ρ W hb hc hf hr
    obtain ⟨r4, r40, -⟩ := hr
    have e4 : ρ (.tmp 4) = .pointer (some ⟨B, 0, none⟩) := r4
    clear r4
    have e40 : ρ (.tmp 40) = .bool true := r40
    clear r40
    refine ⟨40, rfl, .inl ⟨e40, ?_⟩⟩
    exact soft_load e4 (LE.out W (hbd.trans (hb.mono (by simp)))) rfl
  case s3 =>
    intro ρ W hb hc hf hr
    obtain ⟨r5, r40, -⟩ := hr
    have e5 : ρ (.tmp 5) = .pointer (some ⟨C, 0, none⟩) := r5
    clear r5
    have e40 : ρ (.tmp 40) = .bool true := r40
    clear r40
    refine ⟨40, rfl, .inl ⟨e40, ?_⟩⟩
    exact soft_load e5 (LA.out W (hbd.trans (hb.mono (by simp)))) rfl
  case s4 =>
    intro ρ W hb hc hf hr
    obtain ⟨r41, r42, r40, -⟩ := hr
    have e41 : ρ (.tmp 41) = .agg XE := r41
    clear r41
    have e42 : ρ (.tmp 42) = .agg XA := r42
    clear r42
    have e40 : ρ (.tmp 40) = .bool true := r40
    clear r40
    refine ⟨40, rfl, .inl ⟨e40, ?_⟩⟩
    exact soft_call2 hf e41 e42 (FD.out W (hbd.trans (hb.mono (by simp)))) rfl (by kernel_rfl) below_is
  case s5 =>
    intro ρ W hb hc hf hr
    obtain ⟨r4, r40, -⟩ := hr
    have e4 : ρ (.tmp 4) = .pointer (some ⟨B, 0, none⟩) := r4
    clear r4
    have e40 : ρ (.tmp 40) = .bool true := r40
    clear r40
    refine ⟨40, rfl, .inl ⟨e40, ?_⟩⟩
    exact soft_load e4 (LE.out W (hbd.trans (hb.mono (by simp)))) rfl
  case s6 =>
    intro ρ W hb hc hf hr
    obtain ⟨r5, r40, -⟩ := hr
    have e5 : ρ (.tmp 5) = .pointer (some ⟨C, 0, none⟩) := r5
    clear r5
    have e40 : ρ (.tmp 40) = .bool true := r40
    clear r40
    refine ⟨40, rfl, .inl ⟨e40, ?_⟩⟩
    exact soft_load e5 (LA.out W (hbd.trans (hb.mono (by simp)))) rfl
  case s7 =>
    intro ρ W hb hc hf hr
    obtain ⟨r44, r45, r40, -⟩ := hr
    have e44 : ρ (.tmp 44) = .agg XE := r44
    clear r44
    have e45 : ρ (.tmp 45) = .agg XA := r45
    clear r45
    have e40 : ρ (.tmp 40) = .bool true := r40
    clear r40
    refine ⟨40, rfl, .inl ⟨e40, ?_⟩⟩
    exact soft_call2 hf e44 e45 (FR.out W (hbd.trans (hb.mono (by simp)))) rfl (by kernel_rfl) below_is
  case s8 =>
    intro ρ W hb hc hf hr
    obtain ⟨r43, r46, r40, -⟩ := hr
    have e43 : ρ (.tmp 43) = .bool F := r43
    clear r43
    have e46 : ρ (.tmp 46) = .bool F := r46
    clear r46
    have e40 : ρ (.tmp 40) = .bool true := r40
    clear r40
    refine ⟨40, rfl, .inl ⟨e40, ?_⟩⟩
    exact soft_bin e43 e46 rfl rfl (eqb15 W F)
  case s9 =>
    intro ρ W hb hc hf hr
    obtain ⟨r40, r47, -⟩ := hr
    have e40 : ρ (.tmp 40) = .bool true := r40
    clear r40
    have e47 : ρ (.tmp 47) = .bool true := r47
    clear r47
    refine under_none rfl ?_
    simp [execOp, e40, e47, go_sem, softUpon, Fact.is, Below.refl]
  case s10 =>
    intro ρ W hb hc hf hr
    obtain ⟨r48, -⟩ := hr
    have e48 : ρ (.tmp 48) = .bool true := r48
    clear r48
    refine under_none rfl ?_
    exact ⟨e48, Below.refl _ _⟩
  case s11 =>
    intro ρ W hb hc hf hr
    obtain ⟨r0, r49, -⟩ := hr
    have e0 : ρ (.tmp 0) = .slice A n cap := r0
    clear r0
    have e49 : ρ (.tmp 49) = .bool true := r49
    clear r49
    refine ⟨49, rfl, .inl ⟨e49, ?_⟩⟩
    exact ⟨e0, Below.refl _ _⟩
  case s12 =>
    intro ρ W hb hc hf hr
    obtain ⟨r5, r49, -⟩ := hr
    have e5 : ρ (.tmp 5) = .pointer (some ⟨C, 0, none⟩) := r5
    clear r5
    have e49 : ρ (.tmp 49) = .bool true := r49
    clear r49
    refine ⟨49, rfl, .inl ⟨e49, ?_⟩⟩
    exact soft_load e5 (LA.out W (hbd.trans (hb.mono (by simp)))) rfl
  case s13 =>
    intro ρ W hb hc hf hr
    obtain ⟨r50, r51, r49, -⟩ := hr
    have e50 : ρ (.tmp 50) = .slice A n cap := r50
    clear r50
    have e51 : ρ (.tmp 51) = .agg XA := r51
    clear r51
    have e49 : ρ (.tmp 49) = .bool true := r49
    clear r49
    refine ⟨49, rfl, .inl ⟨e49, ?_⟩⟩
    exact soft_call2 hf e50 e51 (RD.out W (hbd.trans (hb.mono (by simp)))) rfl (by kernel_rfl) num15_of
  case s14 =>
    intro ρ W hb hc hf hr
    obtain ⟨r0, r49, -⟩ := hr
    have e0 : ρ (.tmp 0) = .slice A n cap := r0
    clear r0
    have e49 : ρ (.tmp 49) = .bool true := r49
    clear r49
    refine ⟨49, rfl, .inl ⟨e49, ?_⟩⟩
    exact ⟨e0, Below.refl _ _⟩
  case s15 =>
    intro ρ W hb hc hf hr
    obtain ⟨r5, r49, -⟩ := hr
    have e5 : ρ (.tmp 5) = .pointer (some ⟨C, 0, none⟩) := r5
    clear r5
    have e49 : ρ (.tmp 49) = .bool true := r49
    clear r49
    refine ⟨49, rfl, .inl ⟨e49, ?_⟩⟩
    exact soft_load e5 (LA.out W (hbd.trans (hb.mono (by simp)))) rfl
  case s16 =>
    intro ρ W hb hc hf hr
    obtain ⟨r53, r54, r49, -⟩ := hr
    have e53 : ρ (.tmp 53) = .slice A n cap := r53
    clear r53
    have e54 : ρ (.tmp 54) = .agg XA := r54
    clear r54
    have e49 : ρ (.tmp 49) = .bool true := r49
    clear r49
    refine ⟨49, rfl, .inl ⟨e49, ?_⟩⟩
    exact soft_call2 hf e53 e54 (RR.out W (hbd.trans (hb.mono (by simp)))) rfl (by kernel_rfl) num15_of
  case s17 =>
    intro ρ W hb hc hf hr
    obtain ⟨r52, r55, r49, -⟩ := hr
    have e49 : ρ (.tmp 49) = .bool true := r49
    clear r49
    refine ⟨49, rfl, .inl ⟨e49, ?_⟩⟩
    exact soft_same15 hf r52 r55 (by simp) rfl
  case s18 =>
    intro ρ W hb hc hf hr
    obtain ⟨r49, r56, -⟩ := hr
    have e49 : ρ (.tmp 49) = .bool true := r49
    clear r49
    have e56 : ρ (.tmp 56) = .bool true := r56
    clear r56
    refine under_none rfl ?_
    simp [execOp, e49, e56, go_sem, softUpon, Fact.is, Below.refl]
  case s19 =>
    intro ρ W hb hc hf hr
    obtain ⟨r57, -⟩ := hr
    have e57 : ρ (.tmp 57) = .bool true := r57
    clear r57
    refine under_none rfl ?_
    exact ⟨e57, Below.refl _ _⟩
  case s20 =>
    intro ρ W hb hc hf hr
    obtain ⟨r8, r58, -⟩ := hr
    have e8 : ρ (.tmp 8) = .pointer (some ⟨p8, 0, none⟩) := r8
    clear r8
    have e58 : ρ (.tmp 58) = .bool true := r58
    clear r58
    refine ⟨58, rfl, .inl ⟨e58, ?_⟩⟩
    exact soft_load e8 (LN8.out W (hbd.trans (hb.mono (by simp)))) rfl
  case s21 =>
    intro ρ W hb hc hf hr
    obtain ⟨r10, r58, -⟩ := hr
    have e10 : ρ (.tmp 10) = .pointer (some ⟨p10, 0, none⟩) := r10
    clear r10
    have e58 : ρ (.tmp 58) = .bool true := r58
    clear r58
    refine ⟨58, rfl, .inl ⟨e58, ?_⟩⟩
    exact soft_load e10 (LN10.out W (hbd.trans (hb.mono (by simp)))) rfl
  case s22 =>
    intro ρ W hb hc hf hr
    obtain ⟨r59, r60, r58, -⟩ := hr
    have e59 : ρ (.tmp 59) = .agg XN := r59
    clear r59
    have e60 : ρ (.tmp 60) = .agg XN := r60
    clear r60
    have e58 : ρ (.tmp 58) = .bool true := r58
    clear r58
    refine ⟨58, rfl, .inl ⟨e58, ?_⟩⟩
    exact soft_eqAsk HXN.out e59 e60 rfl
  case s23 =>
    intro ρ W hb hc hf hr
    obtain ⟨r58, r61, -⟩ := hr
    have e58 : ρ (.tmp 58) = .bool true := r58
    clear r58
    have e61 : ρ (.tmp 61) = .bool true := r61
    clear r61
    refine under_none rfl ?_
    simp [execOp, e58, e61, go_sem, softUpon, Fact.is, Below.refl]
  case s24 =>
    intro ρ W hb hc hf hr
    obtain ⟨r62, -⟩ := hr
    have e62 : ρ (.tmp 62) = .bool true := r62
    clear r62
    refine under_none rfl ?_
    exact ⟨e62, Below.refl _ _⟩
  case s25 =>
    intro ρ W hb hc hf hr
    obtain ⟨r9, r63, -⟩ := hr
    have e9 : ρ (.tmp 9) = .bool mo := r9
    clear r9
    have e63 : ρ (.tmp 63) = .bool true := r63
    clear r63
    refine ⟨63, rfl, .inl ⟨e63, ?_⟩⟩
    exact ⟨e9, Below.refl _ _⟩
  case s26 =>
    intro ρ W hb hc hf hr
    obtain ⟨r11, r63, -⟩ := hr
    have e11 : ρ (.tmp 11) = .bool mo := r11
    clear r11
    have e63 : ρ (.tmp 63) = .bool true := r63
    clear r63
    refine ⟨63, rfl, .inl ⟨e63, ?_⟩⟩
    exact ⟨e11, Below.refl _ _⟩
  case s27 =>
    intro ρ W hb hc hf hr
    obtain ⟨r64, r65, r63, -⟩ := hr
    have e64 : ρ (.tmp 64) = .bool mo := r64
    clear r64
    have e65 : ρ (.tmp 65) = .bool mo := r65
    clear r65
    have e63 : ρ (.tmp 63) = .bool true := r63
    clear r63
    refine ⟨63, rfl, .inl ⟨e63, ?_⟩⟩
    exact soft_bin e64 e65 rfl rfl (eqb15 W mo)
  case s28 =>
    intro ρ W hb hc hf hr
    obtain ⟨r63, r66, -⟩ := hr
    have e63 : ρ (.tmp 63) = .bool true := r63
    clear r63
    have e66 : ρ (.tmp 66) = .bool true := r66
    clear r66
    refine under_none rfl ?_
    simp [execOp, e63, e66, go_sem, softUpon, Fact.is, Below.refl]
  case s29 =>
    intro ρ W hb hc hf hr
    obtain ⟨r67, -⟩ := hr
    have e67 : ρ (.tmp 67) = .bool true := r67
    clear r67
    refine under_none rfl ?_
    exact ⟨e67, Below.refl _ _⟩
  case fin =>
    intro a w11 hb hd hk
    have k6 : a.tmps.getD 6 undef = .bool true := hk 6
    go_wp2
    refine bodyPost_ret (results_tmp rfl _ _ _) hd ?_
    exact ⟨congrArg Ending.returned k6, HB8.out.trans ((hbd.trans (hb.mono (by simp))).mono HB8.out.size)⟩

theorem walk (w : World) (A : Option Addr) (cap : Nat) (l : List Ent) (hl : l.length ≤ cap) (hm : cap ≤ maxLen) (hA : Lies w A (flatEn l)) (hQ : ∀ u ∈ l, EntIn w u) (t : Ent) (hT : EntIn w t) (qa : Qy.A) (_hK : AskIn qa) :
    Calls Try.prog 3 #[.slice A l.length cap, .agg (enA t.e (.slice t.A t.e.sv.length t.cap)), .agg (askA qa)] w fun e w' => e = .returned (.bool true) ∧ Below w.heap.size w w' :=
  walkN queryOk w A l.length cap l t qa rfl hl hm hA hQ hT


set_option maxRecDepth 100000 in
theorem lifted (os : Os) (started : os.Started) (H : Type) (enc : TypeId × Value → H) :
    ReturnsInHanded {} Try.checked os 3 .any (Rows.queryTellsSpec.pre6 enc Try.prog Try.f3 Rows.queryTellsRow.domain false) (Rows.queryTellsSpec.post enc Try.prog Try.f3 false true false false) := by
  refine returnsInHanded_of_change (C := Try.checked) own started (by kernel_rfl) Try.func3
    (ChangeSpec.witness6 (enc := enc) (C := Try.checked) false ⟨#[], #[.slice none 0 0, .agg #[.int .i64 0, .int .i64 0, .int .i64 0, .int .i64 0, .bool false, .int .i64 0, .int .i64 0, .int .i64 0, .int .i64 0, .slice none 0 0, .int .i64 0, .int .i64 0, .int .i64 0], .agg #[.string .empty, .int .i64 0, .int .i64 0, .int .i64 0, .int .i64 0, .int .i64 0, .int .i64 0]], []⟩ 8 (by kernel_rfl) (by kernel_rfl) (by kernel_rfl) (by kernel_rfl)) ?_
  intro W base args ds gs before hval0 hW hcnd _
  have hval : ∀ (j : Nat) t v, Try.f3.params[j]? = some t → args[j]? = some v → Value.okWide Try.prog W .any base t v := hval0
  have hfin := fun W' => law_post (enc := enc) (P := Try.prog) (f := Try.f3) (s := Rows.queryTellsSpec) (tb := 4) (W := W) (W' := W') (args := args) (ds := ds) (gs := gs) (before := before) laidOut rfl (by kernel_rfl) Try.underlying4 (by kernel_rfl) (fun xs h => by rw [Try.params3] at h; match xs, h with | [_, _, _], _ => rfl) hW
  have hlt : ∀ x ∈ before, x.block < W.heap.size := fun x hx => hW.lt x hx
  obtain ⟨p, q, hA0, hV, rfl, hfz, hnd⟩ := hW
  have hA : DataW.TrodAll enc Try.prog W 0 (fun _ => true) true Try.f3.params.toList args.toList ds p := hA0
  rw [Try.params3] at hA hval
  obtain ⟨v0, vs0, d0, ds0, p0, q0, hargs, rfl, rfl, h0, r0⟩ := trodAll_cons hA
  obtain ⟨v1, vs1, d1, ds1, p1, q1, rfl, rfl, rfl, h1, r1⟩ := trodAll_cons r0
  obtain ⟨v2, vs2, d2, ds2, p2, q2, rfl, rfl, rfl, h2, r2⟩ := trodAll_cons r1
  obtain ⟨rfl, rfl, rfl⟩ := trodAll_nil r2
  obtain rfl : args = #[v0, v1, v2] := by cases args; simp_all
  obtain ⟨A0, cap0, l0, rfl, hl0, hm0, hB0, hQ0⟩ := open_ents (hval 0 22 v0 rfl rfl) h0 (fun x hx => hlt x (by simp [hx]))
  obtain ⟨t1, rfl, hT1⟩ := open_ent (hval 1 29 v1 rfl rfl) h1 (fun x hx => hlt x (by simp [hx]))
  obtain ⟨q2, rfl, hK2⟩ := open_ask (hval 2 31 v2 rfl rfl) h2
  refine (walk W A0 cap0 l0 hl0 hm0 hB0 hQ0 t1 hT1 q2 hK2).mono fun e W' ⟨he, hg⟩ => ?_
  subst he
  exact ⟨_, rfl, hfin W' hg⟩

theorem proved : Rows.QueryTellsSaid :=
  OpenClaim.holds_of_wide 3 Try.f3 rfl rfl rfl rfl rfl rfl rfl ⟨rfl, rfl, rfl, rfl, rfl⟩ rfl rfl rfl rfl rfl (by kernel_rfl) Try.func3 (by kernel_rfl)
    (of_decide_eq_true (by kernel_rfl)) (by unfold Func.isWrapper; first | (rw [if_pos (by decide +kernel)]; kernel_rfl) | (rw [if_neg (by decide +kernel)]; exact ⟨rfl, rfl⟩))
    (fun os started H enc _ => lifted os started H enc)
#print axioms proved
end Go.Proofs.Ytcoedohfggeaiaa.queryTells
