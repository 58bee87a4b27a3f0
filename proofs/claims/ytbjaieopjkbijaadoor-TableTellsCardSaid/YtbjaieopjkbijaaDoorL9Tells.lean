/-
  P9.1, TableTells: for all tables and bytes the law returns true: whether a table is right, its sector, its extents in order, and the table of any sector, are the document's. No condition but that the program's table starts as its text lays it.
-/
import Derived.Test.YtbjaieopjkbijaaDoorRg9
import Derived.Test.YtbjaieopjkbijaaDoorRo9
import Derived.Test.YtbjaieopjkbijaaDoorLaid2
namespace Go.Proofs.YtbjaieopjkbijaaDoor.tableTells
open Go.ChangeShapes Go.WideShapes Go.ChangeAt Go.RowKit

theorem rget_is (A : Option Addr) (cap n m : Nat) (s : List UInt8) (g o : Int) (xs : List Tb.Ext) (OK : Bool) (w : World) (hn : s.length = n) (hc : n ≤ cap) (hA : Lies w A (cells s)) (ht : Tb.got s = ⟨g, o, xs⟩) (ho : Tb.ok s = OK) (hm : xs.length = m) :
    Calls Tryd.prog 12 #[.slice A n cap] w fun e w' => ∃ A c, e = .returned (.tuple #[tabV g o A m c, .bool OK]) ∧ m ≤ c ∧ Lies w' A (flatX xs) ∧ Below w.heap.size w w' := by
  subst ho; subst hm
  refine (rget_any A cap n s w hn hc hA).mono ?_
  rintro e w' ⟨A', m, c, rfl, h0, h1, h2, h3⟩
  rw [ht] at h0 h2 ⊢
  subst h0
  exact ⟨A', c, rfl, h1, h2, h3⟩
theorem rright_is (g o : Int) (A : Option Addr) (cap n : Nat) (xs : List Tb.Ext) (w : World) (R : Bool) (hn : xs.length = n) (hA : Lies w A (flatX xs)) (hr : Tb.right ⟨g, o, xs⟩ = R) :
    Calls Tryd.prog 14 #[tabV g o A n cap] w fun e w' => e = .returned (.bool R) ∧ Below w.heap.size w w' := by
  subst hr; exact rright9_any g o A cap n xs w hn hA
theorem rlast_is (g o : Int) (A : Option Addr) (cap n : Nat) (xs : List Tb.Ext) (w : World) (V : Int) (hn : xs.length = n) (hA : Lies w A (flatX xs)) (hl : (if Tb.right ⟨g, o, xs⟩ = true then Tb.last xs else 0) = V) :
    Calls Tryd.prog 23 #[tabV g o A n cap] w fun e w' => e = .returned (.int .i64 V) ∧ Below w.heap.size w w' := by
  subst hl; exact rlast9_any g o A cap n xs w hn hA
theorem made_places {w : World} {l : List Nat} {n : Nat} {e : Ending} {w' : World} (hn : l.length = n) (h : MadeI w l e w') : ∃ v, e = .returned v ∧ (Fact.places l n).φ v w' ∧ Below w.heap.size w w' := by
  subst hn
  obtain ⟨v, he, ho, hb⟩ := h
  obtain ⟨A, c, rfl, hc, -, -, hl⟩ := own_form ho
  exact ⟨_, he, ⟨A, c, rfl, hc, hl⟩, hb⟩
theorem rorder_is (g o : Int) (A : Option Addr) (cap n m : Nat) (xs : List Tb.Ext) (l : List Nat) (w : World) (hn : xs.length = n) (hA : Lies w A (flatX xs)) (hl : (if Tb.right ⟨g, o, xs⟩ = true then Tb.ord xs else []) = l) (hm : l.length = m) :
    Calls Tryd.prog 19 #[tabV g o A n cap] w fun e w' => ∃ v, e = .returned v ∧ (Fact.places l m).φ v w' ∧ Below w.heap.size w w' := by
  subst hl
  exact (rorder9_any g o A cap n xs w hn hA).mono fun _ _ h => made_places hm h
theorem rfree_is (g o : Int) (A : Option Addr) (cap n m : Nat) (xs : List Tb.Ext) (l : List Nat) (w : World) (hn : xs.length = n) (hA : Lies w A (flatX xs)) (hl : (if Tb.right ⟨g, o, xs⟩ = true then Tb.free xs else []) = l) (hm : l.length = m) :
    Calls Tryd.prog 21 #[tabV g o A n cap] w fun e w' => ∃ v, e = .returned v ∧ (Fact.places l m).φ v w' ∧ Below w.heap.size w w' := by
  subst hl
  exact (rfree9_any g o A cap n xs w hn hA).mono fun _ _ h => made_places hm h
theorem soft_sameP {w : World} {ρ : Operand → Value} {o : Oper} {x y : Operand} {ats : Array TypeId} {l : List Nat} {n : Nat} (hf : ∀ f, ρ (.func f) = .func (.func f) #[] #[]) (hx : (Fact.places l n).φ (ρ x) w) (hy : (Fact.places l n).φ (ρ y) w) (hn : l.length = n) (h9 : n ≤ 1000) (ho : o.op = .call { callee := .value (.func 17), args := #[x, y], argTypes := ats }) :
    softUpon Tryd.prog w (Fact.is (.bool true)) ((execOp ρ o).run Tryd.prog w) := by
  obtain ⟨A, c, ex, -, hA⟩ := hx
  obtain ⟨D, d, ey, -, hD⟩ := hy
  exact soft_call2 hf ex ey (sameInts_is A D n n c d l l w hn hn h9 rfl hA hD) ho (by kernel_rfl) below_is
theorem got_few (s : List UInt8) : (Tb.got s).xs.length ≤ 8 := by
  unfold Tb.got
  split
  · rw [told_parts]
    simp
    omega
  · exact Nat.zero_le _
theorem few_ord (t : Tb.T) : (if Tb.right t = true then Tb.ord t.xs else []).length ≤ 1000 := by
  split
  · rename_i h
    have h1 := (Tb.ord_perm t.xs).length_eq
    have h2 : (Tb.used t.xs).length ≤ t.xs.length := Nat.le_trans (List.length_filter_le _ _) (by simp)
    have h3 := (Tb.right_iff.1 h).n2
    omega
  · simp
theorem few_free (t : Tb.T) : (if Tb.right t = true then Tb.free t.xs else []).length ≤ 1000 := by
  split
  · rename_i h
    have h2 : (Tb.free t.xs).length ≤ t.xs.length := Nat.le_trans (List.length_filter_le _ _) (by simp)
    have h3 := (Tb.right_iff.1 h).n2
    omega
  · simp

set_option maxHeartbeats 4000000 in
set_option maxRecDepth 100000 in
theorem walkN (w : World) (hT : Tab w) (g o : Int) (A : Option Addr) (cap n : Nat) (xs : List Tb.Ext) (hn : xs.length = n) (hc : n ≤ cap) (hA : Lies w A (flatX xs)) (D : Option Addr) (dap m : Nat) (s : List UInt8) (hm : s.length = m) (hdc : m ≤ dap) (hD : Lies w D (cells s)) :
    Calls Tryd.prog 3 #[tabV g o A n cap, .slice D m dap] w fun e w' => e = .returned (.bool true) ∧ Below w.heap.size w w' := by
  have HX0 := Lib.hid (Blk.new w #[.int .i64 g, .int .i64 o, .slice A n cap] 24)
  have B0 := Lib.hid ((Below.refl w.heap.size w).alloc (Nat.le_refl _) (.cells #[.int .i64 g, .int .i64 o, .slice A n cap] 24))
  have HA0 := Lib.hid (hA.below B0.out)
  have HD0 := Lib.hid (hD.below B0.out)
  have HT0 := Lib.hid (hT.below B0.out (Nat.le_refl _))
  have HN := Lib.hid hn
  have HM := Lib.hid hm
  clear hA hT hn hm hD
  go_enter Tryd.func3, Tryd.ntmps3
  go_wp2_with fail
  generalize w.alloc (.cells #[.int .i64 g, .int .i64 o, .slice A n cap] 24) = w0 at *
  refine (head_any w0 HT0.out).mono ?_
  rintro e w1 ⟨rfl, b1⟩
  have HX1 := Lib.hid (HX0.out.below b1 (Nat.le_refl _))
  have HA1 := Lib.hid (HA0.out.below b1)
  have HD1 := Lib.hid (HD0.out.below b1)
  have HT1 := Lib.hid (HT0.out.below b1 (Nat.le_refl _))
  have B1 := Lib.hid (B0.out.trans (b1.mono B0.out.size))
  clear b1
  obtain ⟨z0, z1, z2⟩ := HX1.out.three
  by_cases h3 : 300 < n
  · have hd1 : decide ((300 : Int) < (n : Int)) = true := by simp; omega
    clear h3
    go_wp2
    go_ret
    exact ⟨rfl, B1.out⟩
  have hd1 : decide ((300 : Int) < (n : Int)) = false := by simp; omega
  by_cases h9 : 900 < m
  · have hd2 : decide ((900 : Int) < (m : Int)) = true := by simp; omega
    clear h3 h9
    go_wp2
    go_ret
    exact ⟨rfl, B1.out⟩
  have hd2 : decide ((900 : Int) < (m : Int)) = false := by simp; omega
  clear h3 h9
  have HY8 := Lib.hid (got_few s)
  obtain ⟨yg, yo, ys, hgs⟩ : ∃ yg yo ys, Tb.got s = ⟨yg, yo, ys⟩ := ⟨_, _, _, rfl⟩
  obtain ⟨yn, hyn⟩ : ∃ yn, ys.length = yn := ⟨_, rfl⟩
  obtain ⟨OK, hok⟩ : ∃ OK, Tb.ok s = OK := ⟨_, rfl⟩
  rw [hgs] at HY8
  have HYN := Lib.hid hyn
  have HY9 := Lib.hid (show yn ≤ 1000 by have := HY8.out; simp only at this; omega)
  have HGT := Lib.hid (tget_is D dap m yn s yg yo ys OK w1 HM.out hdc HD1.out HT1.out hgs hok hyn)
  have HGR := Lib.hid (fun (W : World) (hD : Lies W D (cells s)) => rget_is D dap m yn s yg yo ys OK W HM.out hdc hD hgs hok hyn)
  clear hgs hyn hok HY8
  go_wp2_with fail
  refine HGT.out.mono ?_
  rintro e wA ⟨YA, yc, rfl, hyc, hya, b2⟩
  have ba : Below wA.heap.size wA (wA.alloc (.cells #[.int .i64 yg, .int .i64 yo, .slice YA yn yc] 24)) := (Below.refl _ _).alloc (Nat.le_refl _) _
  have bb := b2.trans (ba.mono b2.size)
  have HX2 := Lib.hid (HX1.out.below bb (Nat.le_refl _))
  have HA2 := Lib.hid (HA1.out.below bb)
  have HD2 := Lib.hid (HD1.out.below bb)
  have HT2 := Lib.hid (HT1.out.below bb (Nat.le_refl _))
  have B2 := Lib.hid (B1.out.trans (bb.mono B1.out.size))
  have HYA := Lib.hid (hya.below ba)
  have HYX := Lib.hid (Blk.new wA #[.int .i64 yg, .int .i64 yo, .slice YA yn yc] 24)
  clear ba bb b2 hya hyc z0 z1 z2 hd1 hd2 HGT
  go_wp2_with fail
  generalize wA.alloc (.cells #[.int .i64 yg, .int .i64 yo, .slice YA yn yc] 24) = wB at *
  generalize wA.heap.size = X6 at *
  refine (HGR.out wB HD2.out).mono ?_
  rintro e wC ⟨YB, yd, rfl, hyd, hyb, b3⟩
  have ba : Below wC.heap.size wC (wC.alloc (.cells #[.int .i64 yg, .int .i64 yo, .slice YB yn yd] 24)) := (Below.refl _ _).alloc (Nat.le_refl _) _
  have bb := b3.trans (ba.mono b3.size)
  have HX3 := Lib.hid (HX2.out.below bb (Nat.le_refl _))
  have HA3 := Lib.hid (HA2.out.below bb)
  have HT3 := Lib.hid (HT2.out.below bb (Nat.le_refl _))
  have B3 := Lib.hid (B2.out.trans (bb.mono B2.out.size))
  have HYA3 := Lib.hid (HYA.out.below bb)
  have HYX3 := Lib.hid (HYX.out.below bb (Nat.le_refl _))
  have HYB := Lib.hid (hyb.below ba)
  have HYZ := Lib.hid (Blk.new wC #[.int .i64 yg, .int .i64 yo, .slice YB yn yd] 24)
  clear ba bb b3 hyb hyd HGR
  go_wp2
  generalize wC.alloc (.cells #[.int .i64 yg, .int .i64 yo, .slice YB yn yd] 24) = wD at *
  generalize wC.heap.size = X8 at *
  have LO9 := Lib.hid (few_ord ⟨g, o, xs⟩)
  have LF9 := Lib.hid (few_free ⟨g, o, xs⟩)
  have HLT := Lib.hid (fun (W : World) (hW : Below wD.heap.size wD W) => load_tab W w.heap.size g o A n cap (HX3.out.below hW (Nat.le_refl _)))
  have HL6 := Lib.hid (fun (W : World) (hW : Below wD.heap.size wD W) => load_tab W X6 yg yo YA yn yc (HYX3.out.below hW (Nat.le_refl _)))
  have HL8 := Lib.hid (fun (W : World) (hW : Below wD.heap.size wD W) => load_tab W X8 yg yo YB yn yd (HYZ.out.below hW (Nat.le_refl _)))
  have HSM := Lib.hid (fun (W : World) (hW : Below wD.heap.size wD W) => rsame_is yg yo YA yc yn ys yg yo YB yd yn ys W true HYN.out HYN.out HY9.out (HYA3.out.below hW) (HYB.out.below hW) (decide_eq_true rfl))
  have HAW := Lib.hid (fun (W : World) (hW : Below wD.heap.size wD W) => HA3.out.below hW)
  have HTW := Lib.hid (fun (W : World) (hW : Below wD.heap.size wD W) => HT3.out.below hW (Nat.le_refl _))
  obtain ⟨R, hR⟩ : ∃ R, Tb.right ⟨g, o, xs⟩ = R := ⟨_, rfl⟩
  obtain ⟨V, hV⟩ : ∃ V, (if Tb.right ⟨g, o, xs⟩ = true then Tb.last xs else 0) = V := ⟨_, rfl⟩
  obtain ⟨LO, hLO⟩ : ∃ LO, (if Tb.right ⟨g, o, xs⟩ = true then Tb.ord xs else []) = LO := ⟨_, rfl⟩
  obtain ⟨LF, hLF⟩ : ∃ LF, (if Tb.right ⟨g, o, xs⟩ = true then Tb.free xs else []) = LF := ⟨_, rfl⟩
  obtain ⟨no, hno⟩ : ∃ no, LO.length = no := ⟨_, rfl⟩
  obtain ⟨nf, hnf⟩ : ∃ nf, LF.length = nf := ⟨_, rfl⟩
  obtain ⟨PB, hPB⟩ : ∃ PB, Tb.put ⟨g, o, xs⟩ = PB := ⟨_, rfl⟩
  obtain ⟨L, hL⟩ : ∃ L, PB.length = L := ⟨_, rfl⟩
  obtain ⟨SP, hSP⟩ : ∃ SP, str PB = SP := ⟨_, rfl⟩
  rw [hLO, hno] at LO9
  rw [hLF, hnf] at LF9
  have HNO := Lib.hid hno
  have HNF := Lib.hid hnf
  have HPL := Lib.hid hL
  have HSP := Lib.hid hSP
  have HCR := Lib.hid (fun (W : World) (hW : Below wD.heap.size wD W) => tright_is g o A cap n xs W R HN.out hc (HAW.out W hW) hR)
  have HRR := Lib.hid (fun (W : World) (hW : Below wD.heap.size wD W) => rright_is g o A cap n xs W R HN.out (HAW.out W hW) hR)
  have HPW := Lib.hid (fun (W : World) (hW : Below wD.heap.size wD W) => tput_lies g o A cap n L xs W HN.out hc (by rw [hPB]; exact hL) (HAW.out W hW) (HTW.out W hW))
  have HRP := Lib.hid (fun (W : World) (hW : Below wD.heap.size wD W) => rtput_any g o A cap n xs W HN.out (HAW.out W hW))
  have HTO := Lib.hid (fun (W : World) (hW : Below wD.heap.size wD W) => torder_is g o A cap n no xs LO W HN.out hc (HAW.out W hW) hLO hno)
  have HRO := Lib.hid (fun (W : World) (hW : Below wD.heap.size wD W) => rorder_is g o A cap n no xs LO W HN.out (HAW.out W hW) hLO hno)
  have HTF := Lib.hid (fun (W : World) (hW : Below wD.heap.size wD W) => tfree_is g o A cap n nf xs LF W HN.out hc (HAW.out W hW) hLF hnf)
  have HRF := Lib.hid (fun (W : World) (hW : Below wD.heap.size wD W) => rfree_is g o A cap n nf xs LF W HN.out (HAW.out W hW) hLF hnf)
  have HTL := Lib.hid (fun (W : World) (hW : Below wD.heap.size wD W) => tlast_is g o A cap n xs W V HN.out hc (HAW.out W hW) hV)
  have HRL := Lib.hid (fun (W : World) (hW : Below wD.heap.size wD W) => rlast_is g o A cap n xs W V HN.out (HAW.out W hW) hV)
  have HEI := Lib.hid (fun (W : World) => show (binOp .eql 2 (.int .i64 V) (.int .i64 V)).run Tryd.prog W = .ok (.bool true) W by go_simp)
  rw [hPB] at HPW HRP
  clear hR hV hLO hLF hno hnf hPB hL hSP
  refine wp_softS (by kernel_rfl) 79 [(31, [5]), (32, [31]), (33, [2, 32]), (34, [33, 32]), (35, [2, 32]), (36, [35, 32]), (37, [34, 36, 32]), (38, [32, 37]), (39, [38]), (40, [2, 39]), (41, [40, 39]), (42, [41, 39]), (43, [2, 39]), (44, [43, 39]), (45, [44, 39]), (46, [42, 45, 39]), (47, [39, 46]), (48, [47]), (49, [2, 48]), (50, [49, 48]), (51, [2, 48]), (52, [51, 48]), (53, [50, 52, 48]), (54, [48, 53]), (55, [54]), (56, [2, 55]), (57, [56, 55]), (58, [2, 55]), (59, [58, 55]), (60, [57, 59, 55]), (61, [55, 60]), (62, [61]), (63, [2, 62]), (64, [63, 62]), (65, [2, 62]), (66, [65, 62]), (67, [64, 66, 62]), (68, [62, 67]), (69, [68]), (70, [6, 69]), (71, [8, 69]), (72, [70, 71, 69]), (73, [69, 72]), (74, [73]), (75, [7, 74]), (76, [9, 74]), (77, [75, 76, 74]), (78, [74, 77]), (4, [78])]
    [Fact.is (.bool true), Fact.is (.bool true), Fact.is (tabV g o A n cap), Fact.is (.bool R), Fact.is (tabV g o A n cap), Fact.is (.bool R), Fact.is (.bool true), Fact.is (.bool true), Fact.is (.bool true), Fact.is (tabV g o A n cap), Fact.lies PB L, Fact.is (.string SP), Fact.is (tabV g o A n cap), Fact.own PB, Fact.is (.string SP), Fact.is (.bool true), Fact.is (.bool true), Fact.is (.bool true), Fact.is (tabV g o A n cap), Fact.places LO no, Fact.is (tabV g o A n cap), Fact.places LO no, Fact.is (.bool true), Fact.is (.bool true), Fact.is (.bool true), Fact.is (tabV g o A n cap), Fact.places LF nf, Fact.is (tabV g o A n cap), Fact.places LF nf, Fact.is (.bool true), Fact.is (.bool true), Fact.is (.bool true), Fact.is (tabV g o A n cap), Fact.is (.int .i64 V), Fact.is (tabV g o A n cap), Fact.is (.int .i64 V), Fact.is (.bool true), Fact.is (.bool true), Fact.is (.bool true), Fact.is (tabV yg yo YA yn yc), Fact.is (tabV yg yo YB yn yd), Fact.is (.bool true), Fact.is (.bool true), Fact.is (.bool true), Fact.is (.bool OK), Fact.is (.bool OK), Fact.is (.bool true), Fact.is (.bool true), Fact.is (.bool true)]
    (by kernel_rfl) rfl rfl ⟨?s0, ?s1, ?s2, ?s3, ?s4, ?s5, ?s6, ?s7, ?s8, ?s9, ?s10, ?s11, ?s12, ?s13, ?s14, ?s15, ?s16, ?s17, ?s18, ?s19, ?s20, ?s21, ?s22, ?s23, ?s24, ?s25, ?s26, ?s27, ?s28, ?s29, ?s30, ?s31, ?s32, ?s33, ?s34, ?s35, ?s36, ?s37, ?s38, ?s39, ?s40, ?s41, ?s42, ?s43, ?s44, ?s45, ?s46, ?s47, ?s48, trivial⟩ ?fin
  case s0 =>
    intro ρ W hb hc hf hr
    obtain ⟨r5, -⟩ := hr
    have e5 : ρ (.tmp 5) = .bool true := r5
    clear r5
    refine under_none rfl ?_
    exact ⟨e5, Below.refl _ _⟩
  case s1 =>
    intro ρ W hb hc hf hr
    obtain ⟨r31, -⟩ := hr
    have e31 : ρ (.tmp 31) = .bool true := r31
    clear r31
    refine under_none rfl ?_
    exact ⟨e31, Below.refl _ _⟩
  case s2 =>
    intro ρ W hb hc hf hr
    obtain ⟨r2, r32, -⟩ := hr
    have e2 : ρ (.tmp 2) = .pointer (some ⟨w.heap.size, 0, none⟩) := r2
    clear r2
    have e32 : ρ (.tmp 32) = .bool true := r32
    clear r32
    refine ⟨32, rfl, .inl ⟨e32, ?_⟩⟩
    exact soft_load e2 (HLT.out W (undrew hb)) rfl
  case s3 =>
    intro ρ W hb hc hf hr
    obtain ⟨r33, r32, -⟩ := hr
    have e33 : ρ (.tmp 33) = tabV g o A n cap := r33
    clear r33
    have e32 : ρ (.tmp 32) = .bool true := r32
    clear r32
    refine ⟨32, rfl, .inl ⟨e32, ?_⟩⟩
    exact soft_call1 hf e33 (HCR.out W (undrew hb)) rfl (by kernel_rfl) below_is
  case s4 =>
    intro ρ W hb hc hf hr
    obtain ⟨r2, r32, -⟩ := hr
    have e2 : ρ (.tmp 2) = .pointer (some ⟨w.heap.size, 0, none⟩) := r2
    clear r2
    have e32 : ρ (.tmp 32) = .bool true := r32
    clear r32
    refine ⟨32, rfl, .inl ⟨e32, ?_⟩⟩
    exact soft_load e2 (HLT.out W (undrew hb)) rfl
  case s5 =>
    intro ρ W hb hc hf hr
    obtain ⟨r35, r32, -⟩ := hr
    have e35 : ρ (.tmp 35) = tabV g o A n cap := r35
    clear r35
    have e32 : ρ (.tmp 32) = .bool true := r32
    clear r32
    refine ⟨32, rfl, .inl ⟨e32, ?_⟩⟩
    exact soft_call1 hf e35 (HRR.out W (undrew hb)) rfl (by kernel_rfl) below_is
  case s6 =>
    intro ρ W hb hc hf hr
    obtain ⟨r34, r36, r32, -⟩ := hr
    have e34 : ρ (.tmp 34) = .bool R := r34
    clear r34
    have e36 : ρ (.tmp 36) = .bool R := r36
    clear r36
    have e32 : ρ (.tmp 32) = .bool true := r32
    clear r32
    refine ⟨32, rfl, .inl ⟨e32, ?_⟩⟩
    exact soft_bin e34 e36 rfl rfl (eqb9 W R)
  case s7 =>
    intro ρ W hb hc hf hr
    obtain ⟨r32, r37, -⟩ := hr
    have e32 : ρ (.tmp 32) = .bool true := r32
    clear r32
    have e37 : ρ (.tmp 37) = .bool true := r37
    clear r37
    refine under_none rfl ?_
    simp [execOp, e32, e37, go_sem, softUpon, Fact.is, Below.refl]
  case s8 =>
    intro ρ W hb hc hf hr
    obtain ⟨r38, -⟩ := hr
    have e38 : ρ (.tmp 38) = .bool true := r38
    clear r38
    refine under_none rfl ?_
    exact ⟨e38, Below.refl _ _⟩
  case s9 =>
    intro ρ W hb hc hf hr
    obtain ⟨r2, r39, -⟩ := hr
    have e2 : ρ (.tmp 2) = .pointer (some ⟨w.heap.size, 0, none⟩) := r2
    clear r2
    have e39 : ρ (.tmp 39) = .bool true := r39
    clear r39
    refine ⟨39, rfl, .inl ⟨e39, ?_⟩⟩
    exact soft_load e2 (HLT.out W (undrew hb)) rfl
  case s10 =>
    intro ρ W hb hc hf hr
    obtain ⟨r40, r39, -⟩ := hr
    have e40 : ρ (.tmp 40) = tabV g o A n cap := r40
    clear r40
    have e39 : ρ (.tmp 39) = .bool true := r39
    clear r39
    refine ⟨39, rfl, .inl ⟨e39, ?_⟩⟩
    exact soft_call1 hf e40 (HPW.out W (undrew hb)) rfl (by kernel_rfl) lies_is
  case s11 =>
    intro ρ W hb hc hf hr
    obtain ⟨r41, r39, -⟩ := hr
    have e39 : ρ (.tmp 39) = .bool true := r39
    clear r39
    refine ⟨39, rfl, .inl ⟨e39, ?_⟩⟩
    exact soft_lies r41 HPL.out HSP.out rfl
  case s12 =>
    intro ρ W hb hc hf hr
    obtain ⟨r2, r39, -⟩ := hr
    have e2 : ρ (.tmp 2) = .pointer (some ⟨w.heap.size, 0, none⟩) := r2
    clear r2
    have e39 : ρ (.tmp 39) = .bool true := r39
    clear r39
    refine ⟨39, rfl, .inl ⟨e39, ?_⟩⟩
    exact soft_load e2 (HLT.out W (undrew hb)) rfl
  case s13 =>
    intro ρ W hb hc hf hr
    obtain ⟨r43, r39, -⟩ := hr
    have e43 : ρ (.tmp 43) = tabV g o A n cap := r43
    clear r43
    have e39 : ρ (.tmp 39) = .bool true := r39
    clear r39
    refine ⟨39, rfl, .inl ⟨e39, ?_⟩⟩
    exact soft_call1 hf e43 (HRP.out W (undrew hb)) rfl (by kernel_rfl) made_own
  case s14 =>
    intro ρ W hb hc hf hr
    obtain ⟨r44, r39, -⟩ := hr
    have e39 : ρ (.tmp 39) = .bool true := r39
    clear r39
    refine ⟨39, rfl, .inl ⟨e39, ?_⟩⟩
    rw [← HSP.out]; exact soft_own r44 rfl
  case s15 =>
    intro ρ W hb hc hf hr
    obtain ⟨r42, r45, r39, -⟩ := hr
    have e42 : ρ (.tmp 42) = .string SP := r42
    clear r42
    have e45 : ρ (.tmp 45) = .string SP := r45
    clear r45
    have e39 : ρ (.tmp 39) = .bool true := r39
    clear r39
    refine ⟨39, rfl, .inl ⟨e39, ?_⟩⟩
    exact soft_bin e42 e45 rfl rfl (eqs9 W SP)
  case s16 =>
    intro ρ W hb hc hf hr
    obtain ⟨r39, r46, -⟩ := hr
    have e39 : ρ (.tmp 39) = .bool true := r39
    clear r39
    have e46 : ρ (.tmp 46) = .bool true := r46
    clear r46
    refine under_none rfl ?_
    simp [execOp, e39, e46, go_sem, softUpon, Fact.is, Below.refl]
  case s17 =>
    intro ρ W hb hc hf hr
    obtain ⟨r47, -⟩ := hr
    have e47 : ρ (.tmp 47) = .bool true := r47
    clear r47
    refine under_none rfl ?_
    exact ⟨e47, Below.refl _ _⟩
  case s18 =>
    intro ρ W hb hc hf hr
    obtain ⟨r2, r48, -⟩ := hr
    have e2 : ρ (.tmp 2) = .pointer (some ⟨w.heap.size, 0, none⟩) := r2
    clear r2
    have e48 : ρ (.tmp 48) = .bool true := r48
    clear r48
    refine ⟨48, rfl, .inl ⟨e48, ?_⟩⟩
    exact soft_load e2 (HLT.out W (undrew hb)) rfl
  case s19 =>
    intro ρ W hb hc hf hr
    obtain ⟨r49, r48, -⟩ := hr
    have e49 : ρ (.tmp 49) = tabV g o A n cap := r49
    clear r49
    have e48 : ρ (.tmp 48) = .bool true := r48
    clear r48
    refine ⟨48, rfl, .inl ⟨e48, ?_⟩⟩
    exact soft_call1 hf e49 (HTO.out W (undrew hb)) rfl (by kernel_rfl) places_is
  case s20 =>
    intro ρ W hb hc hf hr
    obtain ⟨r2, r48, -⟩ := hr
    have e2 : ρ (.tmp 2) = .pointer (some ⟨w.heap.size, 0, none⟩) := r2
    clear r2
    have e48 : ρ (.tmp 48) = .bool true := r48
    clear r48
    refine ⟨48, rfl, .inl ⟨e48, ?_⟩⟩
    exact soft_load e2 (HLT.out W (undrew hb)) rfl
  case s21 =>
    intro ρ W hb hc hf hr
    obtain ⟨r51, r48, -⟩ := hr
    have e51 : ρ (.tmp 51) = tabV g o A n cap := r51
    clear r51
    have e48 : ρ (.tmp 48) = .bool true := r48
    clear r48
    refine ⟨48, rfl, .inl ⟨e48, ?_⟩⟩
    exact soft_call1 hf e51 (HRO.out W (undrew hb)) rfl (by kernel_rfl) (fun _ _ h => h)
  case s22 =>
    intro ρ W hb hc hf hr
    obtain ⟨r50, r52, r48, -⟩ := hr
    have e48 : ρ (.tmp 48) = .bool true := r48
    clear r48
    refine ⟨48, rfl, .inl ⟨e48, ?_⟩⟩
    exact soft_sameP hf r50 r52 HNO.out LO9.out rfl
  case s23 =>
    intro ρ W hb hc hf hr
    obtain ⟨r48, r53, -⟩ := hr
    have e48 : ρ (.tmp 48) = .bool true := r48
    clear r48
    have e53 : ρ (.tmp 53) = .bool true := r53
    clear r53
    refine under_none rfl ?_
    simp [execOp, e48, e53, go_sem, softUpon, Fact.is, Below.refl]
  case s24 =>
    intro ρ W hb hc hf hr
    obtain ⟨r54, -⟩ := hr
    have e54 : ρ (.tmp 54) = .bool true := r54
    clear r54
    refine under_none rfl ?_
    exact ⟨e54, Below.refl _ _⟩
  case s25 =>
    intro ρ W hb hc hf hr
    obtain ⟨r2, r55, -⟩ := hr
    have e2 : ρ (.tmp 2) = .pointer (some ⟨w.heap.size, 0, none⟩) := r2
    clear r2
    have e55 : ρ (.tmp 55) = .bool true := r55
    clear r55
    refine ⟨55, rfl, .inl ⟨e55, ?_⟩⟩
    exact soft_load e2 (HLT.out W (undrew hb)) rfl
  case s26 =>
    intro ρ W hb hc hf hr
    obtain ⟨r56, r55, -⟩ := hr
    have e56 : ρ (.tmp 56) = tabV g o A n cap := r56
    clear r56
    have e55 : ρ (.tmp 55) = .bool true := r55
    clear r55
    refine ⟨55, rfl, .inl ⟨e55, ?_⟩⟩
    exact soft_call1 hf e56 (HTF.out W (undrew hb)) rfl (by kernel_rfl) places_is
  case s27 =>
    intro ρ W hb hc hf hr
    obtain ⟨r2, r55, -⟩ := hr
    have e2 : ρ (.tmp 2) = .pointer (some ⟨w.heap.size, 0, none⟩) := r2
    clear r2
    have e55 : ρ (.tmp 55) = .bool true := r55
    clear r55
    refine ⟨55, rfl, .inl ⟨e55, ?_⟩⟩
    exact soft_load e2 (HLT.out W (undrew hb)) rfl
  case s28 =>
    intro ρ W hb hc hf hr
    obtain ⟨r58, r55, -⟩ := hr
    have e58 : ρ (.tmp 58) = tabV g o A n cap := r58
    clear r58
    have e55 : ρ (.tmp 55) = .bool true := r55
    clear r55
    refine ⟨55, rfl, .inl ⟨e55, ?_⟩⟩
    exact soft_call1 hf e58 (HRF.out W (undrew hb)) rfl (by kernel_rfl) (fun _ _ h => h)
  case s29 =>
    intro ρ W hb hc hf hr
    obtain ⟨r57, r59, r55, -⟩ := hr
    have e55 : ρ (.tmp 55) = .bool true := r55
    clear r55
    refine ⟨55, rfl, .inl ⟨e55, ?_⟩⟩
    exact soft_sameP hf r57 r59 HNF.out LF9.out rfl
  case s30 =>
    intro ρ W hb hc hf hr
    obtain ⟨r55, r60, -⟩ := hr
    have e55 : ρ (.tmp 55) = .bool true := r55
    clear r55
    have e60 : ρ (.tmp 60) = .bool true := r60
    clear r60
    refine under_none rfl ?_
    simp [execOp, e55, e60, go_sem, softUpon, Fact.is, Below.refl]
  case s31 =>
    intro ρ W hb hc hf hr
    obtain ⟨r61, -⟩ := hr
    have e61 : ρ (.tmp 61) = .bool true := r61
    clear r61
    refine under_none rfl ?_
    exact ⟨e61, Below.refl _ _⟩
  case s32 =>
    intro ρ W hb hc hf hr
    obtain ⟨r2, r62, -⟩ := hr
    have e2 : ρ (.tmp 2) = .pointer (some ⟨w.heap.size, 0, none⟩) := r2
    clear r2
    have e62 : ρ (.tmp 62) = .bool true := r62
    clear r62
    refine ⟨62, rfl, .inl ⟨e62, ?_⟩⟩
    exact soft_load e2 (HLT.out W (undrew hb)) rfl
  case s33 =>
    intro ρ W hb hc hf hr
    obtain ⟨r63, r62, -⟩ := hr
    have e63 : ρ (.tmp 63) = tabV g o A n cap := r63
    clear r63
    have e62 : ρ (.tmp 62) = .bool true := r62
    clear r62
    refine ⟨62, rfl, .inl ⟨e62, ?_⟩⟩
    exact soft_call1 hf e63 (HTL.out W (undrew hb)) rfl (by kernel_rfl) below_is
  case s34 =>
    intro ρ W hb hc hf hr
    obtain ⟨r2, r62, -⟩ := hr
    have e2 : ρ (.tmp 2) = .pointer (some ⟨w.heap.size, 0, none⟩) := r2
    clear r2
    have e62 : ρ (.tmp 62) = .bool true := r62
    clear r62
    refine ⟨62, rfl, .inl ⟨e62, ?_⟩⟩
    exact soft_load e2 (HLT.out W (undrew hb)) rfl
  case s35 =>
    intro ρ W hb hc hf hr
    obtain ⟨r65, r62, -⟩ := hr
    have e65 : ρ (.tmp 65) = tabV g o A n cap := r65
    clear r65
    have e62 : ρ (.tmp 62) = .bool true := r62
    clear r62
    refine ⟨62, rfl, .inl ⟨e62, ?_⟩⟩
    exact soft_call1 hf e65 (HRL.out W (undrew hb)) rfl (by kernel_rfl) below_is
  case s36 =>
    intro ρ W hb hc hf hr
    obtain ⟨r64, r66, r62, -⟩ := hr
    have e64 : ρ (.tmp 64) = .int .i64 V := r64
    clear r64
    have e66 : ρ (.tmp 66) = .int .i64 V := r66
    clear r66
    have e62 : ρ (.tmp 62) = .bool true := r62
    clear r62
    refine ⟨62, rfl, .inl ⟨e62, ?_⟩⟩
    exact soft_bin e64 e66 rfl rfl (HEI.out W)
  case s37 =>
    intro ρ W hb hc hf hr
    obtain ⟨r62, r67, -⟩ := hr
    have e62 : ρ (.tmp 62) = .bool true := r62
    clear r62
    have e67 : ρ (.tmp 67) = .bool true := r67
    clear r67
    refine under_none rfl ?_
    simp [execOp, e62, e67, go_sem, softUpon, Fact.is, Below.refl]
  case s38 =>
    intro ρ W hb hc hf hr
    obtain ⟨r68, -⟩ := hr
    have e68 : ρ (.tmp 68) = .bool true := r68
    clear r68
    refine under_none rfl ?_
    exact ⟨e68, Below.refl _ _⟩
  case s39 =>
    intro ρ W hb hc hf hr
    obtain ⟨r6, r69, -⟩ := hr
    have e6 : ρ (.tmp 6) = .pointer (some ⟨X6, 0, none⟩) := r6
    clear r6
    have e69 : ρ (.tmp 69) = .bool true := r69
    clear r69
    refine ⟨69, rfl, .inl ⟨e69, ?_⟩⟩
    exact soft_load e6 (HL6.out W (undrew hb)) rfl
  case s40 =>
    intro ρ W hb hc hf hr
    obtain ⟨r8, r69, -⟩ := hr
    have e8 : ρ (.tmp 8) = .pointer (some ⟨X8, 0, none⟩) := r8
    clear r8
    have e69 : ρ (.tmp 69) = .bool true := r69
    clear r69
    refine ⟨69, rfl, .inl ⟨e69, ?_⟩⟩
    exact soft_load e8 (HL8.out W (undrew hb)) rfl
  case s41 =>
    intro ρ W hb hc hf hr
    obtain ⟨r70, r71, r69, -⟩ := hr
    have e70 : ρ (.tmp 70) = tabV yg yo YA yn yc := r70
    clear r70
    have e71 : ρ (.tmp 71) = tabV yg yo YB yn yd := r71
    clear r71
    have e69 : ρ (.tmp 69) = .bool true := r69
    clear r69
    refine ⟨69, rfl, .inl ⟨e69, ?_⟩⟩
    exact soft_call2 hf e70 e71 (HSM.out W (undrew hb)) rfl (by kernel_rfl) below_is
  case s42 =>
    intro ρ W hb hc hf hr
    obtain ⟨r69, r72, -⟩ := hr
    have e69 : ρ (.tmp 69) = .bool true := r69
    clear r69
    have e72 : ρ (.tmp 72) = .bool true := r72
    clear r72
    refine under_none rfl ?_
    simp [execOp, e69, e72, go_sem, softUpon, Fact.is, Below.refl]
  case s43 =>
    intro ρ W hb hc hf hr
    obtain ⟨r73, -⟩ := hr
    have e73 : ρ (.tmp 73) = .bool true := r73
    clear r73
    refine under_none rfl ?_
    exact ⟨e73, Below.refl _ _⟩
  case s44 =>
    intro ρ W hb hc hf hr
    obtain ⟨r7, r74, -⟩ := hr
    have e7 : ρ (.tmp 7) = .bool OK := r7
    clear r7
    have e74 : ρ (.tmp 74) = .bool true := r74
    clear r74
    refine ⟨74, rfl, .inl ⟨e74, ?_⟩⟩
    exact ⟨e7, Below.refl _ _⟩
  case s45 =>
    intro ρ W hb hc hf hr
    obtain ⟨r9, r74, -⟩ := hr
    have e9 : ρ (.tmp 9) = .bool OK := r9
    clear r9
    have e74 : ρ (.tmp 74) = .bool true := r74
    clear r74
    refine ⟨74, rfl, .inl ⟨e74, ?_⟩⟩
    exact ⟨e9, Below.refl _ _⟩
  case s46 =>
    intro ρ W hb hc hf hr
    obtain ⟨r75, r76, r74, -⟩ := hr
    have e75 : ρ (.tmp 75) = .bool OK := r75
    clear r75
    have e76 : ρ (.tmp 76) = .bool OK := r76
    clear r76
    have e74 : ρ (.tmp 74) = .bool true := r74
    clear r74
    refine ⟨74, rfl, .inl ⟨e74, ?_⟩⟩
    exact soft_bin e75 e76 rfl rfl (eqb9 W OK)
  case s47 =>
    intro ρ W hb hc hf hr
    obtain ⟨r74, r77, -⟩ := hr
    have e74 : ρ (.tmp 74) = .bool true := r74
    clear r74
    have e77 : ρ (.tmp 77) = .bool true := r77
    clear r77
    refine under_none rfl ?_
    simp [execOp, e74, e77, go_sem, softUpon, Fact.is, Below.refl]
  case s48 =>
    intro ρ W hb hc hf hr
    obtain ⟨r78, -⟩ := hr
    have e78 : ρ (.tmp 78) = .bool true := r78
    clear r78
    refine under_none rfl ?_
    exact ⟨e78, Below.refl _ _⟩
  case fin =>
    intro a w1 hb hd hsz hk
    have ea := act_puts hd hsz rfl hk
    have k31 : a.tmps.getD 31 undef = .bool true := hk 31
    have k32 : a.tmps.getD 32 undef = .bool true := hk 32
    have k33 : a.tmps.getD 33 undef = tabV g o A n cap := hk 33
    have k34 : a.tmps.getD 34 undef = .bool R := hk 34
    have k35 : a.tmps.getD 35 undef = tabV g o A n cap := hk 35
    have k36 : a.tmps.getD 36 undef = .bool R := hk 36
    have k37 : a.tmps.getD 37 undef = .bool true := hk 37
    have k38 : a.tmps.getD 38 undef = .bool true := hk 38
    have k39 : a.tmps.getD 39 undef = .bool true := hk 39
    have k40 : a.tmps.getD 40 undef = tabV g o A n cap := hk 40
    have k41 : (Fact.lies PB L).φ (a.tmps.getD 41 undef) w1 := hk 41
    have k42 : a.tmps.getD 42 undef = .string SP := hk 42
    have k43 : a.tmps.getD 43 undef = tabV g o A n cap := hk 43
    have k44 : (Fact.own PB).φ (a.tmps.getD 44 undef) w1 := hk 44
    have k45 : a.tmps.getD 45 undef = .string SP := hk 45
    have k46 : a.tmps.getD 46 undef = .bool true := hk 46
    have k47 : a.tmps.getD 47 undef = .bool true := hk 47
    have k48 : a.tmps.getD 48 undef = .bool true := hk 48
    have k49 : a.tmps.getD 49 undef = tabV g o A n cap := hk 49
    have k50 : (Fact.places LO no).φ (a.tmps.getD 50 undef) w1 := hk 50
    have k51 : a.tmps.getD 51 undef = tabV g o A n cap := hk 51
    have k52 : (Fact.places LO no).φ (a.tmps.getD 52 undef) w1 := hk 52
    have k53 : a.tmps.getD 53 undef = .bool true := hk 53
    have k54 : a.tmps.getD 54 undef = .bool true := hk 54
    have k55 : a.tmps.getD 55 undef = .bool true := hk 55
    have k56 : a.tmps.getD 56 undef = tabV g o A n cap := hk 56
    have k57 : (Fact.places LF nf).φ (a.tmps.getD 57 undef) w1 := hk 57
    have k58 : a.tmps.getD 58 undef = tabV g o A n cap := hk 58
    have k59 : (Fact.places LF nf).φ (a.tmps.getD 59 undef) w1 := hk 59
    have k60 : a.tmps.getD 60 undef = .bool true := hk 60
    have k61 : a.tmps.getD 61 undef = .bool true := hk 61
    have k62 : a.tmps.getD 62 undef = .bool true := hk 62
    have k63 : a.tmps.getD 63 undef = tabV g o A n cap := hk 63
    have k64 : a.tmps.getD 64 undef = .int .i64 V := hk 64
    have k65 : a.tmps.getD 65 undef = tabV g o A n cap := hk 65
    have k66 : a.tmps.getD 66 undef = .int .i64 V := hk 66
    have k67 : a.tmps.getD 67 undef = .bool true := hk 67
    have k68 : a.tmps.getD 68 undef = .bool true := hk 68
    have k69 : a.tmps.getD 69 undef = .bool true := hk 69
    have k70 : a.tmps.getD 70 undef = tabV yg yo YA yn yc := hk 70
    have k71 : a.tmps.getD 71 undef = tabV yg yo YB yn yd := hk 71
    have k72 : a.tmps.getD 72 undef = .bool true := hk 72
    have k73 : a.tmps.getD 73 undef = .bool true := hk 73
    have k74 : a.tmps.getD 74 undef = .bool true := hk 74
    have k75 : a.tmps.getD 75 undef = .bool OK := hk 75
    have k76 : a.tmps.getD 76 undef = .bool OK := hk 76
    have k77 : a.tmps.getD 77 undef = .bool true := hk 77
    have k78 : a.tmps.getD 78 undef = .bool true := hk 78
    have k4 : a.tmps.getD 4 undef = .bool true := hk 4
    clear hk hd hsz
    simp only [List.map_cons, List.map_nil, List.foldl_cons, List.foldl_nil, k31, k32, k33, k34, k35, k36, k37, k38, k39, k40, k42, k43, k45, k46, k47, k48, k49, k51, k53, k54, k55, k56, k58, k60, k61, k62, k63, k64, k65, k66, k67, k68, k69, k70, k71, k72, k73, k74, k75, k76, k77, k78, k4] at ea
    clear k31 k32 k33 k34 k35 k36 k37 k38 k39 k40 k42 k43 k45 k46 k47 k48 k49 k51 k53 k54 k55 k56 k58 k60 k61 k62 k63 k64 k65 k66 k67 k68 k69 k70 k71 k72 k73 k74 k75 k76 k77 k78 k4
    generalize a.tmps.getD 41 undef = v41 at ea k41
    generalize a.tmps.getD 44 undef = v44 at ea k44
    generalize a.tmps.getD 50 undef = v50 at ea k50
    generalize a.tmps.getD 52 undef = v52 at ea k52
    generalize a.tmps.getD 57 undef = v57 at ea k57
    generalize a.tmps.getD 59 undef = v59 at ea k59
    simp only [Act.put, List.setIfInBounds_toArray, List.set_cons_succ, List.set_cons_zero] at ea
    subst ea
    have c5 := B3.out.trans ((undrew hb).mono B3.out.size)
    go_wp2
    go_ret
    exact ⟨rfl, c5⟩

theorem walk (w : World) (hT : Tab w) (g o : Int) (A : Option Addr) (cap : Nat) (xs : List Tb.Ext) (hl : xs.length ≤ cap) (_ : cap ≤ maxLen) (hA : Lies w A (flatX xs)) (D : Option Addr) (dap : Nat) (s : List UInt8) (hs : s.length ≤ dap) (_ : dap ≤ maxLen) (hD : Lies w D (cells s)) :
    Calls Tryd.prog 3 #[tabV g o A xs.length cap, .slice D s.length dap] w fun e w' => e = .returned (.bool true) ∧ Below w.heap.size w w' :=
  walkN w hT g o A cap xs.length xs rfl hl hA D dap s.length s rfl hs hD


set_option maxRecDepth 100000 in
theorem lifted (os : Os) (started : os.Started) (H : Type) (enc : TypeId × Value → H) :
    ReturnsInHanded {} Tryd.checked os 3 .any (fun w args => (Rows.tableTellsSpec.pre enc Tryd.prog Tryd.f3 [] false w args ∧ laidMetH Tryd.prog laidHere w) ∧ sizedMet enc Tryd.prog Tryd.f3 (OpenSpec.ofChange Rows.tableTellsSpec) false w args) (Rows.tableTellsSpec.post enc Tryd.prog Tryd.f3 false true false false) := by
  refine returnsInHanded_of_change_and (C := Tryd.checked) (X := fun w _ => laidMetH Tryd.prog laidHere w) (fun _ _ _ hh h => h.of_heap hh) own started (by kernel_rfl) Tryd.func3
    (ChangeSpec.witness_shaped (enc := enc) (C := Tryd.checked) (os := os) (X := fun w _ => laidMetH Tryd.prog laidHere w) false (World.doorLaid Tryd.prog doorSteps os) #[.agg #[.int .i64 0, .int .i64 0, .slice none 0 0], .slice none 0 0] 8 rfl (World.shaped_of_RefB (by kernel_rfl) (by kernel_rfl)) (by kernel_rfl) (by kernel_rfl) (by kernel_rfl) (door_met os _)) ?_
  intro W base args ds gs before hval0 hW _ _ hL _
  have hval : ∀ (j : Nat) t v, Tryd.f3.params[j]? = some t → args[j]? = some v → Value.okWide Tryd.prog W .any base t v := hval0
  have hfin := fun W' => law_post (enc := enc) (P := Tryd.prog) (f := Tryd.f3) (s := Rows.tableTellsSpec) (tb := 4) (W := W) (W' := W') (args := args) (ds := ds) (gs := gs) (before := before) laidOut rfl (by kernel_rfl) Tryd.underlying4 (by kernel_rfl) (fun xs h => by rw [Tryd.params3] at h; match xs, h with | [_, _], _ => rfl) hW
  have hlt : ∀ x ∈ before, x.block < W.heap.size := fun x hx => hW.lt x hx
  obtain ⟨p, q, hA0, hV, rfl, hfz, hnd⟩ := hW
  have hA : DataW.TrodAll enc Tryd.prog W 0 (fun _ => true) true Tryd.f3.params.toList args.toList ds p := hA0
  rw [Tryd.params3] at hA hval
  obtain ⟨v0, vs0, d0, ds0, p0, q0, hargs, rfl, rfl, h0, r0⟩ := trodAll_cons hA
  obtain ⟨v1, vs1, d1, ds1, p1, q1, rfl, rfl, rfl, h1, r1⟩ := trodAll_cons r0
  obtain ⟨rfl, rfl, rfl⟩ := trodAll_nil r1
  obtain rfl : args = #[v0, v1] := by cases args; simp_all
  obtain ⟨g0, o0, A0, cap0, l0, rfl, hl0, hm0, hB0⟩ := open_table (hval 0 24 v0 rfl rfl) h0 (fun x hx => hlt x (by simp [hx]))
  obtain ⟨A1, cap1, b1, rfl, hl1, hm1, hB1⟩ := open_bytes (hval 1 25 v1 rfl rfl) h1 (fun x hx => hlt x (by simp [hx]))
  refine (walk W (of_laid hL) g0 o0 A0 cap0 l0 hl0 hm0 hB0 A1 cap1 b1 hl1 hm1 hB1).mono fun e W' ⟨he, hg⟩ => ?_
  subst he
  exact ⟨_, rfl, hfin W' hg⟩

theorem proved : Rows.TableTellsSaid :=
  OpenClaim.holds_of_wide 3 Tryd.f3 rfl rfl rfl rfl rfl rfl rfl ⟨rfl, rfl, rfl, rfl, rfl⟩ rfl rfl rfl rfl rfl (by kernel_rfl) Tryd.func3 (by kernel_rfl)
    (of_decide_eq_true (by kernel_rfl)) (by unfold Func.isWrapper; first | (rw [if_pos (by decide +kernel)]; kernel_rfl) | (rw [if_neg (by decide +kernel)]; exact ⟨rfl, rfl⟩))
    (fun os started H enc _ => lifted os started H enc)

set_option maxRecDepth 100000 in
theorem card : Rows.TableTellsCardSaid :=
  Claim7.holds_tied_plain_at .later [] laidKindsHere true _ false
    proved (fun _ h => by cases h) (by kernel_rfl) (fun _ h => by cases h) tableTells_row_tie rfl ⟨rfl, rfl⟩ (by kernel_rfl) rfl
    (fun f fn hf hfn => by
      obtain rfl : f = 3 := Option.some.inj ((show Tryd.prog.funcNamed "turntable/turntablelaw09.TableTells" = some 3 by kernel_rfl).symm.trans hf) |>.symm
      obtain rfl : fn = Tryd.f3 := (Option.some.inj (Tryd.func3.symm.trans hfn)).symm
      exact ⟨by kernel_rfl, fun j t ht => by
        rw [Tryd.params3] at ht
        have hm : t ∈ [24, 25] := Array.mem_def.1 (Array.mem_of_getElem? ht)
        have hall : ([24, 25].all fun u => !Tryd.prog.wantsStandIn u) = true := by kernel_rfl
        exact (show Tryd.prog.wantsStandIn t = false by simpa using List.all_eq_true.1 hall t hm)⟩)
    (by kernel_rfl)
#print axioms card
end Go.Proofs.YtbjaieopjkbijaaDoor.tableTells
