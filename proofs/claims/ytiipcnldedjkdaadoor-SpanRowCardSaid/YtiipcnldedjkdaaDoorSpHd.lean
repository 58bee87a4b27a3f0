/-
  Layer 3: the laws' live question (turntablelaw03.head) answers true, and turns nothing that was there. Assumed: errors.errorType is what its own text lays.
-/
import Derived.Test.YtiipcnldedjkdaaDoorSpG2
import Derived.Test.YtiipcnldedjkdaaDoorSp3
namespace Go.Proofs.YtiipcnldedjkdaaDoor
open Go.RowKit
set_option maxRecDepth 100000

/-- '==' of two spans -/
theorem eq_span (w : World) (t i p s d t' i' p' s' d' : Int) (SV NM SV' NM' : ByteArray) :
    (binOp .eql 23 (.agg #[.int .i64 t, .int .i64 i, .int .i64 p, .int .i64 s, .int .i64 d, .string SV, .string NM]) (.agg #[.int .i64 t', .int .i64 i', .int .i64 p', .int .i64 s', .int .i64 d', .string SV', .string NM'])).run Tryd.prog w
      = .ok (.bool (decide (t = t' ∧ i = i' ∧ p = p' ∧ s = s' ∧ d = d' ∧ SV.toList = SV'.toList ∧ NM.toList = NM'.toList))) w := by
  rw [run_eql_struct]
  go_simp
  repeat' split
  all_goals simp_all
theorem str_list (a : List UInt8) : (str a).toList = a := by rw [ByteArray.toList_eq]; simp [str]
theorem eq_sp (w : World) (x y : Plain.Sp) :
    (binOp .eql 23 (.agg #[.int .i64 x.t, .int .i64 x.i, .int .i64 x.p, .int .i64 x.s, .int .i64 x.d, .string (str x.sv), .string (str x.nm)]) (.agg #[.int .i64 y.t, .int .i64 y.i, .int .i64 y.p, .int .i64 y.s, .int .i64 y.d, .string (str y.sv), .string (str y.nm)])).run Tryd.prog w
      = .ok (.bool (decide (x = y))) w := by
  rw [eq_span]
  congr 2
  rw [decide_eq_decide, str_list, str_list, str_list, str_list]
  cases x; cases y
  simp

/-- the span of the live question, and its bytes -/
def s0 : Plain.Sp := ⟨5, 1, 0, 300, 2, [97], [98, 99]⟩
def s1 : Plain.Sp := ⟨5, 1, 0, 300, 2, [], [98, 99]⟩
def b0 : List UInt8 := [5, 1, 0, 172, 2, 2, 1, 97, 2, 98, 99]
theorem s0_out : s0.outp = b0 := by decide +kernel
theorem s1_out : s1.outp = [] := by decide +kernel
theorem s0_rd : Plain.Sp.rd b0 = (s0, 11, 0) := by decide +kernel

theorem own_some {w : World} {base n : Nat} {e : TypeId} {v : Value} {xs : List Value} (h : w.ownsRow base e 1 v n xs) (h0 : 0 < n) : ∃ g cap, v = .slice (some ⟨g, 0, none⟩) n cap ∧ n ≤ cap ∧ cap ≤ maxLen ∧ Lies w (some ⟨g, 0, none⟩) xs := by
  obtain ⟨A, cap, rfl, h1, h2, -, h4⟩ := own_form h
  obtain ⟨g, cap', hv, _, _⟩ := h.form h0
  injection hv with hv1 hv2 hv3
  subst hv1
  exact ⟨g, cap, rfl, h1, h2, h4⟩

set_option maxHeartbeats 8000000 in
theorem head_any (w : World) (hh : Handle w) : Calls Tryd.prog 10 #[] w fun e w' => e = .returned (.bool true) ∧ Below w.heap.size w w' := by
  have HH := Lib.hid hh
  clear hh
  go_enter Tryd.func10, Tryd.ntmps10
  go_wp2_with fail
  obtain ⟨k1, bs1, bb1, hs1⟩ := two_new w #[.int .i64 5, .int .i64 1, .int .i64 0, .int .i64 300, .int .i64 2, .string ⟨#[97]⟩, .string ⟨#[98, 99]⟩] #[.int .u8 9] 23 5
  have hP := spanPut_any (some ⟨w.heap.size + 1, 0, none⟩) 1 1 [9] s0 ((w.alloc (.cells #[.int .i64 5, .int .i64 1, .int .i64 0, .int .i64 300, .int .i64 2, .string ⟨#[97]⟩, .string ⟨#[98, 99]⟩] 23)).alloc (.cells #[.int .u8 9] 5)) rfl (by omega) (lies_made _ _ _ _ _ rfl (by simp)) (by unfold maxLen; decide) (by unfold maxLen; decide)
  rw [s0_out] at hP
  refine hP.mono ?_
  clear hP
  rintro e w1 ⟨v, rfl, ho1, hb1⟩
  obtain ⟨g1, cap1, rfl, hc1, hm1, hL1⟩ := own_some ho1 (by decide)
  clear ho1
  have e12 : ([9] ++ b0).length = 12 := rfl
  rw [e12] at hc1 ⊢
  have BS1 := (Kept.of hb1 []).blk bs1 (by simp)
  have HB1 : Below w.heap.size w w1 := k1.to.trans (hb1.mono (by omega))
  have hsz1 := hb1.size
  clear bs1 bb1 k1
  have hd := hL1.drop (k := 1) (cap := cap1) (by rw [cells_length, e12]; exact hc1)
  have hne : ¬ cap1 = 1 := by omega
  rw [if_neg hne, cells_drop] at hd
  have hdb : ([9] ++ b0).drop 1 = b0 := rfl
  rw [hdb] at hd
  have hd' : Lies w1 (some ⟨g1, 1, none⟩) (cells b0) := hd
  have hG := spanGet_any (some ⟨g1, 1, none⟩) 11 (cap1 - 1) b0 w1 (HH.out.below HH.out.lt HB1) rfl (by omega) (by unfold maxLen at *; omega) (by omega) hd'
  rw [s0_rd] at hG
  have HG := Lib.hid hG
  have HL1 := Lib.hid hL1
  have HBS := Lib.hid BS1
  have HHB := Lib.hid HB1
  clear hG hd hd' hdb hL1 BS1 HB1 e12
  unfold maxLen at hm1
  go_wp2_with fail
  refine HG.out.mono ?_
  rintro e w2 ⟨rfl, hb2⟩
  simp only [s0, str]
  have BS2 := (Kept.of hb2 []).blk HBS.out (by simp)
  have HB2 : Below w.heap.size w w2 := HHB.out.trans (hb2.mono HHB.out.size)
  have hsz2 := hb2.size
  obtain ⟨x0, x1, x2, x3, x4, x5, x6⟩ := ((Kept.of ((Below.refl _ w2).alloc (Nat.le_refl _) (.cells #[.int .i64 5, .int .i64 1, .int .i64 0, .int .i64 300, .int .i64 2, .string ⟨#[97]⟩, .string ⟨#[98, 99]⟩] 23)) []).blk BS2 (by simp)).seven
  obtain ⟨k4, bx4, bt4, hs4⟩ := two_new w2 #[.int .i64 5, .int .i64 1, .int .i64 0, .int .i64 300, .int .i64 2, .string ⟨#[97]⟩, .string ⟨#[98, 99]⟩] #[.int .i64 5, .int .i64 1, .int .i64 0, .int .i64 300, .int .i64 2, .string ⟨#[]⟩, .string ⟨#[98, 99]⟩] 23 23
  have BS4 := k4.blk BS2 (by simp)
  have HB4 : Below w.heap.size w ((w2.alloc (.cells #[.int .i64 5, .int .i64 1, .int .i64 0, .int .i64 300, .int .i64 2, .string ⟨#[97]⟩, .string ⟨#[98, 99]⟩] 23)).alloc (.cells #[.int .i64 5, .int .i64 1, .int .i64 0, .int .i64 300, .int .i64 2, .string ⟨#[]⟩, .string ⟨#[98, 99]⟩] 23)) := HB2.trans (k4.to.mono HB2.size)
  have hcv := conv_str (P := Tryd.prog) (c := cap1) ((HL1.out.below hb2).below k4.to) 24 5 Tryd.underlying24 Tryd.underlying5 9 Tryd.underlying9
  have e12 : ([9] ++ b0).length = 12 := rfl
  have estr : str ([9] ++ b0) = ⟨#[9, 5, 1, 0, 172, 2, 2, 1, 97, 2, 98, 99]⟩ := rfl
  rw [e12, estr] at hcv
  have HK4 := Lib.hid k4
  have HBS4 := Lib.hid BS4
  have HBX4 := Lib.hid bx4
  have HBT4 := Lib.hid bt4
  have HHB4 := Lib.hid HB4
  obtain ⟨s0, s1, s2, s3, s4, s5, s6⟩ := BS4.seven
  obtain ⟨t0, t1, t2, t3, t4, t5, t6⟩ := bt4.seven
  obtain ⟨q0, q1, q2, q3, q4, q5, q6⟩ := bx4.seven
  clear BS2 HB2 k4 bx4 bt4 BS4 HB4 e12 estr
  go_wp2_with fail
  clear x0 x1 x2 x3 x4 x5 x6 q0 q1 q2 q3 q4 q5 q6 t0 t1 t2 t3 t4 t5 t6 hcv
  clear s0 s1 s2 s3 s4 s5 s6
  generalize (w2.alloc (.cells #[.int .i64 5, .int .i64 1, .int .i64 0, .int .i64 300, .int .i64 2, .string ⟨#[97]⟩, .string ⟨#[98, 99]⟩] 23)).alloc (.cells #[.int .i64 5, .int .i64 1, .int .i64 0, .int .i64 300, .int .i64 2, .string ⟨#[]⟩, .string ⟨#[98, 99]⟩] 23) = V at *
  have CS := Lib.hid (fun (u : World) (h : Below V.heap.size V u) => ((Kept.of h []).blk HBS4.out (by simp)).seven)
  have CT := Lib.hid (fun (u : World) (h : Below V.heap.size V u) => ((Kept.of h []).blk HBT4.out (by simp)).seven)
  refine (right_any 5 1 0 300 2 ⟨#[97]⟩ ⟨#[98, 99]⟩ V (by unfold maxLen; decide +kernel) (by unfold maxLen; decide +kernel)).mono ?_
  rintro e w5 ⟨rfl, c5⟩
  rw [show Plain.rightN 5 1 0 300 2 (⟨#[97]⟩ : ByteArray).size (⟨#[98, 99]⟩ : ByteArray).size = true by decide +kernel]
  obtain ⟨t0, t1, t2, t3, t4, t5, t6⟩ := CT.out w5 c5
  go_wp2_with fail
  clear t0 t1 t2 t3 t4 t5 t6
  refine (right_any 5 1 0 300 2 ⟨#[]⟩ ⟨#[98, 99]⟩ w5 (by unfold maxLen; decide +kernel) (by unfold maxLen; decide +kernel)).mono ?_
  rintro e w6 ⟨rfl, d6⟩
  have c6 := c5.trans (d6.mono c5.size)
  rw [show Plain.rightN 5 1 0 300 2 (⟨#[]⟩ : ByteArray).size (⟨#[98, 99]⟩ : ByteArray).size = false by decide +kernel]
  obtain ⟨s0, s1, s2, s3, s4, s5, s6⟩ := CS.out w6 c6
  go_wp2_with fail
  clear s0 s1 s2 s3 s4 s5 s6
  refine (end_any 5 1 0 300 2 ⟨#[97]⟩ ⟨#[98, 99]⟩ w6 true (by unfold maxLen; decide +kernel) (by unfold maxLen; decide +kernel) (by decide +kernel)).mono ?_
  rintro e w7 ⟨rfl, d7⟩
  have c7 := c6.trans (d7.mono c6.size)
  rw [show endN true 300 2 = 302 by decide +kernel]
  obtain ⟨t0, t1, t2, t3, t4, t5, t6⟩ := CT.out w7 c7
  go_wp2_with fail
  clear t0 t1 t2 t3 t4 t5 t6
  refine (less_any 5 1 0 300 2 ⟨#[]⟩ ⟨#[98, 99]⟩ 0 2 0 300 0 ⟨#[]⟩ ⟨#[]⟩ w7).mono ?_
  rintro e w8 ⟨rfl, d8⟩
  have c8 := c7.trans (d8.mono c7.size)
  rw [show lessN 300 1 300 2 = true by decide +kernel]
  obtain ⟨s0, s1, s2, s3, s4, s5, s6⟩ := CS.out w8 c8
  go_wp2_with fail
  clear s0 s1 s2 s3 s4 s5 s6
  refine (less_any 5 1 0 300 2 ⟨#[97]⟩ ⟨#[98, 99]⟩ 5 1 0 300 2 ⟨#[97]⟩ ⟨#[98, 99]⟩ w8).mono ?_
  rintro e w9 ⟨rfl, d9⟩
  have c9 := c8.trans (d9.mono c8.size)
  rw [show lessN 300 1 300 1 = false by decide +kernel]
  obtain ⟨t0, t1, t2, t3, t4, t5, t6⟩ := CT.out w9 c9
  go_wp2_with fail
  clear t0 t1 t2 t3 t4 t5 t6
  have hP := spanPut_any none 0 0 [] Go.Proofs.YtiipcnldedjkdaaDoor.s1 w9 rfl (by omega) Lies.nil (by unfold maxLen; decide) (by unfold maxLen; decide)
  rw [s1_out] at hP
  refine hP.mono ?_
  clear hP
  rintro e w10 ⟨v, rfl, ho, d10⟩
  have c10 := c9.trans (d10.mono c9.size)
  obtain ⟨A10, cap10, rfl, -, -, -, -⟩ := own_form ho
  clear ho
  go_wp2
  go_ret
  exact ⟨rfl, HHB4.out.trans (c10.mono HHB4.out.size)⟩
end Go.Proofs.YtiipcnldedjkdaaDoor
