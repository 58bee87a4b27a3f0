/-
  Layer 9, the document's answer: its Order: what it answers, of any table. Assumed: that the extents lie in memory.
-/
import Derived.Test.YtbjaieopjkbijaaDoorRb9
import Derived.Test.YtbjaieopjkbijaaDoorSoftN
import Derived.BigRegion

namespace Go.Proofs.YtbjaieopjkbijaaDoor
open Go.ChangeShapes Go.WideShapes Go.ChangeAt Go.RowKit
set_option maxRecDepth 100000

def Sorted9 (xs : List Tb.Ext) (i : Nat) (d : List Nat) : Prop := d.Perm ((List.range i).filter fun k => !decide (Tb.qAt xs k = 0)) ∧ d.Pairwise fun a b => Tb.qAt xs a ≤ Tb.qAt xs b
theorem Sorted9.zero {xs : List Tb.Ext} : Sorted9 xs 0 [] := ⟨List.Perm.refl _, List.Pairwise.nil⟩
theorem Sorted9.skip {xs : List Tb.Ext} {i : Nat} {d : List Nat} (h : Sorted9 xs i d) (hq : Tb.qAt xs i = 0) : Sorted9 xs (i + 1) d := by
  refine ⟨?_, h.2⟩
  rw [List.range_succ, List.filter_append, List.filter_cons, List.filter_nil, hq]
  simpa using h.1
theorem Sorted9.mem {xs : List Tb.Ext} {i y : Nat} {d : List Nat} (h : Sorted9 xs i d) (hy : y ∈ d) : y < i := by
  have := (h.1.mem_iff).1 hy
  rw [List.mem_filter, List.mem_range] at this
  exact this.1
theorem Sorted9.few {xs : List Tb.Ext} {i : Nat} {d : List Nat} (h : Sorted9 xs i d) : d.length ≤ i := by
  rw [h.1.length_eq]
  exact Nat.le_trans (List.length_filter_le _ _) (by simp)
theorem Sorted9.all {xs : List Tb.Ext} {d : List Nat} (h : Sorted9 xs xs.length d) (ha : Tb.Apart xs) : d = Tb.ord xs := Tb.ord_uniq ha h.1 h.2
theorem Sorted9.ins {xs : List Tb.Ext} {i j : Nat} {d : List Nat} (h : Sorted9 xs i d) (hq : Tb.qAt xs i ≠ 0) (h2 : ∀ y ∈ d.drop j, Tb.qAt xs i < Tb.qAt xs y) (h3 : ∀ (_ : 0 < j) (h : j - 1 < d.length), Tb.qAt xs d[j - 1] ≤ Tb.qAt xs i) (hj : j ≤ d.length) : Sorted9 xs (i + 1) (d.take j ++ [i] ++ d.drop j) := by
  have hs := List.pairwise_append.1 (show (d.take j ++ d.drop j).Pairwise fun a b => Tb.qAt xs a ≤ Tb.qAt xs b by rw [List.take_append_drop]; exact h.2)
  have h4 : ∀ a ∈ d.take j, Tb.qAt xs a ≤ Tb.qAt xs i := fun a ha => by
    obtain ⟨t, ht, rfl⟩ := List.mem_take_iff_getElem.1 ha
    have hp := h3 (by omega) (by omega)
    rcases Nat.lt_or_ge t (j - 1) with h7 | h7
    · have := List.pairwise_iff_getElem.1 h.2 t (j - 1) (by omega) (by omega) h7
      omega
    · obtain rfl : t = j - 1 := by omega
      exact hp
  refine ⟨?_, ?_⟩
  · rw [List.range_succ, List.filter_append, List.filter_cons, List.filter_nil]
    have e : (!decide (Tb.qAt xs i = 0)) = true := by simp [hq]
    rw [if_pos e]
    have p1 : (d.take j ++ [i] ++ d.drop j).Perm (d.take j ++ d.drop j ++ [i]) := by
      rw [List.append_assoc, List.append_assoc]
      exact List.Perm.append_left _ List.perm_append_comm
    rw [List.take_append_drop] at p1
    exact p1.trans (List.Perm.append_right _ h.1)
  · refine List.pairwise_append.2 ⟨List.pairwise_append.2 ⟨hs.1, List.pairwise_singleton _ _, fun a ha b hb => ?_⟩, hs.2.1, fun a ha b hb => ?_⟩
    · rw [List.mem_singleton] at hb
      subst hb
      exact h4 a ha
    · rw [List.mem_append, List.mem_singleton] at ha
      rcases ha with ha | rfl
      · exact hs.2.2 a ha b hb
      · exact Int.le_of_lt (h2 b hb)
theorem nums_len (l : List Nat) : (nums l).length = l.length := by simp [nums]
theorem nums_one9 (l : List Nat) : ∀ u ∈ nums l, u.oneCell' = true := by
  intro u hu
  obtain ⟨c, _, rfl⟩ := List.mem_map.1 hu
  rfl
theorem nums_take9 (l : List Nat) (k : Nat) : (nums l).take k = nums (l.take k) := by simp [nums]
theorem nums_drop9 (l : List Nat) (k : Nat) : (nums l).drop k = nums (l.drop k) := by simp [nums]
theorem nums_app9 (l k : List Nat) : nums (l ++ k) = nums l ++ nums k := by simp [nums]
theorem slice_loN (W : World) (ad : Addr) (n cap j : Nat) (h1 : j ≤ n) (h2 : n ≤ cap) (h3 : cap ≤ 9223372036854775807) : (Instr.sliceAt 32 (.slice (some ad) n cap) (some (.int .i64 (j : Int))) none none).run Tryd.prog W = .ok (.slice (some (if cap = j then ad else ad.add j)) (n - j) (cap - j)) W := by
  by_cases h : cap = j
  · subst h
    obtain rfl : n = cap := by omega
    go_simp
  · go_simp
theorem slice_hiN (W : World) (ad : Addr) (n cap j : Nat) (h1 : j ≤ n) (h2 : n ≤ cap) (_h3 : cap ≤ 9223372036854775807) : (Instr.sliceAt 32 (.slice (some ad) n cap) none (some (.int .i64 (j : Int))) none).run Tryd.prog W = .ok (.slice (some ad) j cap) W := by
  have h : ¬ cap < j := by omega
  go_simp
theorem run_dropN (W : World) (A : Option Addr) (n cap j : Nat) (h1 : j ≤ n) (h2 : n ≤ cap) (h3 : cap ≤ 9223372036854775807) (hA : A = none → n = 0) : (Instr.sliceAt 32 (.slice A n cap) (some (.int .i64 (j : Int))) none none).run Tryd.prog W = .ok (.slice (if cap = j then A else A.map (·.add j)) (n - j) (cap - j)) W := by
  rcases A with _ | ad
  · have h0 := hA rfl
    obtain rfl : j = 0 := by omega
    subst h0
    by_cases h : cap = 0
    · subst h
      go_simp
    · go_simp
  · have := slice_loN W ad n cap j h1 h2 h3
    rw [this]
    by_cases h : cap = j
    · simp [h]
    · simp [h]
theorem run_takeN (W : World) (A : Option Addr) (n cap j : Nat) (h1 : j ≤ n) (h2 : n ≤ cap) (h3 : cap ≤ 9223372036854775807) (hA : A = none → n = 0) : (Instr.sliceAt 32 (.slice A n cap) none (some (.int .i64 (j : Int))) none).run Tryd.prog W = .ok (.slice A j cap) W := by
  rcases A with _ | ad
  · have h0 := hA rfl
    obtain rfl : j = 0 := by omega
    subst h0
    go_simp
  · exact slice_hiN W ad n cap j h1 h2 h3
theorem lies_noneN {w : World} {A : Option Addr} {l : List Nat} (h : Lies w A (nums l)) : A = none → l.length = 0 := by
  intro e
  rcases h with h | ⟨ad, e2, _⟩
  · have := congrArg List.length h
    rw [nums_len] at this
    simpa using this
  · rw [e] at e2; cases e2
theorem soft_freshN {w : World} {ρ : Operand → Value} {o : Oper} {B : Nat} (hB : B ≤ w.heap.size) (ho : o.op = .buildSlice 32 0 #[]) : softUpon Tryd.prog w (Fact.fresh B 3) ((execOp ρ o).run Tryd.prog w) := by
  have hr : (execOp ρ o).run Tryd.prog w = .ok (.value (.slice (some ⟨w.heap.size, 0, none⟩) 0 0)) (w.alloc (.cells #[] 3)) := by
    simp [execOp, ho, go_sem]
  rw [hr]
  exact ⟨⟨_, rfl, hB, heap_alloc_new w _⟩, (Below.refl _ _).alloc (Nat.le_refl _) _⟩
theorem soft_oneN {w : World} {ρ : Operand → Value} {o : Oper} {y : Operand} {k : Nat} (hy : ρ y = .int .i64 (k : Int)) (ho : o.op = .buildSlice 32 1 #[(0, y)]) : softUpon Tryd.prog w (Fact.lie 1 (nums [k])) ((execOp ρ o).run Tryd.prog w) := by
  have hr : (execOp ρ o).run Tryd.prog w = .ok (.value (.slice (some ⟨w.heap.size, 0, none⟩) 1 1)) (w.alloc (.cells #[.int .i64 (k : Int)] 3)) := by
    simp [execOp, ho, hy, go_sem]
  rw [hr]
  exact ⟨⟨_, _, rfl, Lies.new w #[.int .i64 (k : Int)] 3⟩, (Below.refl _ _).alloc (Nat.le_refl _) _⟩
theorem soft_takeLN {w : World} {ρ : Operand → Value} {o : Oper} {x y : Operand} {A : Option Addr} {n cap j : Nat} {l : List Nat} (hx : ρ x = .slice A n cap) (hy : ρ y = .int .i64 (j : Int)) (hn : l.length = n) (h1 : j ≤ n) (h2 : n ≤ cap) (h3 : cap ≤ 9223372036854775807) (hA : Lies w A (nums l)) (ho : o.op = .slice 32 x none (some y) none) :
    softUpon Tryd.prog w (Fact.lie j (nums (l.take j))) ((execOp ρ o).run Tryd.prog w) := by
  have e : (execOp ρ o).run Tryd.prog w = .ok (.value (.slice A j cap)) w := by
    simp [execOp, ho, hx, hy, run_takeN w A n cap j h1 h2 h3 (by rw [← hn]; exact lies_noneN hA)]
  rw [e]
  refine ⟨⟨_, _, rfl, ?_⟩, Below.refl _ _⟩
  rw [← nums_take9]
  exact hA.take j
theorem run_dropLN {w : World} {ρ : Operand → Value} {o : Oper} {x y : Operand} {A : Option Addr} {n cap j : Nat} (hx : ρ x = .slice A n cap) (hy : ρ y = .int .i64 (j : Int)) (h1 : j ≤ n) (h2 : n ≤ cap) (h3 : cap ≤ 9223372036854775807) (hA : A = none → n = 0) (ho : o.op = .slice 32 x (some y) none none) :
    (execOp ρ o).run Tryd.prog w = .ok (.value (.slice (if cap = j then A else A.map (·.add j)) (n - j) (cap - j))) w := by
  simp [execOp, ho, hx, hy, run_dropN w A n cap j h1 h2 h3 hA]
theorem drop_liesN {w : World} {A : Option Addr} {n cap j : Nat} {l : List Nat} (hn : l.length = n) (h2 : n ≤ cap) (hA : Lies w A (nums l)) : Lies w (if cap = j then A else A.map (·.add j)) (nums (l.drop j)) := by
  rw [← nums_drop9]
  exact hA.drop (k := j) (cap := cap) (by rw [nums_len, hn]; exact h2)
theorem soft_app0LN {w : World} {ρ : Operand → Value} {o : Oper} {s x : Operand} {B n : Nat} {l : List Nat} (hs : (Fact.fresh B 3).φ (ρ s) w) (hx : (Fact.lie n (nums l)).φ (ρ x) w) (hn : l.length = n) (h300 : n ≤ 1000) (ho : o.op = .call { callee := .builtin .append, args := #[s, x], argTypes := #[32, 32] }) :
    softUpon Tryd.prog w (Fact.row B 3 1 n (nums l)) ((execOp ρ o).run Tryd.prog w) := by
  obtain ⟨i0, hi, hz0, hz1, hz2⟩ := info_parts infoInt
  exact soft_app0 Tryd.underlying32 hi hz0 hz1 hz2 rfl (by decide) hs hx (by rw [nums_len, hn, Nat.mul_one]) (nums_one9 l) (by unfold maxLen; omega) (by omega) ho
theorem late_appN {W : World} {a : Act} {o : Oper} {s x : Operand} {B n m : Nat} {l k : List Nat} {K : Act → World → Prop} {Q : Exit → Act → World → Prop} (hs : W.ownsRow B 3 1 (a.eval s) n (nums l)) (hx : (Fact.lie m (nums k)).φ (a.eval x) W) (hm : k.length = m) (hb : n + m ≤ 1000) (hB : B ≤ W.heap.size) (ho : o.op = .call { callee := .builtin .append, args := #[s, x], argTypes := #[32, 32] })
    (hK : ∀ v w', w'.ownsRow B 3 1 v (n + m) (nums (l ++ k)) → (∀ u0, Below B u0 W → Below B u0 w') → K (a.put o.dst v) w') : o.wp Tryd.prog a W K Q := by
  obtain ⟨i0, hi, hz0, hz1, hz2⟩ := info_parts infoInt
  refine late_app Tryd.underlying32 hi hz0 hz1 hz2 rfl (by decide) hs hx (by rw [nums_len, hm, Nat.mul_one]) (nums_one9 k) (by unfold maxLen; omega) (by omega) hB ho fun v w' h => hK v w' ?_
  rw [nums_app9]
  exact h
theorem gtrI9 (W : World) (a b : Int) (L : Bool) (h : decide (b < a) = L) : (binOp .gtr 3 (.int .i64 a) (.int .i64 b)).run Tryd.prog W = .ok (.bool L) W := by
  subst h
  go_simp
theorem gtrL9 (W : World) (a b : Int) (L : Bool) (h : decide (b < a) = L) : (binOp .gtr 2 (.int .i64 a) (.int .i64 b)).run Tryd.prog W = .ok (.bool L) W := by
  subst h
  go_simp
theorem sub_one9 (W : World) (j : Nat) (h0 : 0 < j) (h : j < 1000) : (binOp .sub 3 (.int .i64 (j : Int)) (.int .i64 1)).run Tryd.prog W = .ok (.int .i64 ((j - 1 : Nat) : Int)) W := by
  have e : IntKind.i64.wrap ((j : Int) - 1) = ((j - 1 : Nat) : Int) := by rw [IntKind.wrap_i64]; omega
  go_simp
theorem len_mid (d : List Nat) (i j md : Nat) (h : d.length = md) (hj : j ≤ md) : (d.take j ++ [i] ++ d.drop j).length = md + 1 := by simp [h]; omega

set_option maxHeartbeats 8000000 in
theorem rorder9_any (g o : Int) (A : Option Addr) (cap n : Nat) (xs : List Tb.Ext) (w : World) (hn : xs.length = n) (hA : Lies w A (flatX xs)) :
    Calls Tryd.prog 19 #[tabV g o A n cap] w (MadeI w (if Tb.right ⟨g, o, xs⟩ = true then Tb.ord xs else [])) := by
  unfold MadeI
  have HX0 := Lib.hid (Blk.new w #[.int .i64 g, .int .i64 o, .slice A n cap] 24)
  have HB0 := Lib.hid ((Below.refl w.heap.size w).alloc (Nat.le_refl _) (.cells #[.int .i64 g, .int .i64 o, .slice A n cap] 24))
  have HA0 := Lib.hid (hA.below HB0.out)
  have HN := Lib.hid hn
  have HN8 := Lib.hid (show Tb.right ⟨g, o, xs⟩ = true → n ≤ 8 from fun h => by have := (Tb.right_iff.1 h).n2; simp only at this; omega)
  have HRR := Lib.hid (fun (W : World) (hA : Lies W A (flatX xs)) => rright9_any g o A cap n xs W hn hA)
  clear hA hn
  by_cases hr : Tb.right ⟨g, o, xs⟩ = true
  rotate_left
  · have hrf : Tb.right ⟨g, o, xs⟩ = false := by simpa using hr
    rw [if_neg hr]
    rw [hrf] at HRR
    clear hr hrf
    go_enter Tryd.func19, Tryd.ntmps19
    go_wp2_with fail
    generalize w.alloc (.cells #[.int .i64 g, .int .i64 o, .slice A n cap] 24) = w0 at *
    obtain ⟨z0, z1, z2⟩ := HX0.out.three
    refine wp_loop_rounds 1 ?_
    rw [rounds_succ]
    rcases Nat.eq_zero_or_pos n with h0 | h0
    · subst h0
      go_wp2
      go_ret
      exact ⟨_, rfl, World.ownsRow_nil _ _ _ 1, HB0.out⟩
    · go_wp2_with fail
      refine (HRR.out w0 HA0.out).mono ?_
      rintro e w1 ⟨rfl, d1⟩
      have HB1 := Lib.hid (HB0.out.trans (d1.mono HB0.out.size))
      clear d1 z0 z1 z2
      go_wp2
      go_ret
      exact ⟨_, rfl, World.ownsRow_nil _ _ _ 1, HB1.out⟩
  rw [if_pos hr]
  have HAP := Lib.hid (Tb.right_iff.1 hr).ap
  rw [hr] at HRR
  have hn8 := HN8.out hr
  clear hr
  go_enter Tryd.func19, Tryd.ntmps19
  go_wp2_with fail
  generalize w.alloc (.cells #[.int .i64 g, .int .i64 o, .slice A n cap] 24) = w0 at *
  go_loopw [3, 4] (fun vo vi wr => ∃ (i : Nat) (d : List Nat), vi = .int .i64 i ∧ i ≤ n ∧ wr.ownsRow w0.heap.size 3 1 vo d.length (nums d) ∧ Sorted9 xs i d ∧ Below w0.heap.size w0 wr) (fun _ vi _ => n - (intOf vi).toNat)
  case atStart => exact ⟨0, [], rfl, by omega, World.ownsRow_nil _ _ _ 1, Sorted9.zero, Below.refl _ _⟩
  case round =>
    obtain ⟨i, d, rfl, hin2, hown, hso, hbr⟩ := hrel
    obtain ⟨AV, cv, rfl, hcv, hcm, -, hlv⟩ := own_form hown
    have HOW := Lib.hid hown
    have HSO := Lib.hid hso
    have HLV := Lib.hid hlv
    have hfew := hso.few
    have HXR := Lib.hid (HX0.out.below hbr (Nat.le_refl _))
    have HBR := Lib.hid (HB0.out.trans (hbr.mono HB0.out.size))
    have hAV : AV = none → d.length = 0 := lies_noneN hlv
    obtain ⟨z0, z1, z2⟩ := HXR.out.three
    clear hown hso hlv
    by_cases hin : i < n
    · have hil : i < xs.length := by have := HN.out; omega
      obtain ⟨ad, rfl, hadb, hcx⟩ := at_ext HA0.out i hil
      have HCX := Lib.hid (fun (W : World) (h : Below w0.heap.size w0 W) => (hcx W h).1)
      have HQ := Lib.hid (Tb.qAt_eq hil)
      have HIN := Lib.hid (show i + 1 ≤ n by omega)
      have HCY := Lib.hid (show ∀ y (hy : y < xs.length) (W : World), Below w0.heap.size w0 W → W.cell? (ad.add (y * 2)) = some (.int .i64 (Tb.qAt xs y)) from fun y hy W h => by
        obtain ⟨ad', e, -, hc⟩ := at_ext HA0.out y hy
        injection e with e
        subst e
        rw [Tb.qAt_eq hy]
        exact (hc W h).1)
      obtain ⟨md, hmd⟩ : ∃ md, d.length = md := ⟨_, rfl⟩
      rw [hmd] at hcv hfew hAV HOW
      have HMD := Lib.hid hmd
      clear hcx
      rw [hmd]
      clear hmd
      go_wp2_with fail
      refine (HRR.out wr (HA0.out.below hbr)).mono ?_
      rintro e wa ⟨rfl, d1⟩
      have HO1 := Lib.hid (row_keep HOW.out d1)
      have HL1 := Lib.hid (HLV.out.below d1)
      have HB1 := Lib.hid (hbr.trans (d1.mono hbr.size))
      have HXA := Lib.hid (HXR.out.below d1 (Nat.le_refl _))
      have y0 := HCX.out wa HB1.out
      have z2' : wa.cell? ⟨w.heap.size, 2, none⟩ = some (.slice (some ad) n cap) := HXA.out.cell 2
      clear d1 z0 z1 z2 HOW HLV HXR HBR hbr
      generalize xs[i].q = xq at *
      by_cases hq : xq = 0
      · have hd : (xq == 0) = true := by simp [hq]
        have HS2 := Lib.hid (HSO.out.skip (by rw [HQ.out]; exact hq))
        clear hq
        go_wp2
        go_roundw
        case rel => exact ⟨i + 1, d, by go_num, HIN.out, by rw [HMD.out]; exact HO1.out, HS2.out, HB1.out⟩
        case measure => have := HIN.out; first | omega | (simp [intOf]; omega)
      · have hd : (xq == 0) = false := by simp [hq]
        have HINS := Lib.hid (fun (j : Nat) (h2 : ∀ y ∈ d.drop j, xq < Tb.qAt xs y) (h3 : ∀ (_ : 0 < j) (h : j - 1 < d.length), Tb.qAt xs d[j - 1] ≤ xq) (hj : j ≤ md) => HSO.out.ins (j := j) (by rw [HQ.out]; exact hq) (fun y hy => by rw [HQ.out]; exact h2 y hy) (fun h0 h => by rw [HQ.out]; exact h3 h0 h) (by rw [HMD.out]; exact hj))
        clear hq
        go_wp2_with fail
        clear y0 z2' hd
        generalize wr = wo at *
        go_loopw [5] (fun s5 wr2 => ∃ j : Nat, s5 = .int .i64 j ∧ j ≤ md ∧ (∀ y ∈ d.drop j, xq < Tb.qAt xs y) ∧ Below wa.heap.size wa wr2) (fun s5 _ => (intOf s5).toNat)
        case atStart => exact ⟨md, rfl, Nat.le_refl _, by rw [List.drop_eq_nil_of_le (by rw [HMD.out]; omega)]; simp, Below.refl _ _⟩
        case round =>
          obtain ⟨j, rfl, hj, hall, hbi⟩ := hrel
          have HALL := Lib.hid hall
          have HBI := Lib.hid hbi
          have HLR := Lib.hid (HL1.out.below hbi)
          have HBZ := Lib.hid (HB1.out.trans (hbi.mono HB1.out.size))
          have HXB := Lib.hid (HXA.out.below hbi (Nat.le_refl _))
          clear hall hbi
          by_cases hj0 : 0 < j
          · have hjd : j - 1 < d.length := by rw [HMD.out]; omega
            obtain ⟨od, hod, -, hco⟩ := at_num HLR.out (j - 1) hjd
            have hym : d[j - 1] ∈ d := List.getElem_mem hjd
            have hyl : d[j - 1] < xs.length := by have := HSO.out.mem hym; omega
            have HYES := Lib.hid (show xq < Tb.qAt xs d[j - 1] → ∀ z ∈ d.drop (j - 1), xq < Tb.qAt xs z from fun h z hz => by
              rw [List.drop_eq_getElem_cons hjd, show j - 1 + 1 = j by omega] at hz
              rcases List.mem_cons.1 hz with rfl | hz
              · exact h
              · exact HALL.out z hz)
            have HEX := Lib.hid (show ¬ xq < Tb.qAt xs d[j - 1] → ∀ (_ : 0 < j) (h : j - 1 < d.length), Tb.qAt xs d[j - 1] ≤ xq from fun h _ _ => by omega)
            have LY := Lib.hid (HCY.out _ hyl)
            have hyn : d[j - 1] < n := by rw [← HN.out]; exact hyl
            clear hym hyl
            generalize d[j - 1] = y at *
            generalize Tb.qAt xs y = qy at *
            obtain ⟨L, hL⟩ : ∃ L, decide (xq < qy) = L := ⟨_, rfl⟩
            have HLE := Lib.hid hL
            have GT := Lib.hid (fun (W : World) => gtrI9 W (j : Int) 0 true (by simp; omega))
            have GL := Lib.hid (fun (W : World) => gtrL9 W qy xq L hL)
            have SB := Lib.hid (fun (W : World) => sub_one9 W j hj0 (by omega))
            have HC2 := Lib.hid (fun (W : World) (hW : Below wr.heap.size wr W) => show (Instr.loadAt 22 (.pointer (some ⟨w.heap.size, 2, none⟩))).run Tryd.prog W = .ok (.slice (some ad) n cap) W by
              have c := (HXB.out.below hW (Nat.le_refl _)).cell 2
              go_simp)
            have HIO := Lib.hid (fun (W : World) => show (Instr.indexAt 32 (.slice AV md cv) (.int .i64 ((j - 1 : Nat) : Int))).run Tryd.prog W = .ok (.pointer (some (od.add (j - 1)))) W by
              rw [hod]
              have h1 : j - 1 < md := by omega
              generalize j - 1 = jj at *
              go_simp)
            have HLO := Lib.hid (fun (W : World) (hW : Below wr.heap.size wr W) => show (Instr.loadAt 3 (.pointer (some (od.add (j - 1))))).run Tryd.prog W = .ok (.int .i64 (y : Int)) W by
              have c := hco W hW
              go_simp)
            have HIY := Lib.hid (fun (W : World) => show (Instr.indexAt 22 (.slice (some ad) n cap) (.int .i64 (y : Int))).run Tryd.prog W = .ok (.pointer (some (ad.add (y * 2)))) W by go_simp)
            have HLY := Lib.hid (fun (W : World) (hW : Below wr.heap.size wr W) => show (Instr.loadAt 2 (.pointer (some (ad.add (y * 2))))).run Tryd.prog W = .ok (.int .i64 qy) W by
              have c := LY.out W (HBZ.out.trans (hW.mono HBZ.out.size))
              go_simp)
            have HII := Lib.hid (fun (W : World) => show (Instr.indexAt 22 (.slice (some ad) n cap) (.int .i64 (i : Int))).run Tryd.prog W = .ok (.pointer (some (ad.add (i * 2)))) W by go_simp)
            have HLI := Lib.hid (fun (W : World) (hW : Below wr.heap.size wr W) => show (Instr.loadAt 2 (.pointer (some (ad.add (i * 2))))).run Tryd.prog W = .ok (.int .i64 xq) W by
              have c := HCX.out W (HBZ.out.trans (hW.mono HBZ.out.size))
              go_simp)
            clear hco hod hL hyn
            go_wp2
            refine wp_softS (by kernel_rfl) 62 [(26, [5]), (27, [26]), (28, [27]), (29, [1, 28]), (30, [29, 28]), (31, [3, 28]), (32, [5, 28]), (33, [32, 28]), (34, [31, 33, 28]), (35, [34, 28]), (36, [30, 35, 28]), (37, [36, 28]), (38, [37, 28]), (39, [1, 28]), (40, [39, 28]), (41, [4, 28]), (42, [40, 41, 28]), (43, [42, 28]), (44, [43, 28]), (45, [38, 44, 28]), (46, [28, 45])]
              [Fact.is (.int .i64 (j : Int)), Fact.is (.bool true), Fact.is (.bool true), Fact.is (.pointer (some ⟨w.heap.size, 2, none⟩)), Fact.is (.slice (some ad) n cap), Fact.is (.slice AV md cv), Fact.is (.int .i64 (j : Int)), Fact.is (.int .i64 ((j - 1 : Nat) : Int)), Fact.is (.pointer (some (od.add (j - 1)))), Fact.is (.int .i64 (y : Int)), Fact.is (.pointer (some (ad.add (y * 2)))), Fact.is (.pointer (some (ad.add (y * 2)))), Fact.is (.int .i64 qy), Fact.is (.pointer (some ⟨w.heap.size, 2, none⟩)), Fact.is (.slice (some ad) n cap), Fact.is (.int .i64 (i : Int)), Fact.is (.pointer (some (ad.add (i * 2)))), Fact.is (.pointer (some (ad.add (i * 2)))), Fact.is (.int .i64 xq), Fact.is (.bool L), Fact.is (.bool L)]
              (by kernel_rfl) rfl rfl ⟨?s0, ?s1, ?s2, ?s3, ?s4, ?s5, ?s6, ?s7, ?s8, ?s9, ?s10, ?s11, ?s12, ?s13, ?s14, ?s15, ?s16, ?s17, ?s18, ?s19, ?s20, trivial⟩ ?fin
            case s0 =>
              intro ρ W hb hc hf hr
              obtain ⟨r5, -⟩ := hr
              have e5 : ρ (.tmp 5) = .int .i64 (j : Int) := r5
              clear r5
              refine under_none rfl ?_
              exact ⟨e5, Below.refl _ _⟩
            case s1 =>
              intro ρ W hb hc hf hr
              obtain ⟨r26, -⟩ := hr
              have e26 : ρ (.tmp 26) = .int .i64 (j : Int) := r26
              clear r26
              refine under_none rfl ?_
              exact soft_bin e26 (hc _) rfl rfl (GT.out W)
            case s2 =>
              intro ρ W hb hc hf hr
              obtain ⟨r27, -⟩ := hr
              have e27 : ρ (.tmp 27) = .bool true := r27
              clear r27
              refine under_none rfl ?_
              exact ⟨e27, Below.refl _ _⟩
            case s3 =>
              intro ρ W hb hc hf hr
              obtain ⟨r1, r28, -⟩ := hr
              have e1 : ρ (.tmp 1) = .pointer (some ⟨w.heap.size, 0, none⟩) := r1
              clear r1
              have e28 : ρ (.tmp 28) = .bool true := r28
              clear r28
              refine ⟨28, rfl, .inl ⟨e28, ?_⟩⟩
              exact soft_field e1 rfl (fun W => by go_simp)
            case s4 =>
              intro ρ W hb hc hf hr
              obtain ⟨r29, r28, -⟩ := hr
              have e29 : ρ (.tmp 29) = .pointer (some ⟨w.heap.size, 2, none⟩) := r29
              clear r29
              have e28 : ρ (.tmp 28) = .bool true := r28
              clear r28
              refine ⟨28, rfl, .inl ⟨e28, ?_⟩⟩
              exact soft_load e29 (HC2.out W (undrew hb)) rfl
            case s5 =>
              intro ρ W hb hc hf hr
              obtain ⟨r3, r28, -⟩ := hr
              have e3 : ρ (.tmp 3) = .slice AV md cv := r3
              clear r3
              have e28 : ρ (.tmp 28) = .bool true := r28
              clear r28
              refine ⟨28, rfl, .inl ⟨e28, ?_⟩⟩
              exact ⟨e3, Below.refl _ _⟩
            case s6 =>
              intro ρ W hb hc hf hr
              obtain ⟨r5, r28, -⟩ := hr
              have e5 : ρ (.tmp 5) = .int .i64 (j : Int) := r5
              clear r5
              have e28 : ρ (.tmp 28) = .bool true := r28
              clear r28
              refine ⟨28, rfl, .inl ⟨e28, ?_⟩⟩
              exact ⟨e5, Below.refl _ _⟩
            case s7 =>
              intro ρ W hb hc hf hr
              obtain ⟨r32, r28, -⟩ := hr
              have e32 : ρ (.tmp 32) = .int .i64 (j : Int) := r32
              clear r32
              have e28 : ρ (.tmp 28) = .bool true := r28
              clear r28
              refine ⟨28, rfl, .inl ⟨e28, ?_⟩⟩
              exact soft_bin e32 (hc _) rfl rfl (SB.out W)
            case s8 =>
              intro ρ W hb hc hf hr
              obtain ⟨r31, r33, r28, -⟩ := hr
              have e31 : ρ (.tmp 31) = .slice AV md cv := r31
              clear r31
              have e33 : ρ (.tmp 33) = .int .i64 ((j - 1 : Nat) : Int) := r33
              clear r33
              have e28 : ρ (.tmp 28) = .bool true := r28
              clear r28
              refine ⟨28, rfl, .inl ⟨e28, ?_⟩⟩
              exact soft_index e31 e33 (HIO.out W) rfl
            case s9 =>
              intro ρ W hb hc hf hr
              obtain ⟨r34, r28, -⟩ := hr
              have e34 : ρ (.tmp 34) = .pointer (some (od.add (j - 1))) := r34
              clear r34
              have e28 : ρ (.tmp 28) = .bool true := r28
              clear r28
              refine ⟨28, rfl, .inl ⟨e28, ?_⟩⟩
              exact soft_load e34 (HLO.out W (undrew hb)) rfl
            case s10 =>
              intro ρ W hb hc hf hr
              obtain ⟨r30, r35, r28, -⟩ := hr
              have e30 : ρ (.tmp 30) = .slice (some ad) n cap := r30
              clear r30
              have e35 : ρ (.tmp 35) = .int .i64 (y : Int) := r35
              clear r35
              have e28 : ρ (.tmp 28) = .bool true := r28
              clear r28
              refine ⟨28, rfl, .inl ⟨e28, ?_⟩⟩
              exact soft_index e30 e35 (HIY.out W) rfl
            case s11 =>
              intro ρ W hb hc hf hr
              obtain ⟨r36, r28, -⟩ := hr
              have e36 : ρ (.tmp 36) = .pointer (some (ad.add (y * 2))) := r36
              clear r36
              have e28 : ρ (.tmp 28) = .bool true := r28
              clear r28
              refine ⟨28, rfl, .inl ⟨e28, ?_⟩⟩
              exact soft_field e36 rfl (fun W => by go_simp)
            case s12 =>
              intro ρ W hb hc hf hr
              obtain ⟨r37, r28, -⟩ := hr
              have e37 : ρ (.tmp 37) = .pointer (some (ad.add (y * 2))) := r37
              clear r37
              have e28 : ρ (.tmp 28) = .bool true := r28
              clear r28
              refine ⟨28, rfl, .inl ⟨e28, ?_⟩⟩
              exact soft_load e37 (HLY.out W (undrew hb)) rfl
            case s13 =>
              intro ρ W hb hc hf hr
              obtain ⟨r1, r28, -⟩ := hr
              have e1 : ρ (.tmp 1) = .pointer (some ⟨w.heap.size, 0, none⟩) := r1
              clear r1
              have e28 : ρ (.tmp 28) = .bool true := r28
              clear r28
              refine ⟨28, rfl, .inl ⟨e28, ?_⟩⟩
              exact soft_field e1 rfl (fun W => by go_simp)
            case s14 =>
              intro ρ W hb hc hf hr
              obtain ⟨r39, r28, -⟩ := hr
              have e39 : ρ (.tmp 39) = .pointer (some ⟨w.heap.size, 2, none⟩) := r39
              clear r39
              have e28 : ρ (.tmp 28) = .bool true := r28
              clear r28
              refine ⟨28, rfl, .inl ⟨e28, ?_⟩⟩
              exact soft_load e39 (HC2.out W (undrew hb)) rfl
            case s15 =>
              intro ρ W hb hc hf hr
              obtain ⟨r4, r28, -⟩ := hr
              have e4 : ρ (.tmp 4) = .int .i64 (i : Int) := r4
              clear r4
              have e28 : ρ (.tmp 28) = .bool true := r28
              clear r28
              refine ⟨28, rfl, .inl ⟨e28, ?_⟩⟩
              exact ⟨e4, Below.refl _ _⟩
            case s16 =>
              intro ρ W hb hc hf hr
              obtain ⟨r40, r41, r28, -⟩ := hr
              have e40 : ρ (.tmp 40) = .slice (some ad) n cap := r40
              clear r40
              have e41 : ρ (.tmp 41) = .int .i64 (i : Int) := r41
              clear r41
              have e28 : ρ (.tmp 28) = .bool true := r28
              clear r28
              refine ⟨28, rfl, .inl ⟨e28, ?_⟩⟩
              exact soft_index e40 e41 (HII.out W) rfl
            case s17 =>
              intro ρ W hb hc hf hr
              obtain ⟨r42, r28, -⟩ := hr
              have e42 : ρ (.tmp 42) = .pointer (some (ad.add (i * 2))) := r42
              clear r42
              have e28 : ρ (.tmp 28) = .bool true := r28
              clear r28
              refine ⟨28, rfl, .inl ⟨e28, ?_⟩⟩
              exact soft_field e42 rfl (fun W => by go_simp)
            case s18 =>
              intro ρ W hb hc hf hr
              obtain ⟨r43, r28, -⟩ := hr
              have e43 : ρ (.tmp 43) = .pointer (some (ad.add (i * 2))) := r43
              clear r43
              have e28 : ρ (.tmp 28) = .bool true := r28
              clear r28
              refine ⟨28, rfl, .inl ⟨e28, ?_⟩⟩
              exact soft_load e43 (HLI.out W (undrew hb)) rfl
            case s19 =>
              intro ρ W hb hc hf hr
              obtain ⟨r38, r44, r28, -⟩ := hr
              have e38 : ρ (.tmp 38) = .int .i64 qy := r38
              clear r38
              have e44 : ρ (.tmp 44) = .int .i64 xq := r44
              clear r44
              have e28 : ρ (.tmp 28) = .bool true := r28
              clear r28
              refine ⟨28, rfl, .inl ⟨e28, ?_⟩⟩
              exact soft_bin e38 e44 rfl rfl (GL.out W)
            case s20 =>
              intro ρ W hb hc hf hr
              obtain ⟨r28, r45, -⟩ := hr
              have e28 : ρ (.tmp 28) = .bool true := r28
              clear r28
              have e45 : ρ (.tmp 45) = .bool L := r45
              clear r45
              refine under_none rfl ?_
              simp [execOp, e28, e45, go_sem, softUpon, Fact.is, Below.refl]
            case fin =>
              intro a w1 hb hd hsz hk
              have ea := act_puts hd hsz rfl hk
              have k26 : a.tmps.getD 26 undef = .int .i64 (j : Int) := hk 26
              have k27 : a.tmps.getD 27 undef = .bool true := hk 27
              have k28 : a.tmps.getD 28 undef = .bool true := hk 28
              have k29 : a.tmps.getD 29 undef = .pointer (some ⟨w.heap.size, 2, none⟩) := hk 29
              have k30 : a.tmps.getD 30 undef = .slice (some ad) n cap := hk 30
              have k31 : a.tmps.getD 31 undef = .slice AV md cv := hk 31
              have k32 : a.tmps.getD 32 undef = .int .i64 (j : Int) := hk 32
              have k33 : a.tmps.getD 33 undef = .int .i64 ((j - 1 : Nat) : Int) := hk 33
              have k34 : a.tmps.getD 34 undef = .pointer (some (od.add (j - 1))) := hk 34
              have k35 : a.tmps.getD 35 undef = .int .i64 (y : Int) := hk 35
              have k36 : a.tmps.getD 36 undef = .pointer (some (ad.add (y * 2))) := hk 36
              have k37 : a.tmps.getD 37 undef = .pointer (some (ad.add (y * 2))) := hk 37
              have k38 : a.tmps.getD 38 undef = .int .i64 qy := hk 38
              have k39 : a.tmps.getD 39 undef = .pointer (some ⟨w.heap.size, 2, none⟩) := hk 39
              have k40 : a.tmps.getD 40 undef = .slice (some ad) n cap := hk 40
              have k41 : a.tmps.getD 41 undef = .int .i64 (i : Int) := hk 41
              have k42 : a.tmps.getD 42 undef = .pointer (some (ad.add (i * 2))) := hk 42
              have k43 : a.tmps.getD 43 undef = .pointer (some (ad.add (i * 2))) := hk 43
              have k44 : a.tmps.getD 44 undef = .int .i64 xq := hk 44
              have k45 : a.tmps.getD 45 undef = .bool L := hk 45
              have k46 : a.tmps.getD 46 undef = .bool L := hk 46
              clear hk hd hsz
              simp only [List.map_cons, List.map_nil, List.foldl_cons, List.foldl_nil, k26, k27, k28, k29, k30, k31, k32, k33, k34, k35, k36, k37, k38, k39, k40, k41, k42, k43, k44, k45, k46] at ea
              clear k26 k27 k28 k29 k30 k31 k32 k33 k34 k35 k36 k37 k38 k39 k40 k41 k42 k43 k44 k45 k46
              simp only [Act.put, List.setIfInBounds_toArray, List.set_cons_succ, List.set_cons_zero] at ea
              subst ea
              have dV : Below wr.heap.size wr w1 := undrew hb
              clear hb
              rcases L with _ | _
              · have HEX := Lib.hid (HEX.out (by have := of_decide_eq_false HLE.out; omega))
                have HDD := Lib.hid (HINS.out j HALL.out HEX.out hj)
                have HLM := Lib.hid (len_mid d i j md HMD.out hj)
                have hbd : Below w1.heap.size w1 w1.drew := (Below.refl _ _).drew
                have HL2 := Lib.hid (HLR.out.below dV)
                have HB2 := Lib.hid (HBZ.out.trans (dV.mono HBZ.out.size))
                have hcm2 : cv ≤ 9223372036854775807 := by unfold maxLen at hcm; omega
                clear dV
                go_wp2
                refine wp_late (by kernel_rfl) 62 [(49, []), (50, [3]), (51, [5]), (52, [50, 51]), (53, [49, 52]), (54, [4]), (55, [54]), (1007, [53, 55]), (57, [3]), (58, [5]), (59, [57, 58]), (1011, [56, 59]), (1012, [60])]
                  [Fact.fresh w1.heap.size 3, Fact.is (.slice AV md cv), Fact.is (.int .i64 (j : Int)), Fact.lie j (nums (d.take j)), Fact.row w1.heap.size 3 1 j (nums (d.take j)), Fact.is (.int .i64 (i : Int)), Fact.lie 1 (nums [i]), default, Fact.is (.slice AV md cv), Fact.is (.int .i64 (j : Int)), Fact.is (.slice (if cv = j then AV else AV.map (·.add j)) (md - j) (cv - j)), default, default]
                  [1, 1, 1, 1, 1, 1, 1, 2, 0, 0, 0, 2, 2] [7, 11, 12] [56, 60, 3] [49, 50, 51, 52, 53, 54, 55, 56, 57, 58, 59, 60, 3] (Row2 w1.heap.size 3 1 (j + 1) (md + 1) (nums (d.take j ++ [i])) (nums (d.take j ++ [i] ++ d.drop j)) w1)
                  (by kernel_rfl) (by kernel_rfl) rfl rfl ⟨?s0, ?s1, ?s2, ?s3, ?s4, ?s5, ?s6, ?s8, ?s9, ?s10, trivial⟩ ?late ?fin
                case s0 =>
                  intro ρ W hb hc hf hr
                  clear hr
                  refine under_none rfl ?_
                  exact soft_freshN (hbd.trans (hb.mono (by simp))).size rfl
                case s1 =>
                  intro ρ W hb hc hf hr
                  obtain ⟨r3, -⟩ := hr
                  have e3 : ρ (.tmp 3) = .slice AV md cv := r3
                  clear r3
                  refine under_none rfl ?_
                  exact ⟨e3, Below.refl _ _⟩
                case s2 =>
                  intro ρ W hb hc hf hr
                  obtain ⟨r5, -⟩ := hr
                  have e5 : ρ (.tmp 5) = .int .i64 (j : Int) := r5
                  clear r5
                  refine under_none rfl ?_
                  exact ⟨e5, Below.refl _ _⟩
                case s3 =>
                  intro ρ W hb hc hf hr
                  obtain ⟨r50, r51, -⟩ := hr
                  have e50 : ρ (.tmp 50) = .slice AV md cv := r50
                  clear r50
                  have e51 : ρ (.tmp 51) = .int .i64 (j : Int) := r51
                  clear r51
                  refine under_none rfl ?_
                  exact soft_takeLN e50 e51 HMD.out hj hcv hcm2 (HL2.out.below (hbd.trans (hb.mono (by simp)))) rfl
                case s4 =>
                  intro ρ W hb hc hf hr
                  obtain ⟨r49, r52, -⟩ := hr
                  refine under_none rfl ?_
                  exact soft_app0LN r49 r52 (by rw [List.length_take, HMD.out]; omega) (by omega) rfl
                case s5 =>
                  intro ρ W hb hc hf hr
                  obtain ⟨r4, -⟩ := hr
                  have e4 : ρ (.tmp 4) = .int .i64 (i : Int) := r4
                  clear r4
                  refine under_none rfl ?_
                  exact ⟨e4, Below.refl _ _⟩
                case s6 =>
                  intro ρ W hb hc hf hr
                  obtain ⟨r54, -⟩ := hr
                  have e54 : ρ (.tmp 54) = .int .i64 (i : Int) := r54
                  clear r54
                  refine under_none rfl ?_
                  exact soft_oneN e54 rfl
                case s8 =>
                  refine ⟨rfl, _, rfl, ?_⟩
                  intro ρ W hc hf hr
                  obtain ⟨r3, -⟩ := hr
                  have e3 : ρ (.tmp 3) = .slice AV md cv := r3
                  clear r3
                  simp [execOp, e3]
                case s9 =>
                  refine ⟨rfl, _, rfl, ?_⟩
                  intro ρ W hc hf hr
                  obtain ⟨r5, -⟩ := hr
                  have e5 : ρ (.tmp 5) = .int .i64 (j : Int) := r5
                  clear r5
                  simp [execOp, e5]
                case s10 =>
                  refine ⟨rfl, _, rfl, ?_⟩
                  intro ρ W hc hf hr
                  obtain ⟨r57, r58, -⟩ := hr
                  have e57 : ρ (.tmp 57) = .slice AV md cv := r57
                  clear r57
                  have e58 : ρ (.tmp 58) = .int .i64 (j : Int) := r58
                  clear r58
                  exact run_dropLN e57 e58 hj hcv hcm2 hAV rfl
                case late =>
                  intro p j o hj ho a W hsz h0 h1 hfr hou
                  match p, hj with
                  | 0, hj =>
                    obtain rfl : 7 = j := Option.some.inj hj
                    obtain rfl := Option.some.inj ho
                    clear hj ho
                    obtain ⟨hb, hhard⟩ := h0 rfl
                    have r53 : (Fact.row w1.heap.size 3 1 j (nums (d.take j))).φ (a.tmps.getD 53 undef) W := hhard 53 4 rfl rfl
                    have r55 : (Fact.lie 1 (nums [i])).φ (a.tmps.getD 55 undef) W := hhard 55 6 rfl rfl
                    clear h0 h1 hhard hfr hou
                    have hW := hbd.trans (hb.mono (by simp))
                    refine late_appN (s := .tmp 53) (x := .tmp 55) (n := j) (m := 1) (l := d.take j) (k := [i]) r53 r55 rfl (by omega) hW.size rfl fun v w' ho hbb => ⟨v, rfl, ?_⟩
                    exact ⟨hbb _ hW, fun _ => by simpa [Act.put, Array.getD_eq_getD_getElem?, hsz] using ho, fun h => absurd h (by omega), fun h => absurd h (by omega)⟩
                  | 1, hj =>
                    obtain rfl : 11 = j := Option.some.inj hj
                    obtain rfl := Option.some.inj ho
                    clear hj ho
                    have hP := h1 (by omega)
                    have e59 : a.eval (.tmp 59) = .slice (if cv = j then AV else AV.map (·.add j)) (md - j) (cv - j) := hfr 59 10 rfl rfl (by kernel_rfl)
                    clear h0 h1 hfr hou
                    obtain ⟨hb, ho, -, -⟩ := hP
                    refine late_appN (s := .tmp 56) (x := .tmp 59) (n := j + 1) (m := md - j) (l := d.take j ++ [i]) (k := d.drop j) (ho rfl) ⟨_, _, e59, drop_liesN HMD.out hcv (HL2.out.below hb)⟩ (by rw [List.length_drop, HMD.out]) (by omega) hb.size rfl fun v w' ho2 hbb => ⟨v, rfl, ?_⟩
                    have ejk : j + 1 + (md - j) = md + 1 := by omega
                    rw [ejk] at ho2
                    exact ⟨hbb _ hb, fun h => absurd h (by omega), fun _ => by simpa [Act.put, Array.getD_eq_getD_getElem?, hsz] using ho2, fun h => absurd h (by omega)⟩
                  | 2, hj =>
                    obtain rfl : 12 = j := Option.some.inj hj
                    obtain rfl := Option.some.inj ho
                    clear hj ho
                    have hP := h1 (by omega)
                    clear h0 h1 hfr hou
                    obtain ⟨hb, -, ho, -⟩ := hP
                    refine late_assign rfl rfl ⟨_, rfl, ?_⟩
                    exact ⟨hb, fun h => absurd h (by omega), fun _ => by simpa [Act.put, Array.getD_eq_getD_getElem?, hsz] using ho (by omega), fun _ => by simp [Act.put, Act.eval, Array.getD_eq_getD_getElem?, hsz]⟩
                  | q + 3, hj => cases hj
                case fin =>
                  intro a w2 ha hP
                  obtain ⟨d2, -, ho2, he2⟩ := hP
                  have e3 : a.tmps.getD 3 undef = a.tmps.getD 60 undef := by simpa using he2 rfl
                  have hr2 : w2.ownsRow w1.heap.size 3 1 (a.tmps.getD 60 undef) (md + 1) (nums (d.take j ++ [i] ++ d.drop j)) := ho2 (by decide)
                  clear he2 ho2
                  obtain ⟨v60, e60⟩ : ∃ v, a.tmps.getD 60 undef = v := ⟨_, rfl⟩
                  rw [e60] at e3 hr2
                  simp only [List.foldl_cons, List.foldl_nil, e3, e60] at ha
                  clear e3 e60
                  generalize a.tmps.getD 49 undef = v49 at ha
                  generalize a.tmps.getD 50 undef = v50 at ha
                  generalize a.tmps.getD 51 undef = v51 at ha
                  generalize a.tmps.getD 52 undef = v52 at ha
                  generalize a.tmps.getD 53 undef = v53 at ha
                  generalize a.tmps.getD 54 undef = v54 at ha
                  generalize a.tmps.getD 55 undef = v55 at ha
                  generalize a.tmps.getD 56 undef = v56 at ha
                  generalize a.tmps.getD 57 undef = v57 at ha
                  generalize a.tmps.getD 58 undef = v58 at ha
                  generalize a.tmps.getD 59 undef = v59 at ha
                  simp only [Act.put, List.setIfInBounds_toArray, List.set_cons_succ, List.set_cons_zero] at ha
                  subst ha
                  rw [← HLM.out] at hr2
                  have HR2 := Lib.hid (own_base (B' := w0.heap.size) hr2 HB2.out.size)
                  have HB3 := Lib.hid (HB2.out.trans (d2.mono HB2.out.size))
                  clear hr2 d2
                  go_wp2
                  go_roundw
                  case rel => exact ⟨i + 1, d.take j ++ [i] ++ d.drop j, by go_num, HIN.out, HR2.out, HDD.out, HB3.out⟩
                  case measure => have := HIN.out; first | omega | (simp [intOf]; omega)
              · have HY2 := Lib.hid (HYES.out (of_decide_eq_true HLE.out))
                have HB2 := Lib.hid (HBI.out.trans (dV.mono HBI.out.size))
                clear dV
                go_wp2
                go_roundw
                case rel => exact ⟨j - 1, by first | rfl | go_num | (congr 1; omega), by omega, HY2.out, HB2.out⟩
                case measure => simp [intOf]; omega
          · have GT := Lib.hid (fun (W : World) => gtrI9 W (j : Int) 0 false (by simp; omega))
            have HEX := Lib.hid (show ∀ (_ : 0 < j) (h : j - 1 < d.length), Tb.qAt xs d[j - 1] ≤ xq from fun h _ => absurd h hj0)
            go_wp2
            refine wp_softS (by kernel_rfl) 62 [(26, [5]), (27, [26]), (28, [27]), (29, [1, 28]), (30, [29, 28]), (31, [3, 28]), (32, [5, 28]), (33, [32, 28]), (34, [31, 33, 28]), (35, [34, 28]), (36, [30, 35, 28]), (37, [36, 28]), (38, [37, 28]), (39, [1, 28]), (40, [39, 28]), (41, [4, 28]), (42, [40, 41, 28]), (43, [42, 28]), (44, [43, 28]), (45, [38, 44, 28]), (46, [28, 45])]
              [Fact.is (.int .i64 (j : Int)), Fact.is (.bool false), Fact.is (.bool false), Fact.is (undef), Fact.is (undef), Fact.is (undef), Fact.is (undef), Fact.is (undef), Fact.is (undef), Fact.is (undef), Fact.is (undef), Fact.is (undef), Fact.is (undef), Fact.is (undef), Fact.is (undef), Fact.is (undef), Fact.is (undef), Fact.is (undef), Fact.is (undef), Fact.is (undef), Fact.is (.bool false)]
              (by kernel_rfl) rfl rfl ⟨?s0, ?s1, ?s2, ?s3, ?s4, ?s5, ?s6, ?s7, ?s8, ?s9, ?s10, ?s11, ?s12, ?s13, ?s14, ?s15, ?s16, ?s17, ?s18, ?s19, ?s20, trivial⟩ ?fin
            case s0 =>
              intro ρ W hb hc hf hr
              obtain ⟨r5, -⟩ := hr
              have e5 : ρ (.tmp 5) = .int .i64 (j : Int) := r5
              clear r5
              refine under_none rfl ?_
              exact ⟨e5, Below.refl _ _⟩
            case s1 =>
              intro ρ W hb hc hf hr
              obtain ⟨r26, -⟩ := hr
              have e26 : ρ (.tmp 26) = .int .i64 (j : Int) := r26
              clear r26
              refine under_none rfl ?_
              exact soft_bin e26 (hc _) rfl rfl (GT.out W)
            case s2 =>
              intro ρ W hb hc hf hr
              obtain ⟨r27, -⟩ := hr
              have e27 : ρ (.tmp 27) = .bool false := r27
              clear r27
              refine under_none rfl ?_
              exact ⟨e27, Below.refl _ _⟩
            case s3 =>
              intro ρ W hb hc hf hr
              obtain ⟨r1, r28, -⟩ := hr
              have e1 : ρ (.tmp 1) = .pointer (some ⟨w.heap.size, 0, none⟩) := r1
              clear r1
              have e28 : ρ (.tmp 28) = .bool false := r28
              clear r28
              exact ⟨28, rfl, .inr (.inl ⟨e28, rfl⟩)⟩
            case s4 =>
              intro ρ W hb hc hf hr
              obtain ⟨r29, r28, -⟩ := hr
              have e29 : ρ (.tmp 29) = undef := r29
              clear r29
              have e28 : ρ (.tmp 28) = .bool false := r28
              clear r28
              exact ⟨28, rfl, .inr (.inl ⟨e28, rfl⟩)⟩
            case s5 =>
              intro ρ W hb hc hf hr
              obtain ⟨r3, r28, -⟩ := hr
              have e3 : ρ (.tmp 3) = .slice AV md cv := r3
              clear r3
              have e28 : ρ (.tmp 28) = .bool false := r28
              clear r28
              exact ⟨28, rfl, .inr (.inl ⟨e28, rfl⟩)⟩
            case s6 =>
              intro ρ W hb hc hf hr
              obtain ⟨r5, r28, -⟩ := hr
              have e5 : ρ (.tmp 5) = .int .i64 (j : Int) := r5
              clear r5
              have e28 : ρ (.tmp 28) = .bool false := r28
              clear r28
              exact ⟨28, rfl, .inr (.inl ⟨e28, rfl⟩)⟩
            case s7 =>
              intro ρ W hb hc hf hr
              obtain ⟨r32, r28, -⟩ := hr
              have e32 : ρ (.tmp 32) = undef := r32
              clear r32
              have e28 : ρ (.tmp 28) = .bool false := r28
              clear r28
              exact ⟨28, rfl, .inr (.inl ⟨e28, rfl⟩)⟩
            case s8 =>
              intro ρ W hb hc hf hr
              obtain ⟨r31, r33, r28, -⟩ := hr
              have e31 : ρ (.tmp 31) = undef := r31
              clear r31
              have e33 : ρ (.tmp 33) = undef := r33
              clear r33
              have e28 : ρ (.tmp 28) = .bool false := r28
              clear r28
              exact ⟨28, rfl, .inr (.inl ⟨e28, rfl⟩)⟩
            case s9 =>
              intro ρ W hb hc hf hr
              obtain ⟨r34, r28, -⟩ := hr
              have e34 : ρ (.tmp 34) = undef := r34
              clear r34
              have e28 : ρ (.tmp 28) = .bool false := r28
              clear r28
              exact ⟨28, rfl, .inr (.inl ⟨e28, rfl⟩)⟩
            case s10 =>
              intro ρ W hb hc hf hr
              obtain ⟨r30, r35, r28, -⟩ := hr
              have e30 : ρ (.tmp 30) = undef := r30
              clear r30
              have e35 : ρ (.tmp 35) = undef := r35
              clear r35
              have e28 : ρ (.tmp 28) = .bool false := r28
              clear r28
              exact ⟨28, rfl, .inr (.inl ⟨e28, rfl⟩)⟩
            case s11 =>
              intro ρ W hb hc hf hr
              obtain ⟨r36, r28, -⟩ := hr
              have e36 : ρ (.tmp 36) = undef := r36
              clear r36
              have e28 : ρ (.tmp 28) = .bool false := r28
              clear r28
              exact ⟨28, rfl, .inr (.inl ⟨e28, rfl⟩)⟩
            case s12 =>
              intro ρ W hb hc hf hr
              obtain ⟨r37, r28, -⟩ := hr
              have e37 : ρ (.tmp 37) = undef := r37
              clear r37
              have e28 : ρ (.tmp 28) = .bool false := r28
              clear r28
              exact ⟨28, rfl, .inr (.inl ⟨e28, rfl⟩)⟩
            case s13 =>
              intro ρ W hb hc hf hr
              obtain ⟨r1, r28, -⟩ := hr
              have e1 : ρ (.tmp 1) = .pointer (some ⟨w.heap.size, 0, none⟩) := r1
              clear r1
              have e28 : ρ (.tmp 28) = .bool false := r28
              clear r28
              exact ⟨28, rfl, .inr (.inl ⟨e28, rfl⟩)⟩
            case s14 =>
              intro ρ W hb hc hf hr
              obtain ⟨r39, r28, -⟩ := hr
              have e39 : ρ (.tmp 39) = undef := r39
              clear r39
              have e28 : ρ (.tmp 28) = .bool false := r28
              clear r28
              exact ⟨28, rfl, .inr (.inl ⟨e28, rfl⟩)⟩
            case s15 =>
              intro ρ W hb hc hf hr
              obtain ⟨r4, r28, -⟩ := hr
              have e4 : ρ (.tmp 4) = .int .i64 (i : Int) := r4
              clear r4
              have e28 : ρ (.tmp 28) = .bool false := r28
              clear r28
              exact ⟨28, rfl, .inr (.inl ⟨e28, rfl⟩)⟩
            case s16 =>
              intro ρ W hb hc hf hr
              obtain ⟨r40, r41, r28, -⟩ := hr
              have e40 : ρ (.tmp 40) = undef := r40
              clear r40
              have e41 : ρ (.tmp 41) = undef := r41
              clear r41
              have e28 : ρ (.tmp 28) = .bool false := r28
              clear r28
              exact ⟨28, rfl, .inr (.inl ⟨e28, rfl⟩)⟩
            case s17 =>
              intro ρ W hb hc hf hr
              obtain ⟨r42, r28, -⟩ := hr
              have e42 : ρ (.tmp 42) = undef := r42
              clear r42
              have e28 : ρ (.tmp 28) = .bool false := r28
              clear r28
              exact ⟨28, rfl, .inr (.inl ⟨e28, rfl⟩)⟩
            case s18 =>
              intro ρ W hb hc hf hr
              obtain ⟨r43, r28, -⟩ := hr
              have e43 : ρ (.tmp 43) = undef := r43
              clear r43
              have e28 : ρ (.tmp 28) = .bool false := r28
              clear r28
              exact ⟨28, rfl, .inr (.inl ⟨e28, rfl⟩)⟩
            case s19 =>
              intro ρ W hb hc hf hr
              obtain ⟨r38, r44, r28, -⟩ := hr
              have e38 : ρ (.tmp 38) = undef := r38
              clear r38
              have e44 : ρ (.tmp 44) = undef := r44
              clear r44
              have e28 : ρ (.tmp 28) = .bool false := r28
              clear r28
              exact ⟨28, rfl, .inr (.inl ⟨e28, rfl⟩)⟩
            case s20 =>
              intro ρ W hb hc hf hr
              obtain ⟨r28, r45, -⟩ := hr
              have e28 : ρ (.tmp 28) = .bool false := r28
              clear r28
              have e45 : ρ (.tmp 45) = undef := r45
              clear r45
              refine under_none rfl ?_
              simp [execOp, e28, hc, go_sem, softUpon, Fact.is, Below.refl]
            case fin =>
              intro a w1 hb hd hsz hk
              have ea := act_puts hd hsz rfl hk
              have k26 : a.tmps.getD 26 undef = .int .i64 (j : Int) := hk 26
              have k27 : a.tmps.getD 27 undef = .bool false := hk 27
              have k28 : a.tmps.getD 28 undef = .bool false := hk 28
              have k29 : a.tmps.getD 29 undef = undef := hk 29
              have k30 : a.tmps.getD 30 undef = undef := hk 30
              have k31 : a.tmps.getD 31 undef = undef := hk 31
              have k32 : a.tmps.getD 32 undef = undef := hk 32
              have k33 : a.tmps.getD 33 undef = undef := hk 33
              have k34 : a.tmps.getD 34 undef = undef := hk 34
              have k35 : a.tmps.getD 35 undef = undef := hk 35
              have k36 : a.tmps.getD 36 undef = undef := hk 36
              have k37 : a.tmps.getD 37 undef = undef := hk 37
              have k38 : a.tmps.getD 38 undef = undef := hk 38
              have k39 : a.tmps.getD 39 undef = undef := hk 39
              have k40 : a.tmps.getD 40 undef = undef := hk 40
              have k41 : a.tmps.getD 41 undef = undef := hk 41
              have k42 : a.tmps.getD 42 undef = undef := hk 42
              have k43 : a.tmps.getD 43 undef = undef := hk 43
              have k44 : a.tmps.getD 44 undef = undef := hk 44
              have k45 : a.tmps.getD 45 undef = undef := hk 45
              have k46 : a.tmps.getD 46 undef = .bool false := hk 46
              clear hk hd hsz
              simp only [List.map_cons, List.map_nil, List.foldl_cons, List.foldl_nil, k26, k27, k28, k29, k30, k31, k32, k33, k34, k35, k36, k37, k38, k39, k40, k41, k42, k43, k44, k45, k46] at ea
              clear k26 k27 k28 k29 k30 k31 k32 k33 k34 k35 k36 k37 k38 k39 k40 k41 k42 k43 k44 k45 k46
              simp only [Act.put, List.setIfInBounds_toArray, List.set_cons_succ, List.set_cons_zero] at ea
              subst ea
              have dV : Below wr.heap.size wr w1 := undrew hb
              clear hb
              have HDD := Lib.hid (HINS.out j HALL.out HEX.out hj)
              have HLM := Lib.hid (len_mid d i j md HMD.out hj)
              have hbd : Below w1.heap.size w1 w1.drew := (Below.refl _ _).drew
              have HL2 := Lib.hid (HLR.out.below dV)
              have HB2 := Lib.hid (HBZ.out.trans (dV.mono HBZ.out.size))
              have hcm2 : cv ≤ 9223372036854775807 := by unfold maxLen at hcm; omega
              clear dV
              go_wp2
              refine wp_late (by kernel_rfl) 62 [(49, []), (50, [3]), (51, [5]), (52, [50, 51]), (53, [49, 52]), (54, [4]), (55, [54]), (1007, [53, 55]), (57, [3]), (58, [5]), (59, [57, 58]), (1011, [56, 59]), (1012, [60])]
                [Fact.fresh w1.heap.size 3, Fact.is (.slice AV md cv), Fact.is (.int .i64 (j : Int)), Fact.lie j (nums (d.take j)), Fact.row w1.heap.size 3 1 j (nums (d.take j)), Fact.is (.int .i64 (i : Int)), Fact.lie 1 (nums [i]), default, Fact.is (.slice AV md cv), Fact.is (.int .i64 (j : Int)), Fact.is (.slice (if cv = j then AV else AV.map (·.add j)) (md - j) (cv - j)), default, default]
                [1, 1, 1, 1, 1, 1, 1, 2, 0, 0, 0, 2, 2] [7, 11, 12] [56, 60, 3] [49, 50, 51, 52, 53, 54, 55, 56, 57, 58, 59, 60, 3] (Row2 w1.heap.size 3 1 (j + 1) (md + 1) (nums (d.take j ++ [i])) (nums (d.take j ++ [i] ++ d.drop j)) w1)
                (by kernel_rfl) (by kernel_rfl) rfl rfl ⟨?s0, ?s1, ?s2, ?s3, ?s4, ?s5, ?s6, ?s8, ?s9, ?s10, trivial⟩ ?late ?fin
              case s0 =>
                intro ρ W hb hc hf hr
                clear hr
                refine under_none rfl ?_
                exact soft_freshN (hbd.trans (hb.mono (by simp))).size rfl
              case s1 =>
                intro ρ W hb hc hf hr
                obtain ⟨r3, -⟩ := hr
                have e3 : ρ (.tmp 3) = .slice AV md cv := r3
                clear r3
                refine under_none rfl ?_
                exact ⟨e3, Below.refl _ _⟩
              case s2 =>
                intro ρ W hb hc hf hr
                obtain ⟨r5, -⟩ := hr
                have e5 : ρ (.tmp 5) = .int .i64 (j : Int) := r5
                clear r5
                refine under_none rfl ?_
                exact ⟨e5, Below.refl _ _⟩
              case s3 =>
                intro ρ W hb hc hf hr
                obtain ⟨r50, r51, -⟩ := hr
                have e50 : ρ (.tmp 50) = .slice AV md cv := r50
                clear r50
                have e51 : ρ (.tmp 51) = .int .i64 (j : Int) := r51
                clear r51
                refine under_none rfl ?_
                exact soft_takeLN e50 e51 HMD.out hj hcv hcm2 (HL2.out.below (hbd.trans (hb.mono (by simp)))) rfl
              case s4 =>
                intro ρ W hb hc hf hr
                obtain ⟨r49, r52, -⟩ := hr
                refine under_none rfl ?_
                exact soft_app0LN r49 r52 (by rw [List.length_take, HMD.out]; omega) (by omega) rfl
              case s5 =>
                intro ρ W hb hc hf hr
                obtain ⟨r4, -⟩ := hr
                have e4 : ρ (.tmp 4) = .int .i64 (i : Int) := r4
                clear r4
                refine under_none rfl ?_
                exact ⟨e4, Below.refl _ _⟩
              case s6 =>
                intro ρ W hb hc hf hr
                obtain ⟨r54, -⟩ := hr
                have e54 : ρ (.tmp 54) = .int .i64 (i : Int) := r54
                clear r54
                refine under_none rfl ?_
                exact soft_oneN e54 rfl
              case s8 =>
                refine ⟨rfl, _, rfl, ?_⟩
                intro ρ W hc hf hr
                obtain ⟨r3, -⟩ := hr
                have e3 : ρ (.tmp 3) = .slice AV md cv := r3
                clear r3
                simp [execOp, e3]
              case s9 =>
                refine ⟨rfl, _, rfl, ?_⟩
                intro ρ W hc hf hr
                obtain ⟨r5, -⟩ := hr
                have e5 : ρ (.tmp 5) = .int .i64 (j : Int) := r5
                clear r5
                simp [execOp, e5]
              case s10 =>
                refine ⟨rfl, _, rfl, ?_⟩
                intro ρ W hc hf hr
                obtain ⟨r57, r58, -⟩ := hr
                have e57 : ρ (.tmp 57) = .slice AV md cv := r57
                clear r57
                have e58 : ρ (.tmp 58) = .int .i64 (j : Int) := r58
                clear r58
                exact run_dropLN e57 e58 hj hcv hcm2 hAV rfl
              case late =>
                intro p j o hj ho a W hsz h0 h1 hfr hou
                match p, hj with
                | 0, hj =>
                  obtain rfl : 7 = j := Option.some.inj hj
                  obtain rfl := Option.some.inj ho
                  clear hj ho
                  obtain ⟨hb, hhard⟩ := h0 rfl
                  have r53 : (Fact.row w1.heap.size 3 1 j (nums (d.take j))).φ (a.tmps.getD 53 undef) W := hhard 53 4 rfl rfl
                  have r55 : (Fact.lie 1 (nums [i])).φ (a.tmps.getD 55 undef) W := hhard 55 6 rfl rfl
                  clear h0 h1 hhard hfr hou
                  have hW := hbd.trans (hb.mono (by simp))
                  refine late_appN (s := .tmp 53) (x := .tmp 55) (n := j) (m := 1) (l := d.take j) (k := [i]) r53 r55 rfl (by omega) hW.size rfl fun v w' ho hbb => ⟨v, rfl, ?_⟩
                  exact ⟨hbb _ hW, fun _ => by simpa [Act.put, Array.getD_eq_getD_getElem?, hsz] using ho, fun h => absurd h (by omega), fun h => absurd h (by omega)⟩
                | 1, hj =>
                  obtain rfl : 11 = j := Option.some.inj hj
                  obtain rfl := Option.some.inj ho
                  clear hj ho
                  have hP := h1 (by omega)
                  have e59 : a.eval (.tmp 59) = .slice (if cv = j then AV else AV.map (·.add j)) (md - j) (cv - j) := hfr 59 10 rfl rfl (by kernel_rfl)
                  clear h0 h1 hfr hou
                  obtain ⟨hb, ho, -, -⟩ := hP
                  refine late_appN (s := .tmp 56) (x := .tmp 59) (n := j + 1) (m := md - j) (l := d.take j ++ [i]) (k := d.drop j) (ho rfl) ⟨_, _, e59, drop_liesN HMD.out hcv (HL2.out.below hb)⟩ (by rw [List.length_drop, HMD.out]) (by omega) hb.size rfl fun v w' ho2 hbb => ⟨v, rfl, ?_⟩
                  have ejk : j + 1 + (md - j) = md + 1 := by omega
                  rw [ejk] at ho2
                  exact ⟨hbb _ hb, fun h => absurd h (by omega), fun _ => by simpa [Act.put, Array.getD_eq_getD_getElem?, hsz] using ho2, fun h => absurd h (by omega)⟩
                | 2, hj =>
                  obtain rfl : 12 = j := Option.some.inj hj
                  obtain rfl := Option.some.inj ho
                  clear hj ho
                  have hP := h1 (by omega)
                  clear h0 h1 hfr hou
                  obtain ⟨hb, -, ho, -⟩ := hP
                  refine late_assign rfl rfl ⟨_, rfl, ?_⟩
                  exact ⟨hb, fun h => absurd h (by omega), fun _ => by simpa [Act.put, Array.getD_eq_getD_getElem?, hsz] using ho (by omega), fun _ => by simp [Act.put, Act.eval, Array.getD_eq_getD_getElem?, hsz]⟩
                | q + 3, hj => cases hj
              case fin =>
                intro a w2 ha hP
                obtain ⟨d2, -, ho2, he2⟩ := hP
                have e3 : a.tmps.getD 3 undef = a.tmps.getD 60 undef := by simpa using he2 rfl
                have hr2 : w2.ownsRow w1.heap.size 3 1 (a.tmps.getD 60 undef) (md + 1) (nums (d.take j ++ [i] ++ d.drop j)) := ho2 (by decide)
                clear he2 ho2
                obtain ⟨v60, e60⟩ : ∃ v, a.tmps.getD 60 undef = v := ⟨_, rfl⟩
                rw [e60] at e3 hr2
                simp only [List.foldl_cons, List.foldl_nil, e3, e60] at ha
                clear e3 e60
                generalize a.tmps.getD 49 undef = v49 at ha
                generalize a.tmps.getD 50 undef = v50 at ha
                generalize a.tmps.getD 51 undef = v51 at ha
                generalize a.tmps.getD 52 undef = v52 at ha
                generalize a.tmps.getD 53 undef = v53 at ha
                generalize a.tmps.getD 54 undef = v54 at ha
                generalize a.tmps.getD 55 undef = v55 at ha
                generalize a.tmps.getD 56 undef = v56 at ha
                generalize a.tmps.getD 57 undef = v57 at ha
                generalize a.tmps.getD 58 undef = v58 at ha
                generalize a.tmps.getD 59 undef = v59 at ha
                simp only [Act.put, List.setIfInBounds_toArray, List.set_cons_succ, List.set_cons_zero] at ha
                subst ha
                rw [← HLM.out] at hr2
                have HR2 := Lib.hid (own_base (B' := w0.heap.size) hr2 HB2.out.size)
                have HB3 := Lib.hid (HB2.out.trans (d2.mono HB2.out.size))
                clear hr2 d2
                go_wp2
                go_roundw
                case rel => exact ⟨i + 1, d.take j ++ [i] ++ d.drop j, by go_num, HIN.out, HR2.out, HDD.out, HB3.out⟩
                case measure => have := HIN.out; first | omega | (simp [intOf]; omega)
    · obtain rfl : i = n := by omega
      have HD := Lib.hid (show d = Tb.ord xs from (show Sorted9 xs xs.length d by rw [HN.out]; exact HSO.out).all HAP.out)
      have HOZ := Lib.hid (own_base (B' := w.heap.size) HOW.out HB0.out.size)
      go_wp2
      go_ret
      rw [← HD.out]
      exact ⟨_, rfl, HOZ.out, HBR.out⟩

end Go.Proofs.YtbjaieopjkbijaaDoor
