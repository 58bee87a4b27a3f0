/-
  turntableref05: what with answers, of texts in order and one more. Nothing is assumed but that the texts lie in memory.
-/
import Derived.Test.YtmmkmhphnhanfaaGreatDoorTrR6
import Derived.Test.YtmmkmhphnhanfaaGreatDoorTrT
import Derived.Sort.Walk0

namespace Go.Proofs.YtmmkmhphnhanfaaGreatDoor
open Go.RowKit
set_option maxRecDepth 100000

theorem soft_freshT {w : World} {ρ : Operand → Value} {o : Oper} {B : Nat} (hB : B ≤ w.heap.size) (ho : o.op = .buildSlice 33 0 #[]) : softUpon Tryz.prog w (Fact.fresh B 9) ((execOp ρ o).run Tryz.prog w) := by
  have hr : (execOp ρ o).run Tryz.prog w = .ok (.value (.slice (some ⟨w.heap.size, 0, none⟩) 0 0)) (w.alloc (.cells #[] 9)) := by
    simp [execOp, ho, go_sem]
  rw [hr]
  exact ⟨⟨_, rfl, hB, heap_alloc_new w _⟩, (Below.refl _ _).alloc (Nat.le_refl _) _⟩
theorem soft_oneT {w : World} {ρ : Operand → Value} {o : Oper} {y : Operand} {s : List UInt8} (hy : ρ y = .string (str s)) (ho : o.op = .buildSlice 33 1 #[(0, y)]) : softUpon Tryz.prog w (Fact.lie 1 (strs [s])) ((execOp ρ o).run Tryz.prog w) := by
  have hr : (execOp ρ o).run Tryz.prog w = .ok (.value (.slice (some ⟨w.heap.size, 0, none⟩) 1 1)) (w.alloc (.cells #[.string (str s)] 9)) := by
    simp [execOp, ho, hy, go_sem]
  rw [hr]
  exact ⟨⟨_, _, rfl, lies_made w _ _ _ _ rfl rfl⟩, (Below.refl _ _).alloc (Nat.le_refl _) _⟩
theorem soft_app0T {w : World} {ρ : Operand → Value} {o : Oper} {s x : Operand} {B n : Nat} {l : List (List UInt8)} (hs : (Fact.fresh B 9).φ (ρ s) w) (hx : (Fact.lie n (strs l)).φ (ρ x) w) (hn : l.length = n) (h300 : n ≤ 1000) (ho : o.op = .call { callee := .builtin .append, args := #[s, x], argTypes := #[33, 33] }) :
    softUpon Tryz.prog w (Fact.row B 9 1 n (strs l)) ((execOp ρ o).run Tryz.prog w) := by
  obtain ⟨i0, hi, hz0, hz1, hz2⟩ := info_parts infoStr
  exact soft_app0 Tryz.underlying33 hi hz0 hz1 hz2 rfl (by decide) hs hx (by rw [strs_length, hn]; omega) (strs_one l) (by unfold maxLen; omega) (by omega) ho
theorem late_appT {W : World} {a : Act} {o : Oper} {s x : Operand} {B n m : Nat} {l k : List (List UInt8)} {K : Act → World → Prop} {Q : Exit → Act → World → Prop} (hs : (Fact.row B 9 1 n (strs l)).φ (a.eval s) W) (hx : (Fact.lie m (strs k)).φ (a.eval x) W) (hm : k.length = m) (hb : n + m ≤ 1000) (hB : B ≤ W.heap.size) (ho : o.op = .call { callee := .builtin .append, args := #[s, x], argTypes := #[33, 33] })
    (hK : ∀ v w', w'.ownsRow B 9 1 v (n + m) (strs (l ++ k)) → (∀ u0, Below B u0 W → Below B u0 w') → K (a.put o.dst v) w') : o.wp Tryz.prog a W K Q := by
  obtain ⟨i0, hi, hz0, hz1, hz2⟩ := info_parts infoStr
  refine late_app Tryz.underlying33 hi hz0 hz1 hz2 rfl (by decide) hs hx (by rw [strs_length, hm]; omega) (strs_one k) (by unfold maxLen; omega) (by omega) hB ho fun v w' h => hK v w' ?_
  have e : strs (l ++ k) = strs l ++ strs k := by simp [strs]
  rw [e]
  exact h
theorem run_dropT (W : World) (A : Option Addr) (n cap j : Nat) (h1 : j ≤ n) (h2 : n ≤ cap) (_h3 : cap ≤ 9223372036854775807) (hA : A = none → n = 0) : (Instr.sliceAt 33 (.slice A n cap) (some (.int .i64 (j : Int))) none none).run Tryz.prog W = .ok (.slice (if cap = j then A else A.map (·.add j)) (n - j) (cap - j)) W := by
  rcases A with _ | ad
  · have h0 := hA rfl
    obtain rfl : j = 0 := by omega
    subst h0
    by_cases h : cap = 0
    · subst h
      go_simp
    · go_simp
  · by_cases h : cap = j
    · subst h
      obtain rfl : n = cap := by omega
      go_simp
    · go_simp
theorem run_takeT (W : World) (A : Option Addr) (n cap j : Nat) (h1 : j ≤ n) (h2 : n ≤ cap) (_h3 : cap ≤ 9223372036854775807) (hA : A = none → n = 0) : (Instr.sliceAt 33 (.slice A n cap) none (some (.int .i64 (j : Int))) none).run Tryz.prog W = .ok (.slice A j cap) W := by
  rcases A with _ | ad
  · have h0 := hA rfl
    obtain rfl : j = 0 := by omega
    subst h0
    go_simp
  · have h : ¬ cap < j := by omega
    go_simp
theorem lies_noneT {w : World} {A : Option Addr} {l : List (List UInt8)} (h : Lies w A (strs l)) : A = none → l.length = 0 := by
  intro e
  rcases h with h | ⟨ad, e2, _⟩
  · have := congrArg List.length h
    rw [strs_length] at this
    simpa using this
  · rw [e] at e2; cases e2
theorem soft_takeT {w : World} {ρ : Operand → Value} {o : Oper} {x y : Operand} {A : Option Addr} {n cap j : Nat} {l : List (List UInt8)} (hx : ρ x = .slice A n cap) (hy : ρ y = .int .i64 (j : Int)) (hn : l.length = n) (h1 : j ≤ n) (h2 : n ≤ cap) (h3 : cap ≤ 9223372036854775807) (hA : Lies w A (strs l)) (ho : o.op = .slice 33 x none (some y) none) :
    softUpon Tryz.prog w (Fact.lie j (strs (l.take j))) ((execOp ρ o).run Tryz.prog w) := by
  have e : (execOp ρ o).run Tryz.prog w = .ok (.value (.slice A j cap)) w := by
    simp [execOp, ho, hx, hy, run_takeT w A n cap j h1 h2 h3 (by rw [← hn]; exact lies_noneT hA)]
  rw [e]
  refine ⟨⟨_, _, rfl, ?_⟩, Below.refl _ _⟩
  have e2 : strs (l.take j) = (strs l).take j := by simp [strs, List.map_take]
  rw [e2]
  exact hA.take _
theorem run_dropTL {w : World} {ρ : Operand → Value} {o : Oper} {x y : Operand} {A : Option Addr} {n cap j : Nat} (hx : ρ x = .slice A n cap) (hy : ρ y = .int .i64 (j : Int)) (h1 : j ≤ n) (h2 : n ≤ cap) (h3 : cap ≤ 9223372036854775807) (hA : A = none → n = 0) (ho : o.op = .slice 33 x (some y) none none) :
    (execOp ρ o).run Tryz.prog w = .ok (.value (.slice (if cap = j then A else A.map (·.add j)) (n - j) (cap - j))) w := by
  simp [execOp, ho, hx, hy, run_dropT w A n cap j h1 h2 h3 hA]
theorem drop_liesT {w : World} {A : Option Addr} {n cap j : Nat} {l : List (List UInt8)} (hn : l.length = n) (h2 : n ≤ cap) (hA : Lies w A (strs l)) : Lies w (if cap = j then A else A.map (·.add j)) (strs (l.drop j)) := by
  have e2 : strs (l.drop j) = (strs l).drop j := by simp [strs, List.map_drop]
  rw [e2]
  exact hA.drop (by rw [strs_length, hn]; exact h2)
/-- what the open region keeps of three slots -/
def ThreeT (B j n : Nat) (l : List (List UInt8)) (s : List UInt8) (W : World) (p : Nat) (vs : List Value) (w : World) : Prop := Below B W w ∧ (p = 1 → w.ownsRow B 9 1 (vs.getD 0 undef) (j + 1) (strs (l.take j ++ [s]))) ∧ (2 ≤ p → w.ownsRow B 9 1 (vs.getD 1 undef) (n + 1) (strs (l.take j ++ [s] ++ l.drop j))) ∧ (p = 3 → vs.getD 2 undef = vs.getD 1 undef)
theorem while_at (s : List UInt8) : ∀ (l : List (List UInt8)) (j : Nat), j ≤ l.length → (∀ y ∈ l.take j, y < s) → (∀ h : j < l.length, ¬ l[j] < s) → l.takeWhile (fun x => decide (x < s)) = l.take j ∧ l.dropWhile (fun x => decide (x < s)) = l.drop j
  | [], j, _, _, _ => by simp
  | a :: l, 0, _, _, h2 => by
    have h := h2 (by simp)
    simp only [List.getElem_cons_zero] at h
    simp [h]
  | a :: l, j + 1, hj, h1, h2 => by
    have h := h1 a (by simp)
    have ih := while_at s l j (by simpa using hj) (fun y hy => h1 y (by simp [hy])) (fun h' => by have := h2 (by simpa using h'); simpa using this)
    simp [h, ih.1, ih.2]
theorem less_run (a b : List UInt8) : Op.bytesLess (str a).toList (str b).toList = decide (a < b) := by rw [str_toList, str_toList, bytesLess_eq]

set_option maxHeartbeats 8000000 in
theorem with_any (A : Option Addr) (n cap : Nat) (l : List (List UInt8)) (s : List UInt8) (w : World) (hn : l.length = n) (hcn : n ≤ cap) (hmm : cap ≤ maxLen) (h900 : n ≤ 900) (hA : Lies w A (strs l)) :
    Calls Tryz.prog 41 #[.slice A n cap, .string (str s)] w fun e w' => ∃ v, e = .returned v ∧ GivesT w w' (Plain.wth l s) v := by
  have HN := Lib.hid hn
  have HA := Lib.hid hA
  have hAn : A = none → n = 0 := by rw [← hn]; exact lies_noneT hA
  have HM := Lib.hid hmm
  have hm := hmm
  unfold maxLen at hm
  have HW := Lib.hid (show ∀ j, j ≤ n → (∀ y ∈ l.take j, y < s) → (∀ h : j < l.length, ¬ l[j] < s) → (∀ h : j < l.length, l[j] = s → Plain.wth l s = l) ∧ ((∀ h : j < l.length, l[j] ≠ s) → Plain.wth l s = l.take j ++ [s] ++ l.drop j) from fun j h1 h2 h3 => by
    obtain ⟨e1, e2⟩ := while_at s l j (by rw [hn]; exact h1) h2 h3
    unfold Plain.wth
    rw [e1, e2]
    refine ⟨fun h h4 => ?_, fun h4 => ?_⟩
    · rw [if_pos]
      rw [List.drop_eq_getElem_cons h]; simp [h4]
    · rw [if_neg]
      · simp
      · intro h5
        by_cases h : j < l.length
        · rw [List.drop_eq_getElem_cons h] at h5
          simp at h5
          rw [List.getElem?_eq_getElem h] at h5
          exact h4 h (Option.some.inj h5)
        · rw [List.drop_of_length_le (by omega)] at h5
          simp at h5)
  clear hn hA hmm
  go_enter Tryz.func41, Tryz.ntmps41
  go_wp2
  go_loopw [5] (fun i wr => ∃ j : Nat, i = .int .i64 j ∧ j ≤ n ∧ (∀ y ∈ l.take j, y < s) ∧ Below w.heap.size w wr) (fun i _ => n - (intOf i).toNat)
  case atStart => exact ⟨0, rfl, Nat.zero_le _, by simp, Below.refl _ _⟩
  case round =>
    obtain ⟨j, rfl, hj, hall, hbr⟩ := hrel
    have HALL := Lib.hid hall
    clear hall
    have HA2 := Lib.hid (HA.out.below hbr)
    have hbd : Below wr.heap.size wr wr.drew := (Below.refl _ _).drew
    by_cases hjn : j < n
    · have hjl : j < l.length := by rw [HN.out]; exact hjn
      obtain ⟨ad, hAe, -, hcl⟩ := at_text HA.out j hjl
      have y0 := hcl wr hbr
      have hbl := less_run l[j] s
      have hne := beq_str l[j] s
      have HYES := Lib.hid (show l[j] < s → ∀ z ∈ l.take (j + 1), z < s from fun h z hz => by
        rw [List.take_succ_eq_append_getElem hjl] at hz
        rcases List.mem_append.1 hz with hz | hz
        · exact HALL.out z hz
        · rw [List.mem_singleton.1 hz]; exact h)
      have HWJ := Lib.hid (show ¬ l[j] < s → (l[j] = s → Plain.wth l s = l) ∧ (l[j] ≠ s → Plain.wth l s = l.take j ++ [s] ++ l.drop j) from fun h => ⟨fun h2 => (HW.out j hj HALL.out (fun _ => h)).1 hjl h2, fun h2 => (HW.out j hj HALL.out (fun _ => h)).2 (fun _ => h2)⟩)
      clear hcl
      generalize l[j] = y at *
      by_cases hys : y < s
      · have HY2 := Lib.hid (HYES.out hys)
        rw [decide_eq_true hys] at hbl
        clear hys hne
        subst hAe
        generalize str y = Y at *
        generalize str s = S at *
        go_wp2
        go_roundw
        case rel => exact ⟨j + 1, by go_num, by omega, HY2.out, hbr⟩
        case measure => simp [intOf]; omega
      · obtain ⟨w1', w2'⟩ := HWJ.out hys
        rw [decide_eq_false hys] at hbl
        clear hys
        by_cases hye : y = s
        · have HWL := Lib.hid (w1' hye)
          rw [decide_eq_true hye] at hne
          clear hye w1' w2'
          subst hAe
          generalize str y = Y at *
          generalize str s = S at *
          go_wp2
          go_ret
          rw [HWL.out]
          exact ⟨.slice (some ad) n cap, rfl, some ad, cap, by rw [HN.out], by rw [HN.out]; exact hcn, HM.out, HA2.out, hbr⟩
        · have HWL := Lib.hid (w2' hye)
          rw [decide_eq_false hye] at hne
          clear hye w1' w2' HWJ HYES
          generalize str y = Y at *
          subst hAe
          go_wp2
          refine wp_late (by kernel_rfl) 45 [(33, []), (34, [0]), (35, [5]), (36, [34, 35]), (37, [33, 36]), (38, [1]), (39, [38]), (1007, [37, 39]), (41, [0]), (42, [5]), (43, [41, 42]), (1011, [40, 43]), (1012, [44])]
            [Fact.fresh wr.heap.size 9, Fact.is (.slice (some ad) n cap), Fact.is (.int .i64 (j : Int)), Fact.lie j (strs (l.take j)), Fact.row wr.heap.size 9 1 j (strs (l.take j)), Fact.is (.string (str s)), Fact.lie 1 (strs [s]), default, Fact.is (.slice (some ad) n cap), Fact.is (.int .i64 (j : Int)), Fact.is (.slice (if cap = j then (some ad) else (some ad).map (·.add j)) (n - j) (cap - j)), default, default]
            [1, 1, 1, 1, 1, 1, 1, 2, 0, 0, 0, 2, 2] [7, 11, 12] [40, 44, 4] [33, 34, 35, 36, 37, 38, 39, 40, 41, 42, 43, 44, 4] (ThreeT wr.heap.size j n l s wr)
            (by kernel_rfl) (by kernel_rfl) rfl rfl ⟨?s0, ?s1, ?s2, ?s3, ?s4, ?s5, ?s6, ?s8, ?s9, ?s10, trivial⟩ ?late ?fin
          case s0 =>
            intro ρ W hb hc hf hr
            clear hr
            refine under_none rfl ?_
            exact soft_freshT (hbd.trans (hb.mono (by simp))).size rfl
          case s1 =>
            intro ρ W hb hc hf hr
            obtain ⟨r0, -⟩ := hr
            have e0 : ρ (.tmp 0) = .slice (some ad) n cap := r0
            clear r0
            refine under_none rfl ?_
            exact ⟨e0, Below.refl _ _⟩
          case s2 =>
            intro ρ W hb hc hf hr
            obtain ⟨r5, -⟩ := hr
            have e5 : ρ (.tmp 5) = .int .i64 (j : Int) := r5
            clear r5
            refine under_none rfl ?_
            exact ⟨e5, Below.refl _ _⟩
          case s3 =>
            intro ρ W hb hc hf hr
            obtain ⟨r34, r35, -⟩ := hr
            have e34 : ρ (.tmp 34) = .slice (some ad) n cap := r34
            clear r34
            have e35 : ρ (.tmp 35) = .int .i64 (j : Int) := r35
            clear r35
            refine under_none rfl ?_
            exact soft_takeT e34 e35 HN.out hj hcn hm (HA2.out.below (hbd.trans (hb.mono (by simp)))) rfl
          case s4 =>
            intro ρ W hb hc hf hr
            obtain ⟨r33, r36, -⟩ := hr
            refine under_none rfl ?_
            exact soft_app0T r33 r36 (by rw [List.length_take, HN.out]; omega) (by omega) rfl
          case s5 =>
            intro ρ W hb hc hf hr
            obtain ⟨r1, -⟩ := hr
            have e1 : ρ (.tmp 1) = .string (str s) := r1
            clear r1
            refine under_none rfl ?_
            exact ⟨e1, Below.refl _ _⟩
          case s6 =>
            intro ρ W hb hc hf hr
            obtain ⟨r38, -⟩ := hr
            have e38 : ρ (.tmp 38) = .string (str s) := r38
            clear r38
            refine under_none rfl ?_
            exact soft_oneT e38 rfl
          case s8 =>
            refine ⟨rfl, _, rfl, ?_⟩
            intro ρ W hc hf hr
            obtain ⟨r0, -⟩ := hr
            have e0 : ρ (.tmp 0) = .slice (some ad) n cap := r0
            clear r0
            simp [execOp, e0]
          case s9 =>
            refine ⟨rfl, _, rfl, ?_⟩
            intro ρ W hc hf hr
            obtain ⟨r5, -⟩ := hr
            have e5 : ρ (.tmp 5) = .int .i64 (j : Int) := r5
            clear r5
            simp [execOp, e5]
          case s10 =>
            refine ⟨rfl, _, rfl, ?_⟩
            intro ρ W hc hf hr
            obtain ⟨r41, r42, -⟩ := hr
            have e41 : ρ (.tmp 41) = .slice (some ad) n cap := r41
            clear r41
            have e42 : ρ (.tmp 42) = .int .i64 (j : Int) := r42
            clear r42
            exact run_dropTL e41 e42 hj hcn hm hAn rfl
          case late =>
            intro p j o hj ho a W hsz h0 h1 hfr hou
            match p, hj with
            | 0, hj =>
              obtain rfl : 7 = j := Option.some.inj hj
              obtain rfl := Option.some.inj ho
              clear hj ho
              obtain ⟨hb, hhard⟩ := h0 rfl
              have r37 : (Fact.row wr.heap.size 9 1 j (strs (l.take j))).φ (a.tmps.getD 37 undef) W := hhard 37 4 rfl rfl
              have r39 : (Fact.lie 1 (strs [s])).φ (a.tmps.getD 39 undef) W := hhard 39 6 rfl rfl
              clear h0 h1 hhard hfr hou
              refine late_appT (s := .tmp 37) (x := .tmp 39) (n := j) (m := 1) (l := l.take j) (k := [s]) r37 r39 rfl (by omega) (hbd.trans (hb.mono (by simp))).size rfl fun v w' ho hbb => ⟨v, rfl, ?_⟩
              exact ⟨hbb _ (hbd.trans (hb.mono (by simp))), fun _ => by simpa [Act.put, Array.getD_eq_getD_getElem?, hsz] using ho, fun h => absurd h (by omega), fun h => absurd h (by omega)⟩
            | 1, hj =>
              obtain rfl : 11 = j := Option.some.inj hj
              obtain rfl := Option.some.inj ho
              clear hj ho
              have hP := h1 (by omega)
              have e43 : a.eval (.tmp 43) = .slice (if cap = j then (some ad) else (some ad).map (·.add j)) (n - j) (cap - j) := hfr 43 10 rfl rfl (by kernel_rfl)
              clear h0 h1 hfr hou
              obtain ⟨hb, ho, -, -⟩ := hP
              refine late_appT (s := .tmp 40) (x := .tmp 43) (n := j + 1) (m := n - j) (l := l.take j ++ [s]) (k := l.drop j) (ho rfl) ⟨_, _, e43, drop_liesT HN.out hcn (HA2.out.below hb)⟩ (by rw [List.length_drop, HN.out]) (by omega) hb.size rfl fun v w' ho2 hbb => ⟨v, rfl, ?_⟩
              have ejk : j + 1 + (n - j) = n + 1 := by omega
              rw [ejk] at ho2
              exact ⟨hbb _ hb, fun h => absurd h (by omega), fun _ => by simpa [Act.put, Array.getD_eq_getD_getElem?, hsz] using ho2, fun h => absurd h (by omega)⟩
            | 2, hj =>
              obtain rfl : 12 = j := Option.some.inj hj
              obtain rfl := Option.some.inj ho
              clear hj ho
              have hP := h1 (by omega)
              clear h0 h1 hfr hou
              obtain ⟨hb, -, ho, -⟩ := hP
              refine late_assign rfl rfl ⟨_, rfl, ?_⟩
              exact ⟨hb, fun h => absurd h (by omega), fun _ => by simpa [Act.put, Array.getD_eq_getD_getElem?, hsz] using ho (by omega), fun _ => by simp [Act.put, Act.eval, Array.getD_eq_getD_getElem?, hsz]⟩
            | q + 3, hj => cases hj
          case fin =>
            intro a w2 ha hP
            obtain ⟨d2, -, ho2, he2⟩ := hP
            have e4 : a.tmps.getD 4 undef = a.tmps.getD 44 undef := by simpa using he2 rfl
            have hr2 : w2.ownsRow wr.heap.size 9 1 (a.tmps.getD 44 undef) (n + 1) (strs (l.take j ++ [s] ++ l.drop j)) := ho2 (by decide)
            clear he2 ho2
            obtain ⟨v44, e44⟩ : ∃ v, a.tmps.getD 44 undef = v := ⟨_, rfl⟩
            rw [e44] at e4 hr2
            simp only [List.foldl_cons, List.foldl_nil, e4, e44] at ha
            clear e4 e44
            generalize a.tmps.getD 33 undef = v33 at ha
            generalize a.tmps.getD 34 undef = v34 at ha
            generalize a.tmps.getD 35 undef = v35 at ha
            generalize a.tmps.getD 36 undef = v36 at ha
            generalize a.tmps.getD 37 undef = v37 at ha
            generalize a.tmps.getD 38 undef = v38 at ha
            generalize a.tmps.getD 39 undef = v39 at ha
            generalize a.tmps.getD 40 undef = v40 at ha
            generalize a.tmps.getD 41 undef = v41 at ha
            generalize a.tmps.getD 42 undef = v42 at ha
            generalize a.tmps.getD 43 undef = v43 at ha
            simp only [Act.put, List.setIfInBounds_toArray, List.set_cons_succ, List.set_cons_zero] at ha
            subst ha
            have HR2 := Lib.hid hr2
            clear hr2
            go_wp2
            go_ret
            rw [HWL.out]
            obtain ⟨A7, cap7, rfl, hl7, hm7, hll, hL7⟩ := own_form HR2.out
            rw [strs_length] at hll
            exact ⟨.slice A7 (n + 1) cap7, rfl, A7, cap7, by rw [hll], by rw [hll]; exact hl7, hm7, hL7, hbr.trans (d2.mono hbr.size)⟩
    · obtain rfl : j = n := by omega
      have HWL := Lib.hid ((HW.out j hj HALL.out (fun h => absurd h (by rw [HN.out]; omega))).2 (fun h => absurd h (by rw [HN.out]; omega)))
      go_wp2
      refine wp_late (by kernel_rfl) 45 [(33, []), (34, [0]), (35, [5]), (36, [34, 35]), (37, [33, 36]), (38, [1]), (39, [38]), (1007, [37, 39]), (41, [0]), (42, [5]), (43, [41, 42]), (1011, [40, 43]), (1012, [44])]
        [Fact.fresh wr.heap.size 9, Fact.is (.slice A j cap), Fact.is (.int .i64 (j : Int)), Fact.lie j (strs (l.take j)), Fact.row wr.heap.size 9 1 j (strs (l.take j)), Fact.is (.string (str s)), Fact.lie 1 (strs [s]), default, Fact.is (.slice A j cap), Fact.is (.int .i64 (j : Int)), Fact.is (.slice (if cap = j then A else A.map (·.add j)) (j - j) (cap - j)), default, default]
        [1, 1, 1, 1, 1, 1, 1, 2, 0, 0, 0, 2, 2] [7, 11, 12] [40, 44, 4] [33, 34, 35, 36, 37, 38, 39, 40, 41, 42, 43, 44, 4] (ThreeT wr.heap.size j j l s wr)
        (by kernel_rfl) (by kernel_rfl) rfl rfl ⟨?s0, ?s1, ?s2, ?s3, ?s4, ?s5, ?s6, ?s8, ?s9, ?s10, trivial⟩ ?late ?fin
      case s0 =>
        intro ρ W hb hc hf hr
        clear hr
        refine under_none rfl ?_
        exact soft_freshT (hbd.trans (hb.mono (by simp))).size rfl
      case s1 =>
        intro ρ W hb hc hf hr
        obtain ⟨r0, -⟩ := hr
        have e0 : ρ (.tmp 0) = .slice A j cap := r0
        clear r0
        refine under_none rfl ?_
        exact ⟨e0, Below.refl _ _⟩
      case s2 =>
        intro ρ W hb hc hf hr
        obtain ⟨r5, -⟩ := hr
        have e5 : ρ (.tmp 5) = .int .i64 (j : Int) := r5
        clear r5
        refine under_none rfl ?_
        exact ⟨e5, Below.refl _ _⟩
      case s3 =>
        intro ρ W hb hc hf hr
        obtain ⟨r34, r35, -⟩ := hr
        have e34 : ρ (.tmp 34) = .slice A j cap := r34
        clear r34
        have e35 : ρ (.tmp 35) = .int .i64 (j : Int) := r35
        clear r35
        refine under_none rfl ?_
        exact soft_takeT e34 e35 HN.out hj hcn hm (HA2.out.below (hbd.trans (hb.mono (by simp)))) rfl
      case s4 =>
        intro ρ W hb hc hf hr
        obtain ⟨r33, r36, -⟩ := hr
        refine under_none rfl ?_
        exact soft_app0T r33 r36 (by rw [List.length_take, HN.out]; omega) (by omega) rfl
      case s5 =>
        intro ρ W hb hc hf hr
        obtain ⟨r1, -⟩ := hr
        have e1 : ρ (.tmp 1) = .string (str s) := r1
        clear r1
        refine under_none rfl ?_
        exact ⟨e1, Below.refl _ _⟩
      case s6 =>
        intro ρ W hb hc hf hr
        obtain ⟨r38, -⟩ := hr
        have e38 : ρ (.tmp 38) = .string (str s) := r38
        clear r38
        refine under_none rfl ?_
        exact soft_oneT e38 rfl
      case s8 =>
        refine ⟨rfl, _, rfl, ?_⟩
        intro ρ W hc hf hr
        obtain ⟨r0, -⟩ := hr
        have e0 : ρ (.tmp 0) = .slice A j cap := r0
        clear r0
        simp [execOp, e0]
      case s9 =>
        refine ⟨rfl, _, rfl, ?_⟩
        intro ρ W hc hf hr
        obtain ⟨r5, -⟩ := hr
        have e5 : ρ (.tmp 5) = .int .i64 (j : Int) := r5
        clear r5
        simp [execOp, e5]
      case s10 =>
        refine ⟨rfl, _, rfl, ?_⟩
        intro ρ W hc hf hr
        obtain ⟨r41, r42, -⟩ := hr
        have e41 : ρ (.tmp 41) = .slice A j cap := r41
        clear r41
        have e42 : ρ (.tmp 42) = .int .i64 (j : Int) := r42
        clear r42
        exact run_dropTL e41 e42 hj hcn hm hAn rfl
      case late =>
        intro p j o hj ho a W hsz h0 h1 hfr hou
        match p, hj with
        | 0, hj =>
          obtain rfl : 7 = j := Option.some.inj hj
          obtain rfl := Option.some.inj ho
          clear hj ho
          obtain ⟨hb, hhard⟩ := h0 rfl
          have r37 : (Fact.row wr.heap.size 9 1 j (strs (l.take j))).φ (a.tmps.getD 37 undef) W := hhard 37 4 rfl rfl
          have r39 : (Fact.lie 1 (strs [s])).φ (a.tmps.getD 39 undef) W := hhard 39 6 rfl rfl
          clear h0 h1 hhard hfr hou
          refine late_appT (s := .tmp 37) (x := .tmp 39) (n := j) (m := 1) (l := l.take j) (k := [s]) r37 r39 rfl (by omega) (hbd.trans (hb.mono (by simp))).size rfl fun v w' ho hbb => ⟨v, rfl, ?_⟩
          exact ⟨hbb _ (hbd.trans (hb.mono (by simp))), fun _ => by simpa [Act.put, Array.getD_eq_getD_getElem?, hsz] using ho, fun h => absurd h (by omega), fun h => absurd h (by omega)⟩
        | 1, hj =>
          obtain rfl : 11 = j := Option.some.inj hj
          obtain rfl := Option.some.inj ho
          clear hj ho
          have hP := h1 (by omega)
          have e43 : a.eval (.tmp 43) = .slice (if cap = j then A else A.map (·.add j)) (j - j) (cap - j) := hfr 43 10 rfl rfl (by kernel_rfl)
          clear h0 h1 hfr hou
          obtain ⟨hb, ho, -, -⟩ := hP
          refine late_appT (s := .tmp 40) (x := .tmp 43) (n := j + 1) (m := j - j) (l := l.take j ++ [s]) (k := l.drop j) (ho rfl) ⟨_, _, e43, drop_liesT HN.out hcn (HA2.out.below hb)⟩ (by rw [List.length_drop, HN.out]) (by omega) hb.size rfl fun v w' ho2 hbb => ⟨v, rfl, ?_⟩
          have ejk : j + 1 + (j - j) = j + 1 := by omega
          rw [ejk] at ho2
          exact ⟨hbb _ hb, fun h => absurd h (by omega), fun _ => by simpa [Act.put, Array.getD_eq_getD_getElem?, hsz] using ho2, fun h => absurd h (by omega)⟩
        | 2, hj =>
          obtain rfl : 12 = j := Option.some.inj hj
          obtain rfl := Option.some.inj ho
          clear hj ho
          have hP := h1 (by omega)
          clear h0 h1 hfr hou
          obtain ⟨hb, -, ho, -⟩ := hP
          refine late_assign rfl rfl ⟨_, rfl, ?_⟩
          exact ⟨hb, fun h => absurd h (by omega), fun _ => by simpa [Act.put, Array.getD_eq_getD_getElem?, hsz] using ho (by omega), fun _ => by simp [Act.put, Act.eval, Array.getD_eq_getD_getElem?, hsz]⟩
        | q + 3, hj => cases hj
      case fin =>
        intro a w2 ha hP
        obtain ⟨d2, -, ho2, he2⟩ := hP
        have e4 : a.tmps.getD 4 undef = a.tmps.getD 44 undef := by simpa using he2 rfl
        have hr2 : w2.ownsRow wr.heap.size 9 1 (a.tmps.getD 44 undef) (j + 1) (strs (l.take j ++ [s] ++ l.drop j)) := ho2 (by decide)
        clear he2 ho2
        obtain ⟨v44, e44⟩ : ∃ v, a.tmps.getD 44 undef = v := ⟨_, rfl⟩
        rw [e44] at e4 hr2
        simp only [List.foldl_cons, List.foldl_nil, e4, e44] at ha
        clear e4 e44
        generalize a.tmps.getD 33 undef = v33 at ha
        generalize a.tmps.getD 34 undef = v34 at ha
        generalize a.tmps.getD 35 undef = v35 at ha
        generalize a.tmps.getD 36 undef = v36 at ha
        generalize a.tmps.getD 37 undef = v37 at ha
        generalize a.tmps.getD 38 undef = v38 at ha
        generalize a.tmps.getD 39 undef = v39 at ha
        generalize a.tmps.getD 40 undef = v40 at ha
        generalize a.tmps.getD 41 undef = v41 at ha
        generalize a.tmps.getD 42 undef = v42 at ha
        generalize a.tmps.getD 43 undef = v43 at ha
        simp only [Act.put, List.setIfInBounds_toArray, List.set_cons_succ, List.set_cons_zero] at ha
        subst ha
        have HR2 := Lib.hid hr2
        clear hr2
        go_wp2
        go_ret
        rw [HWL.out]
        obtain ⟨A7, cap7, rfl, hl7, hm7, hll, hL7⟩ := own_form HR2.out
        rw [strs_length] at hll
        exact ⟨.slice A7 (j + 1) cap7, rfl, A7, cap7, by rw [hll], by rw [hll]; exact hl7, hm7, hL7, hbr.trans (d2.mono hbr.size)⟩
end Go.Proofs.YtmmkmhphnhanfaaGreatDoor

