/-
  P5.1, TraceNone: for all spans and every place the law returns true: spans of two traces, one twice, or none, are no trace's. No condition; what the row lists is tied to the program's text.
-/
import Derived.Test.YtmmkmhphnhanfaaGreatDoorTrHd
import Derived.Test.YtmmkmhphnhanfaaGreatDoorSoftA
namespace Go.Proofs.YtmmkmhphnhanfaaGreatDoor.traceNone
open Go.ChangeShapes Go.WideShapes Go.ChangeAt Go.RowKit
set_option maxRecDepth 100000

theorem twice {l : List Plain.Sp} {x : Plain.Sp} (h : x ∈ l) : Plain.isT (Plain.srt (l ++ [x])) = false := by
  cases hb : Plain.isT (Plain.srt (l ++ [x])) with
  | false => rfl
  | true =>
    have := ((Plain.isT_srt _).1 hb).2.2.2.2
    rw [List.map_append, List.nodup_append] at this
    exact absurd rfl (this.2.2 x.i (List.mem_map_of_mem h) x.i (by simp))
theorem other {l : List Plain.Sp} {x y : Plain.Sp} (h : x ∈ l) (hy : y.t ≠ x.t) : Plain.isT (Plain.srt (l ++ [y])) = false := by
  cases hb : Plain.isT (Plain.srt (l ++ [y])) with
  | false => rfl
  | true => exact absurd (((Plain.isT_srt _).1 hb).2.2.2.1 y (by simp) x (by simp [h])) hy
theorem up_ne (t : Int) : t.tmod 281474976710656 + 1 ≠ t := by
  intro h
  rcases Int.le_total 0 t with h0 | h0
  · rw [Int.tmod_eq_emod_of_nonneg h0] at h; omega
  · have h1 := Int.neg_tmod (-t) 281474976710656
    rw [Int.neg_neg, Int.tmod_eq_emod_of_nonneg (show 0 ≤ -t by omega)] at h1
    rw [h1] at h
    omega
theorem tm (t : Int) : wrap64 (t.tmod 281474976710656 + 1) = t.tmod 281474976710656 + 1 := by
  have : t.tmod 281474976710656 + 1 < 2 ^ 63 ∧ -2 ^ 63 ≤ t.tmod 281474976710656 + 1 := by
    rcases Int.le_total 0 t with h0 | h0
    · rw [Int.tmod_eq_emod_of_nonneg h0]; omega
    · have h1 := Int.neg_tmod (-t) 281474976710656
      rw [Int.neg_neg, Int.tmod_eq_emod_of_nonneg (show 0 ≤ -t by omega)] at h1
      rw [h1]
      omega
  unfold wrap64; omega
/-- Sort, where it is no trace's -/
theorem sort_no (v : Value) (B n : Nat) (l : List Plain.Sp) (w : World) (ho : w.ownsRow B 40 7 v n (flat l)) (hn : l.length = n) (hS : Fine l) (hT : Plain.isT (Plain.srt l) = false) :
    Calls Tryz.prog 12 #[v] w fun e w' => ∃ u, e = .returned (.tuple #[u, .bool false]) ∧ Below w.heap.size w w' := by
  subst hn
  obtain ⟨A, cap, rfl, h1, h2, h3, -⟩ := GivesS.own (w := w) (w' := w) (l := l) ho (Below.refl _ _)
  refine (tsort_any A l.length cap l w rfl (Nat.le_trans h1 h2) h3 hS).mono ?_
  rw [hT]
  rintro e w' ⟨u, rfl, _, _, _, _, _, _, hb⟩
  exact ⟨u, rfl, hb⟩

set_option maxHeartbeats 8000000 in
theorem walk (w : World) (hT : Handle w) (A : Option Addr) (cap : Nat) (l : List Plain.Sp) (hl : l.length ≤ cap) (hm : cap ≤ maxLen) (hA : Lies w A (flat l)) (hS : ∀ x ∈ l, x.sv.length ≤ maxLen ∧ x.nm.length ≤ maxLen) (x1 : Int) (hx1 : 0 ≤ x1 ∧ x1 ≤ 255) :
    Calls Tryz.prog 7 #[.slice A l.length cap, .int .u8 x1] w fun e w' => e = .returned (.bool true) ∧ Below w.heap.size w w' := by
  have HA := Lib.hid hA
  have HH := Lib.hid (show ∀ u, Below w.heap.size w u → Handle u from fun u h => hT.below hT.lt h)
  have HT := Lib.hid hT
  have HS := Lib.hid (show Fine l from hS)
  obtain ⟨n, hn⟩ : ∃ n, l.length = n := ⟨_, rfl⟩
  rw [hn] at hl ⊢
  have HN := Lib.hid hn
  have HM := Lib.hid hm
  unfold maxLen at hm
  clear hA hT hS hn
  go_enter Tryz.func7, Tryz.ntmps7
  go_wp2_with fail
  refine (head_any w HT.out).mono ?_
  rintro e w1 ⟨rfl, c1⟩
  go_wp2_with fail
  refine (great_any A n cap l w1 HN.out hl HM.out (HA.out.below c1)).mono ?_
  rintro e w2 ⟨g, rfl, hg, d2⟩
  have c2 := c1.trans (d2.mono c1.size)
  rcases g with _ | _
  rotate_left
  · go_wp2_with fail
    refine (tright_any none 0 0 [] w2 rfl (Nat.zero_le _) (.inl rfl) (by simp [Fine])).mono ?_
    rintro e w3 ⟨rfl, d3⟩
    have hn0 := Plain.isT_nil
    rw [hn0]
    clear hn0
    go_wp2
    go_ret
    exact ⟨rfl, c2.trans (d3.mono c2.size)⟩
  have h300 := hg rfl
  clear hg
  by_cases h0 : n = 0
  · subst h0
    go_wp2_with fail
    refine (tright_any none 0 0 [] w2 rfl (Nat.zero_le _) (.inl rfl) (by simp [Fine])).mono ?_
    rintro e w3 ⟨rfl, d3⟩
    have hn0 := Plain.isT_nil
    rw [hn0]
    clear hn0
    go_wp2
    go_ret
    exact ⟨rfl, c2.trans (d3.mono c2.size)⟩
  obtain ⟨X, rfl⟩ := Int.eq_ofNat_of_zero_le hx1.1
  have hX : X ≤ 255 := by omega
  clear hx1
  obtain ⟨k, hk⟩ : ∃ k, X % n = k := ⟨_, rfl⟩
  have hkn : k < n := by rw [← hk]; exact Nat.mod_lt _ (by omega)
  have hkl : k < l.length := by rw [HN.out]; exact hkn
  obtain ⟨ad, rfl, hadb, hc⟩ := at_span HA.out k hkl
  have HX := Lib.hid (List.getElem_mem hkl)
  obtain ⟨hxv, hxn⟩ := HS.out l[k] (List.getElem_mem hkl)
  have LX := Lib.hid (fun (W : World) (h : Below w.heap.size w W) => have q := hc W h; load_span_at q.1 q.2.1 q.2.2.1 q.2.2.2.1 q.2.2.2.2.1 q.2.2.2.2.2.1 q.2.2.2.2.2.2)
  have LC := Lib.hid hc
  clear hc
  generalize l[k] = x at *
  have hbd : Below w2.heap.size w2 w2.drew := (Below.refl _ _).drew
  have hne : ((n : Int) == 0) = false := beq_eq_false_iff_ne.2 (by omega)
  have ek : (X : Int) % (n : Int) = (k : Int) := by rw [← hk]; simp
  go_wp2
  rw [ek]
  refine wp_late (by kernel_rfl) 80 [(32, []), (33, [0]), (34, [32, 33]), (35, [0]), (36, [6]), (37, [35, 36]), (38, [37]), (39, [38]), (1008, [34, 39]), (1009, [40])]
    [Fact.fresh w2.heap.size 40, Fact.is (.slice (some ad) n cap), Fact.row w2.heap.size 40 7 n (flat l), Fact.is (.slice (some ad) n cap), Fact.is (.int .i64 (k : Int)), Fact.is (.pointer (some (Addr.add ad (k * 7)))), Fact.is (.agg #[.int .i64 x.t, .int .i64 x.i, .int .i64 x.p, .int .i64 x.s, .int .i64 x.d, .string (str x.sv), .string (str x.nm)]), Fact.lie 1 (flat [x]), default, default]
    [1, 1, 1, 1, 1, 1, 1, 1, 2, 2] [8, 9] [40, 7] [32, 33, 34, 35, 36, 37, 38, 39, 40, 7] (Two w2.heap.size (n + 1) (l ++ [x]) w2)
    (by kernel_rfl) (by kernel_rfl) rfl rfl ⟨?s0, ?s1, ?s2, ?s3, ?s4, ?s5, ?s6, ?s7, trivial⟩ ?late ?fin
  case s0 =>
    intro ρ W hb hc hf hr
    clear hr
    refine under_none rfl ?_
    exact soft_freshS (hbd.trans (hb.mono (by simp))).size rfl
  case s1 =>
    intro ρ W hb hc hf hr
    obtain ⟨r0, -⟩ := hr
    have e0 : ρ (.tmp 0) = .slice (some ad) n cap := r0
    clear r0
    refine under_none rfl ?_
    exact ⟨e0, Below.refl _ _⟩
  case s2 =>
    intro ρ W hb hc hf hr
    obtain ⟨r32, r33, -⟩ := hr
    have e33 : ρ (.tmp 33) = .slice (some ad) n cap := r33
    clear r33
    refine under_none rfl ?_
    exact soft_app0S r32 e33 (HA.out.below (c2.trans ((hbd.trans (hb.mono (by simp))).mono c2.size))) HN.out (by omega) rfl
  case s3 =>
    intro ρ W hb hc hf hr
    obtain ⟨r0, -⟩ := hr
    have e0 : ρ (.tmp 0) = .slice (some ad) n cap := r0
    clear r0
    refine under_none rfl ?_
    exact ⟨e0, Below.refl _ _⟩
  case s4 =>
    intro ρ W hb hc hf hr
    obtain ⟨r6, -⟩ := hr
    have e6 : ρ (.tmp 6) = .int .i64 (k : Int) := r6
    clear r6
    refine under_none rfl ?_
    exact ⟨e6, Below.refl _ _⟩
  case s5 =>
    intro ρ W hb hc hf hr
    obtain ⟨r35, r36, -⟩ := hr
    have e35 : ρ (.tmp 35) = .slice (some ad) n cap := r35
    clear r35
    have e36 : ρ (.tmp 36) = .int .i64 (k : Int) := r36
    clear r36
    refine under_none rfl ?_
    exact soft_index7 e35 e36 (by omega) rfl
  case s6 =>
    intro ρ W hb hc hf hr
    obtain ⟨r37, -⟩ := hr
    have e37 : ρ (.tmp 37) = .pointer (some (Addr.add ad (k * 7))) := r37
    clear r37
    refine under_none rfl ?_
    exact soft_load e37 (LX.out W (c2.trans ((hbd.trans (hb.mono (by simp))).mono c2.size))) rfl
  case s7 =>
    intro ρ W hb hc hf hr
    obtain ⟨r38, -⟩ := hr
    have e38 : ρ (.tmp 38) = .agg #[.int .i64 x.t, .int .i64 x.i, .int .i64 x.p, .int .i64 x.s, .int .i64 x.d, .string (str x.sv), .string (str x.nm)] := r38
    clear r38
    refine under_none rfl ?_
    exact soft_oneS e38 rfl
  case late =>
    intro p j o hj ho a W hsz h0 h1 hfr hou
    match p, hj with
    | 0, hj =>
      obtain rfl : 8 = j := Option.some.inj hj
      obtain rfl := Option.some.inj ho
      clear hj ho
      obtain ⟨hb, hhard⟩ := h0 rfl
      have r34 : (Fact.row w2.heap.size 40 7 n (flat l)).φ (a.tmps.getD 34 undef) W := hhard 34 2 rfl rfl
      have r39 : (Fact.lie 1 (flat [x])).φ (a.tmps.getD 39 undef) W := hhard 39 7 rfl rfl
      clear h0 h1 hhard hfr hou
      refine late_appS (s := .tmp 34) (x := .tmp 39) (n := n) (m := 1) (l := l) (k := [x]) r34 r39 rfl (by omega) (hbd.trans (hb.mono (by simp))).size rfl fun v w' ho hbb => ⟨v, rfl, ?_⟩
      exact ⟨hbb _ (hbd.trans (hb.mono (by simp))), by simpa [Act.put, Array.getD_eq_getD_getElem?, hsz] using ho, fun h => absurd h (by omega)⟩
    | 1, hj =>
      obtain rfl : 9 = j := Option.some.inj hj
      obtain rfl := Option.some.inj ho
      clear hj ho
      have hP := h1 (by omega)
      clear h0 h1 hfr hou
      obtain ⟨hb, ho, -⟩ := hP
      refine late_assign rfl rfl ⟨_, rfl, ?_⟩
      exact ⟨hb, by simpa [Act.put, Array.getD_eq_getD_getElem?, hsz] using ho, by simp [Act.put, Act.eval, Array.getD_eq_getD_getElem?, hsz]⟩
    | q + 2, hj => cases hj
  case fin =>
    intro a w3 ha hP
    obtain ⟨d3, ho3, he3⟩ := hP
    have e7 : a.tmps.getD 7 undef = a.tmps.getD 40 undef := by simpa using he3 rfl
    have ho3 : w3.ownsRow w2.heap.size 40 7 (a.tmps.getD 40 undef) (n + 1) (flat (l ++ [x])) := ho3
    clear he3
    obtain ⟨v40, e40⟩ : ∃ v, a.tmps.getD 40 undef = v := ⟨_, rfl⟩
    rw [e40] at e7 ho3
    simp only [List.foldl_cons, List.foldl_nil, e7, e40] at ha
    clear e7 e40
    generalize a.tmps.getD 32 undef = v32 at ha
    generalize a.tmps.getD 33 undef = v33 at ha
    generalize a.tmps.getD 34 undef = v34 at ha
    generalize a.tmps.getD 35 undef = v35 at ha
    generalize a.tmps.getD 36 undef = v36 at ha
    generalize a.tmps.getD 37 undef = v37 at ha
    generalize a.tmps.getD 38 undef = v38 at ha
    generalize a.tmps.getD 39 undef = v39 at ha
    simp only [Act.put, List.setIfInBounds_toArray, List.set_cons_succ, List.set_cons_zero] at ha
    subst ha
    have c3 := c2.trans (d3.mono c2.size)
    have HO3 := Lib.hid ho3
    clear ho3
    obtain ⟨q0, q1, q2, q3, q4, q5, q6⟩ := LC.out w3 c3
    obtain ⟨y, hy⟩ : ∃ y : Plain.Sp, y = ⟨wrap64 (x.t.tmod 281474976710656 + 1), wrap64 (x.i.tmod 281474976710656 + 1), x.p, x.s, x.d, x.sv, x.nm⟩ := ⟨_, rfl⟩
    have hyt : y.t ≠ x.t := by rw [hy]; simp only [tm]; exact up_ne x.t
    have hFY : y.sv.length ≤ maxLen ∧ y.nm.length ≤ maxLen := by rw [hy]; exact ⟨hxv, hxn⟩
    have HFX := Lib.hid (show Fine (l ++ [x]) from fun z hz => by
      rcases List.mem_append.1 hz with h | h
      · exact HS.out z h
      · rw [List.mem_singleton.1 h]; exact ⟨hxv, hxn⟩)
    have HFY := Lib.hid (show Fine (l ++ [y]) from fun z hz => by
      rcases List.mem_append.1 hz with h | h
      · exact HS.out z h
      · rw [List.mem_singleton.1 h]; exact hFY)
    have HNY := Lib.hid (other HX.out hyt)
    go_wp2
    obtain ⟨w4, hw4⟩ : ∃ w4, w3.alloc (.cells #[.int .i64 (wrap64 (x.t.tmod 281474976710656 + 1)), .int .i64 (wrap64 (x.i.tmod 281474976710656 + 1)), .int .i64 x.p, .int .i64 x.s, .int .i64 x.d, .string (str x.sv), .string (str x.nm)] 40) = w4 := ⟨_, rfl⟩
    have bY : Blk w4 w3.heap.size #[.int .i64 y.t, .int .i64 y.i, .int .i64 y.p, .int .i64 y.s, .int .i64 y.d, .string (str y.sv), .string (str y.nm)] 40 := by rw [← hw4, hy]; exact Blk.new _ _ _
    have d4 : Below w3.heap.size w3 w4 := by rw [← hw4]; exact (Below.refl _ _).alloc (Nat.le_refl _) _
    have c4 := c3.trans (d4.mono c3.size)
    have hbd4 : Below w4.heap.size w4 w4.drew := (Below.refl _ _).drew
    have LY := Lib.hid (fun (W : World) (h : Below w4.heap.size w4 W) => load_span ((Kept.of h []).blk bY (by simp)))
    have HO4 := Lib.hid (row_keep HO3.out d4)
    rw [hw4]
    clear hw4 hy bY q0 q1 q2 q3 q4 q5 q6 HO3 hyt hFY
    refine wp_late (by kernel_rfl) 80 [(55, []), (56, [0]), (57, [55, 56]), (58, [8]), (59, [58]), (1005, [57, 59]), (1006, [60])]
      [Fact.fresh w4.heap.size 40, Fact.is (.slice (some ad) n cap), Fact.row w4.heap.size 40 7 n (flat l), Fact.is (.agg #[.int .i64 y.t, .int .i64 y.i, .int .i64 y.p, .int .i64 y.s, .int .i64 y.d, .string (str y.sv), .string (str y.nm)]), Fact.lie 1 (flat [y]), default, default]
      [1, 1, 1, 1, 1, 2, 2] [5, 6] [60, 9] [55, 56, 57, 58, 59, 60, 9] (Two w4.heap.size (n + 1) (l ++ [y]) w4)
      (by kernel_rfl) (by kernel_rfl) rfl rfl ⟨?s0, ?s1, ?s2, ?s3, ?s4, trivial⟩ ?late ?fin
    case s0 =>
      intro ρ W hb hc hf hr
      clear hr
      refine under_none rfl ?_
      exact soft_freshS (hbd4.trans (hb.mono (by simp))).size rfl
    case s1 =>
      intro ρ W hb hc hf hr
      obtain ⟨r0, -⟩ := hr
      have e0 : ρ (.tmp 0) = .slice (some ad) n cap := r0
      clear r0
      refine under_none rfl ?_
      exact ⟨e0, Below.refl _ _⟩
    case s2 =>
      intro ρ W hb hc hf hr
      obtain ⟨r55, r56, -⟩ := hr
      have e56 : ρ (.tmp 56) = .slice (some ad) n cap := r56
      clear r56
      refine under_none rfl ?_
      exact soft_app0S r55 e56 (HA.out.below (c4.trans ((hbd4.trans (hb.mono (by simp))).mono c4.size))) HN.out (by omega) rfl
    case s3 =>
      intro ρ W hb hc hf hr
      obtain ⟨r8, -⟩ := hr
      have e8 : ρ (.tmp 8) = .pointer (some ⟨w3.heap.size, 0, none⟩) := r8
      clear r8
      refine under_none rfl ?_
      exact soft_load e8 (LY.out W (hbd4.trans (hb.mono (by simp)))) rfl
    case s4 =>
      intro ρ W hb hc hf hr
      obtain ⟨r58, -⟩ := hr
      have e58 : ρ (.tmp 58) = .agg #[.int .i64 y.t, .int .i64 y.i, .int .i64 y.p, .int .i64 y.s, .int .i64 y.d, .string (str y.sv), .string (str y.nm)] := r58
      clear r58
      refine under_none rfl ?_
      exact soft_oneS e58 rfl
    case late =>
      intro p j o hj ho a W hsz h0 h1 hfr hou
      match p, hj with
      | 0, hj =>
        obtain rfl : 5 = j := Option.some.inj hj
        obtain rfl := Option.some.inj ho
        clear hj ho
        obtain ⟨hb, hhard⟩ := h0 rfl
        have r57 : (Fact.row w4.heap.size 40 7 n (flat l)).φ (a.tmps.getD 57 undef) W := hhard 57 2 rfl rfl
        have r59 : (Fact.lie 1 (flat [y])).φ (a.tmps.getD 59 undef) W := hhard 59 4 rfl rfl
        clear h0 h1 hhard hfr hou
        refine late_appS (s := .tmp 57) (x := .tmp 59) (n := n) (m := 1) (l := l) (k := [y]) r57 r59 rfl (by omega) (hbd4.trans (hb.mono (by simp))).size rfl fun v w' ho hbb => ⟨v, rfl, ?_⟩
        exact ⟨hbb _ (hbd4.trans (hb.mono (by simp))), by simpa [Act.put, Array.getD_eq_getD_getElem?, hsz] using ho, fun h => absurd h (by omega)⟩
      | 1, hj =>
        obtain rfl : 6 = j := Option.some.inj hj
        obtain rfl := Option.some.inj ho
        clear hj ho
        have hP := h1 (by omega)
        clear h0 h1 hfr hou
        obtain ⟨hb, ho, -⟩ := hP
        refine late_assign rfl rfl ⟨_, rfl, ?_⟩
        exact ⟨hb, by simpa [Act.put, Array.getD_eq_getD_getElem?, hsz] using ho, by simp [Act.put, Act.eval, Array.getD_eq_getD_getElem?, hsz]⟩
      | q + 2, hj => cases hj
    case fin =>
      intro a w5 ha hP
      obtain ⟨d5, ho5, he5⟩ := hP
      have e9 : a.tmps.getD 9 undef = a.tmps.getD 60 undef := by simpa using he5 rfl
      have ho5 : w5.ownsRow w4.heap.size 40 7 (a.tmps.getD 60 undef) (n + 1) (flat (l ++ [y])) := ho5
      clear he5
      obtain ⟨v60, e60⟩ : ∃ v, a.tmps.getD 60 undef = v := ⟨_, rfl⟩
      rw [e60] at e9 ho5
      simp only [List.foldl_cons, List.foldl_nil, e9, e60] at ha
      clear e9 e60
      generalize a.tmps.getD 55 undef = v55 at ha
      generalize a.tmps.getD 56 undef = v56 at ha
      generalize a.tmps.getD 57 undef = v57 at ha
      generalize a.tmps.getD 58 undef = v58 at ha
      generalize a.tmps.getD 59 undef = v59 at ha
      simp only [Act.put, List.setIfInBounds_toArray, List.set_cons_succ, List.set_cons_zero] at ha
      subst ha
      have c5 := c4.trans (d5.mono c4.size)
      have HO5 := Lib.hid ho5
      have HS1 := Lib.hid (sort_no v40 w2.heap.size (n + 1) (l ++ [x]) w5 (row_keep HO4.out d5) (by simp [HN.out]) HFX.out (twice HX.out))
      clear ho5 HO4
      go_wp2_with fail
      refine HS1.out.mono ?_
      rintro e w6 ⟨u6, rfl, d6⟩
      have c6 := c5.trans (d6.mono c5.size)
      have HS2 := Lib.hid (sort_no v60 w4.heap.size (n + 1) (l ++ [y]) w6 (row_keep HO5.out d6) (by simp [HN.out]) HFY.out HNY.out)
      clear HS1 HO5
      go_wp2_with fail
      refine HS2.out.mono ?_
      rintro e w7 ⟨u7, rfl, d7⟩
      have c7 := c6.trans (d7.mono c6.size)
      clear HS2
      go_wp2
      go_ret
      exact ⟨rfl, c7⟩


set_option maxRecDepth 100000 in
theorem lifted (os : Os) (started : os.Started) (H : Type) (enc : TypeId × Value → H) :
    ReturnsInHanded {} Tryz.checked os 7 .any (fun w args => (Rows.traceNoneSpec.pre enc Tryz.prog Tryz.f7 [] false w args ∧ laidMetH Tryz.prog laidHere w) ∧ sizedMet enc Tryz.prog Tryz.f7 (OpenSpec.ofChange Rows.traceNoneSpec) false w args) (Rows.traceNoneSpec.post enc Tryz.prog Tryz.f7 false true false false) := by
  refine returnsInHanded_of_change_and (C := Tryz.checked) (X := fun w _ => laidMetH Tryz.prog laidHere w) (fun _ _ _ hh h => h.of_heap hh) own started (by kernel_rfl) Tryz.func7
    (ChangeSpec.witness_at (enc := enc) (C := Tryz.checked) (os := os) (X := fun w _ => laidMetH Tryz.prog laidHere w) false (laidWorld os) #[.slice none 0 0, .int .u8 0] 8 rfl (by kernel_rfl) (by kernel_rfl) (by kernel_rfl) (by kernel_rfl) (by kernel_rfl) (laidWorld_met os _)) ?_
  intro W base args ds gs before hval0 hW _ _ hL _
  have hval : ∀ (j : Nat) t v, Tryz.f7.params[j]? = some t → args[j]? = some v → Value.okWide Tryz.prog W .any base t v := hval0
  have hfin := fun W' => law_post (enc := enc) (P := Tryz.prog) (f := Tryz.f7) (s := Rows.traceNoneSpec) (tb := 4) (W := W) (W' := W') (args := args) (ds := ds) (gs := gs) (before := before) laidOut rfl (by kernel_rfl) Tryz.underlying4 (by kernel_rfl) (fun xs h => by rw [Tryz.params7] at h; match xs, h with | [_, _], _ => rfl) hW
  have hlt : ∀ x ∈ before, x.block < W.heap.size := fun x hx => hW.lt x hx
  obtain ⟨p, q, hA0, hV, rfl, hfz, hnd⟩ := hW
  have hA : DataW.TrodAll enc Tryz.prog W 0 (fun _ => true) true Tryz.f7.params.toList args.toList ds p := hA0
  rw [Tryz.params7] at hA hval
  obtain ⟨v0, vs0, d0, ds0, p0, q0, hargs, rfl, rfl, h0, r0⟩ := trodAll_cons hA
  obtain ⟨v1, vs1, d1, ds1, p1, q1, rfl, rfl, rfl, h1, r1⟩ := trodAll_cons r0
  obtain ⟨rfl, rfl, rfl⟩ := trodAll_nil r1
  obtain rfl : args = #[v0, v1] := by cases args; simp_all
  obtain ⟨A0, cap0, l0, rfl, hl0, hm0, hB0, hS0⟩ := open_spans (hval 0 22 v0 rfl rfl) h0 (fun x hx => hlt x (by simp [hx]))
  obtain ⟨a1, rfl, rfl, rfl, w1⟩ := open_int Tryz.underlying5 (hval 1 5 v1 rfl rfl) h1
  refine (walk W (of_laid hL) A0 cap0 l0 hl0 hm0 hB0 hS0 a1 (bounds_u8 w1)).mono fun e W' ⟨he, hg⟩ => ?_
  subst he
  exact ⟨_, rfl, hfin W' hg⟩

theorem proved : Rows.TraceNoneSaid :=
  OpenClaim.holds_of_wide 7 Tryz.f7 rfl rfl rfl rfl rfl rfl rfl ⟨rfl, rfl, rfl, rfl, rfl⟩ rfl rfl rfl rfl rfl (by kernel_rfl) Tryz.func7 (by kernel_rfl)
    (of_decide_eq_true (by kernel_rfl)) (by unfold Func.isWrapper; first | (rw [if_pos (by decide +kernel)]; kernel_rfl) | (rw [if_neg (by decide +kernel)]; exact ⟨rfl, rfl⟩))
    (fun os started H enc _ => lifted os started H enc)

set_option maxRecDepth 100000 in
theorem card : Rows.TraceNoneCardSaid :=
  Claim7.holds_tied_plain_at .later [] laidKindsHere true _ true
    proved (fun _ h => by cases h) (by kernel_rfl) (fun _ h => by cases h) traceNone_row_tie rfl ⟨rfl, rfl⟩ (by kernel_rfl) rfl
    (fun f fn hf hfn => by
      obtain rfl : f = 7 := Option.some.inj ((show Tryz.prog.funcNamed "turntable/turntablelaw05.TraceNone" = some 7 by kernel_rfl).symm.trans hf) |>.symm
      obtain rfl : fn = Tryz.f7 := (Option.some.inj (Tryz.func7.symm.trans hfn)).symm
      exact ⟨by kernel_rfl, fun j t ht => by
        rw [Tryz.params7] at ht
        have hm : t ∈ [22, 5] := by simpa using Array.mem_of_getElem? ht
        have hall : ([22, 5].all fun u => !Tryz.prog.wantsStandIn u) = true := by kernel_rfl
        exact (show Tryz.prog.wantsStandIn t = false by simpa using List.all_eq_true.1 hall t hm)⟩)
    (by kernel_rfl)
#print axioms card
end Go.Proofs.YtmmkmhphnhanfaaGreatDoor.traceNone
