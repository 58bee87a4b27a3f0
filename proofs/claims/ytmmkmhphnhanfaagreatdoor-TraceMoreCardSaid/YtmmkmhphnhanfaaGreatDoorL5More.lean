/-
  P5.4, TraceMore: for all spans and every place the law returns true: a brief of more spans begins no later, ends no sooner, and has all services that one of fewer has. No condition; what the row lists is tied to the program's text.
-/
import Derived.Test.YtmmkmhphnhanfaaGreatDoorTrHd
import Derived.Test.YtmmkmhphnhanfaaGreatDoorSoftA
namespace Go.Proofs.YtmmkmhphnhanfaaGreatDoor.traceMore
open Go.ChangeShapes Go.WideShapes Go.ChangeAt Go.RowKit
set_option maxRecDepth 100000

theorem more {l : List Plain.Sp} {k : Nat} (hk : k < l.length) (h2 : 2 ≤ l.length) (h : Plain.isT (Plain.srt l) = true) :
    Plain.isT (Plain.srt (l.take k ++ l.drop (k + 1))) = true ∧ (Plain.brief (Plain.ts l)).lo ≤ (Plain.brief (Plain.ts (l.take k ++ l.drop (k + 1)))).lo ∧ (Plain.brief (Plain.ts (l.take k ++ l.drop (k + 1)))).hi ≤ (Plain.brief (Plain.ts l)).hi ∧ (Plain.brief (Plain.ts l)).many = (Plain.brief (Plain.ts (l.take k ++ l.drop (k + 1)))).many + 1 ∧ (Plain.brief (Plain.ts l)).id = (Plain.brief (Plain.ts (l.take k ++ l.drop (k + 1)))).id ∧ ∀ s ∈ (Plain.brief (Plain.ts (l.take k ++ l.drop (k + 1)))).sv, s ∈ (Plain.brief (Plain.ts l)).sv := by
  have hF := (Plain.isT_srt l).1 h
  have hsub : (l.take k ++ l.drop (k + 1)).Sublist l := by
    have e := List.take_append_drop k l
    have := List.Sublist.append (List.Sublist.refl (l.take k)) (List.drop_sublist_drop_left l (show k ≤ k + 1 by omega))
    rwa [e] at this
  have hlen : (l.take k ++ l.drop (k + 1)).length = l.length - 1 := by simp; omega
  generalize l.take k ++ l.drop (k + 1) = f at *
  have hG : Plain.Free f := ⟨fun e => by rw [e] at hlen; simp at hlen; omega, by have := hF.2.1; omega, fun x hx => hF.2.2.1 x (hsub.subset hx), fun x hx y hy => hF.2.2.2.1 x (hsub.subset hx) y (hsub.subset hy), (hsub.map Plain.Sp.i).nodup hF.2.2.2.2⟩
  have hg := (Plain.isT_srt f).2 hG
  have ps := Plain.srt_perm l
  have pf := Plain.srt_perm f
  have es := Plain.ts_yes h
  have ef := Plain.ts_yes hg
  rw [es, ef, Plain.brief_yes h, Plain.brief_yes hg]
  have hms : ∀ x, x ∈ Plain.srt f → x ∈ Plain.srt l := fun x hx => ps.mem_iff.2 (hsub.subset (pf.mem_iff.1 hx))
  have hns : Plain.srt l ≠ [] := fun e => by have := ps.length_eq; rw [e] at this; simp at this; omega
  have hnf : Plain.srt f ≠ [] := fun e => by have := pf.length_eq; rw [e] at this; simp at this; omega
  have m1 := Plain.head_mem hns
  have m2 := Plain.head_mem hnf
  refine ⟨hg, Plain.head_le ((Plain.isT_iff _).1 h) _ (hms _ m2), Plain.top_le (Plain.top_nonneg _) fun x hx => Plain.top_ge _ x (hms x hx), ?_, ?_, ?_⟩
  · simp only [ps.length_eq, pf.length_eq]; omega
  · exact hF.2.2.2.1 _ (ps.mem_iff.1 m1) _ (ps.mem_iff.1 (hms _ m2))
  · intro s hs
    obtain ⟨x, hx, e⟩ := (Plain.svs_mem _ s).1 hs
    exact (Plain.svs_mem _ s).2 ⟨x, hms x hx, e⟩

theorem many_le (l : List Plain.Sp) : (Plain.brief l).many ≤ 64 := by
  unfold Plain.brief
  split
  · exact (Plain.isT_len (by assumption)).2
  · exact Nat.zero_le _

set_option maxHeartbeats 16000000 in
theorem walk (w : World) (hT : Handle w) (A : Option Addr) (cap : Nat) (l : List Plain.Sp) (hl : l.length ≤ cap) (hm : cap ≤ maxLen) (hA : Lies w A (flat l)) (hS : ∀ x ∈ l, x.sv.length ≤ maxLen ∧ x.nm.length ≤ maxLen) (x1 : Int) (hx1 : 0 ≤ x1 ∧ x1 ≤ 255) :
    Calls Tryz.prog 8 #[.slice A l.length cap, .int .u8 x1] w fun e w' => e = .returned (.bool true) ∧ Below w.heap.size w w' := by
  have HA := Lib.hid hA
  have HH := Lib.hid (show ∀ u, Below w.heap.size w u → Handle u from fun u h => hT.below hT.lt h)
  have HT := Lib.hid hT
  have HS := Lib.hid (show Fine l from hS)
  obtain ⟨n, hn⟩ : ∃ n, l.length = n := ⟨_, rfl⟩
  rw [hn] at hl ⊢
  have HN := Lib.hid hn
  have HM := Lib.hid hm
  unfold maxLen at hm
  clear hA hT hS hn
  go_enter Tryz.func8, Tryz.ntmps8
  go_wp2_with fail
  refine (head_any w HT.out).mono ?_
  rintro e w1 ⟨rfl, c1⟩
  go_wp2_with fail
  refine (great_any A n cap l w1 HN.out hl HM.out (HA.out.below c1)).mono ?_
  rintro e w2 ⟨g, rfl, hg, d2⟩
  have c2 := c1.trans (d2.mono c1.size)
  rcases g with _ | _
  rotate_left
  · go_wp2
    go_ret
    exact ⟨rfl, c2⟩
  have h300 := hg rfl
  clear hg
  by_cases h0 : n < 2
  · go_wp2
    go_ret
    exact ⟨rfl, c2⟩
  obtain ⟨X, rfl⟩ := Int.eq_ofNat_of_zero_le hx1.1
  have hX : X ≤ 255 := by omega
  clear hx1
  obtain ⟨k, hk⟩ : ∃ k, X % n = k := ⟨_, rfl⟩
  have hkn : k < n := by rw [← hk]; exact Nat.mod_lt _ (by omega)
  have hkl : k < l.length := by rw [HN.out]; exact hkn
  obtain ⟨ad, rfl, hadb, -⟩ := at_span HA.out k hkl
  have hbd : Below w2.heap.size w2 w2.drew := (Below.refl _ _).drew
  have hne : ((n : Int) == 0) = false := beq_eq_false_iff_ne.2 (by omega)
  have ek : (X : Int) % (n : Int) = (k : Int) := by rw [← hk]; simp
  have HTK := Lib.hid (show (l.take k).length = k by rw [List.length_take, HN.out]; omega)
  have HDL := Lib.hid (show (l.drop (k + 1)).length = n - (k + 1) by rw [List.length_drop, HN.out])
  have HMORE := Lib.hid (more (l := l) (k := k) hkl (by rw [HN.out]; omega))
  have HFL := Lib.hid (show (l.take k ++ l.drop (k + 1)).length = n - 1 by rw [List.length_append, HTK.out, HDL.out]; omega)
  have HFF := Lib.hid (show Fine (l.take k ++ l.drop (k + 1)) from fun x hx => HS.out x (by
    rcases List.mem_append.1 hx with h | h
    · exact List.mem_of_mem_take h
    · exact List.mem_of_mem_drop h))
  clear hkl
  go_wp2
  rw [ek]
  clear ek
  refine wp_late (by kernel_rfl) 121 [(31, []), (32, [0]), (33, [6]), (34, [32, 33]), (35, [31, 34]), (36, [0]), (37, [6]), (38, [37]), (39, [36, 38]), (1009, [35, 39]), (1010, [40])]
    [Fact.fresh w2.heap.size 40, Fact.is (.slice (some ad) n cap), Fact.is (.int .i64 (k : Int)), Fact.is (.slice (some ad) k cap), Fact.row w2.heap.size 40 7 k (flat (l.take k)), Fact.is (.slice (some ad) n cap), Fact.is (.int .i64 (k : Int)), Fact.is (.int .i64 ((k + 1 : Nat) : Int)), Fact.lie (n - (k + 1)) (flat (l.drop (k + 1))), default, default]
    [1, 1, 1, 1, 1, 1, 1, 1, 1, 2, 2] [9, 10] [40, 7] [31, 32, 33, 34, 35, 36, 37, 38, 39, 40, 7] (Two w2.heap.size (n - 1) (l.take k ++ l.drop (k + 1)) w2)
    (by kernel_rfl) (by kernel_rfl) rfl rfl ⟨?s0, ?s1, ?s2, ?s3, ?s4, ?s5, ?s6, ?s7, ?s8, trivial⟩ ?late ?fin
  case s0 =>
    intro ρ W hb hc hf hr
    clear hr
    refine under_none rfl ?_
    exact soft_freshS (hbd.trans (hb.mono (by simp))).size rfl
  case s1 =>
    intro ρ W hb hc hf hr
    obtain ⟨r0, -⟩ := hr
    have e0 : ρ (.tmp 0) = .slice (some ad) n cap := r0
    clear r0
    refine under_none rfl ?_
    exact ⟨e0, Below.refl _ _⟩
  case s2 =>
    intro ρ W hb hc hf hr
    obtain ⟨r6, -⟩ := hr
    have e6 : ρ (.tmp 6) = .int .i64 (k : Int) := r6
    clear r6
    refine under_none rfl ?_
    exact ⟨e6, Below.refl _ _⟩
  case s3 =>
    intro ρ W hb hc hf hr
    obtain ⟨r32, r33, -⟩ := hr
    have e32 : ρ (.tmp 32) = .slice (some ad) n cap := r32
    clear r32
    have e33 : ρ (.tmp 33) = .int .i64 (k : Int) := r33
    clear r33
    refine under_none rfl ?_
    exact soft_takeS e32 e33 (Nat.le_of_lt hkn) hl hm rfl
  case s4 =>
    intro ρ W hb hc hf hr
    obtain ⟨r31, r34, -⟩ := hr
    have e34 : ρ (.tmp 34) = .slice (some ad) k cap := r34
    clear r34
    refine under_none rfl ?_
    exact soft_app0S r31 e34 (by rw [← flat_take]; exact (HA.out.below (c2.trans ((hbd.trans (hb.mono (by simp))).mono c2.size))).take _) HTK.out (by omega) rfl
  case s5 =>
    intro ρ W hb hc hf hr
    obtain ⟨r0, -⟩ := hr
    have e0 : ρ (.tmp 0) = .slice (some ad) n cap := r0
    clear r0
    refine under_none rfl ?_
    exact ⟨e0, Below.refl _ _⟩
  case s6 =>
    intro ρ W hb hc hf hr
    obtain ⟨r6, -⟩ := hr
    have e6 : ρ (.tmp 6) = .int .i64 (k : Int) := r6
    clear r6
    refine under_none rfl ?_
    exact ⟨e6, Below.refl _ _⟩
  case s7 =>
    intro ρ W hb hc hf hr
    obtain ⟨r37, -⟩ := hr
    have e37 : ρ (.tmp 37) = .int .i64 (k : Int) := r37
    clear r37
    refine under_none rfl ?_
    exact soft_addOne e37 (hc _) (by omega) rfl
  case s8 =>
    intro ρ W hb hc hf hr
    obtain ⟨r36, r38, -⟩ := hr
    have e36 : ρ (.tmp 36) = .slice (some ad) n cap := r36
    clear r36
    have e38 : ρ (.tmp 38) = .int .i64 ((k + 1 : Nat) : Int) := r38
    clear r38
    refine under_none rfl ?_
    exact soft_dropS e36 e38 HN.out hkn hl hm (HA.out.below (c2.trans ((hbd.trans (hb.mono (by simp))).mono c2.size))) rfl
  case late =>
    intro p j o hj ho a W hsz h0 h1 hfr hou
    match p, hj with
    | 0, hj =>
      obtain rfl : 9 = j := Option.some.inj hj
      obtain rfl := Option.some.inj ho
      clear hj ho
      obtain ⟨hb, hhard⟩ := h0 rfl
      have r35 : (Fact.row w2.heap.size 40 7 k (flat (l.take k))).φ (a.tmps.getD 35 undef) W := hhard 35 4 rfl rfl
      have r39 : (Fact.lie (n - (k + 1)) (flat (l.drop (k + 1)))).φ (a.tmps.getD 39 undef) W := hhard 39 8 rfl rfl
      clear h0 h1 hhard hfr hou
      refine late_appS (s := .tmp 35) (x := .tmp 39) (n := k) (m := n - (k + 1)) (l := l.take k) (k := l.drop (k + 1)) r35 r39 HDL.out (by omega) (hbd.trans (hb.mono (by simp))).size rfl fun v w' ho hbb => ⟨v, rfl, ?_⟩
      have e1 : k + (n - (k + 1)) = n - 1 := by omega
      rw [e1] at ho
      exact ⟨hbb _ (hbd.trans (hb.mono (by simp))), by simpa [Act.put, Array.getD_eq_getD_getElem?, hsz] using ho, fun h => absurd h (by omega)⟩
    | 1, hj =>
      obtain rfl : 10 = j := Option.some.inj hj
      obtain rfl := Option.some.inj ho
      clear hj ho
      have hP := h1 (by omega)
      clear h0 h1 hfr hou
      obtain ⟨hb, ho, -⟩ := hP
      refine late_assign rfl rfl ⟨_, rfl, ?_⟩
      exact ⟨hb, by simpa [Act.put, Array.getD_eq_getD_getElem?, hsz] using ho, by simp [Act.put, Act.eval, Array.getD_eq_getD_getElem?, hsz]⟩
    | q + 2, hj => cases hj
  case fin =>
    intro a w3 ha hP
    obtain ⟨d3, ho3, he3⟩ := hP
    have e7 : a.tmps.getD 7 undef = a.tmps.getD 40 undef := by simpa using he3 rfl
    have ho3 : w3.ownsRow w2.heap.size 40 7 (a.tmps.getD 40 undef) (n - 1) (flat (l.take k ++ l.drop (k + 1))) := ho3
    clear he3
    obtain ⟨v40, e40⟩ : ∃ v, a.tmps.getD 40 undef = v := ⟨_, rfl⟩
    rw [e40] at e7 ho3
    simp only [List.foldl_cons, List.foldl_nil, e7, e40] at ha
    clear e7 e40
    generalize a.tmps.getD 31 undef = v31 at ha
    generalize a.tmps.getD 32 undef = v32 at ha
    generalize a.tmps.getD 33 undef = v33 at ha
    generalize a.tmps.getD 34 undef = v34 at ha
    generalize a.tmps.getD 35 undef = v35 at ha
    generalize a.tmps.getD 36 undef = v36 at ha
    generalize a.tmps.getD 37 undef = v37 at ha
    generalize a.tmps.getD 38 undef = v38 at ha
    generalize a.tmps.getD 39 undef = v39 at ha
    simp only [Act.put, List.setIfInBounds_toArray, List.set_cons_succ, List.set_cons_zero] at ha
    subst ha
    have c3 := c2.trans (d3.mono c2.size)
    generalize l.take k ++ l.drop (k + 1) = f at *
    rw [← HFL.out] at ho3
    obtain ⟨A7, cap7, rfl, hl7, hm7, hL7, -⟩ := GivesS.own (w := w3) (w' := w3) (l := f) ho3 (Below.refl _ _)
    rw [HFL.out] at hl7 ⊢
    have HL7 := Lib.hid hL7
    clear ho3 hL7
    have HSO := Lib.hid (tsort_any (some ad) n cap l w3 HN.out (Nat.le_trans hl HM.out) (HA.out.below c3) HS.out)
    have HF1 := Lib.hid (fine_ts l)
    have htl := Plain.ts_len l
    have HF2 := Lib.hid (fine_ts f)
    have htl2 := Plain.ts_len f
    have HI1 := Lib.hid (Plain.ts_isT (l := l))
    obtain ⟨R, hR⟩ : ∃ R, Plain.isT (Plain.srt l) = R := ⟨_, rfl⟩
    rw [hR] at HSO HMORE
    obtain ⟨s, hs⟩ : ∃ s, Plain.ts l = s := ⟨_, rfl⟩
    rw [hs] at HSO HMORE HF1 htl
    clear hR hs HI1
    go_wp2_with fail
    refine HSO.out.mono ?_
    rintro e w4 ⟨v4, rfl, A4, cap4, rfl, hl4, hm4, hL4, d4⟩
    have c4 := c3.trans (d4.mono c3.size)
    have HL4 := Lib.hid hL4
    have HSP := Lib.hid (tsort_any A7 (n - 1) cap7 f w4 HFL.out (Nat.le_trans hl7 hm7) (HL7.out.below d4) HFF.out)
    obtain ⟨R2, hR2⟩ : ∃ R2, Plain.isT (Plain.srt f) = R2 := ⟨_, rfl⟩
    rw [hR2] at HSP HMORE
    obtain ⟨t, ht⟩ : ∃ t, Plain.ts f = t := ⟨_, rfl⟩
    rw [ht] at HSP HMORE HF2 htl2
    clear hR2 ht hL4 HSO
    go_wp2_with fail
    refine HSP.out.mono ?_
    rintro e w5 ⟨v5, rfl, A5, cap5, rfl, hl5, hm5, hL5, d5⟩
    have c5 := c4.trans (d5.mono c4.size)
    have HL5 := Lib.hid hL5
    clear hL5 HSP
    rcases R with _ | _
    · go_wp2
      go_ret
      exact ⟨rfl, c5⟩
    obtain ⟨rfl, q1, q2, q3, q4, q5⟩ := HMORE.out rfl
    have HO1 := Lib.hid (tof_any A4 s.length cap4 s w5 rfl (Nat.le_trans hl4 hm4) (HL4.out.below d5) HF1.out)
    have HQ5 := Lib.hid q5
    clear HMORE q5
    have hb13 := many_le t
    obtain ⟨b1, hb1⟩ : ∃ b1, Plain.brief t = b1 := ⟨_, rfl⟩
    have HB1 := Lib.hid hb1
    rw [hb1] at q1 q2 q3 q4 HQ5 hb13
    clear hb1
    generalize Plain.brief s = a1 at *
    obtain ⟨a10, a11, a12, a13, a14⟩ := a1
    obtain ⟨b10, b11, b12, b13, b14⟩ := b1
    simp only at q1 q2 q3 q4 HQ5 hb13
    subst q4
    go_wp2_with fail
    refine HO1.out.mono ?_
    rintro e w6 ⟨v6, rfl, A6, cap6, rfl, hl6, hm6, hL6, d6⟩
    simp only at hl6 hL6
    have c6 := c5.trans (d6.mono c5.size)
    have HL6 := Lib.hid hL6
    clear hL6 HO1
    obtain ⟨M, hM⟩ : ∃ M : Int, (a13 : Int) = M := ⟨_, rfl⟩
    have HQ3 := Lib.hid (show M = (b13 : Int) + 1 by omega)
    rw [hM]
    clear hM q3
    obtain ⟨V6, hV6⟩ : ∃ V6, w6.alloc (.cells #[.int .i64 a10, .int .i64 a11, .int .i64 a12, .int .i64 M, .slice A6 a14.length cap6] 35) = V6 := ⟨_, rfl⟩
    have bA : Blk V6 w6.heap.size #[.int .i64 a10, .int .i64 a11, .int .i64 a12, .int .i64 M, .slice A6 a14.length cap6] 35 := by rw [← hV6]; exact Blk.new _ _ _
    have d6' : Below w6.heap.size w6 V6 := by rw [← hV6]; exact (Below.refl _ _).alloc (Nat.le_refl _) _
    have c6' := c6.trans (d6'.mono c6.size)
    have HO2 := Lib.hid (tof_any A5 t.length cap5 t V6 rfl (Nat.le_trans hl5 hm5) ((HL5.out.below d6).below d6') HF2.out)
    rw [HB1.out] at HO2
    have HV6 := Lib.hid hV6
    clear hV6
    go_wp2_with fail
    rw [HV6.out]
    refine HO2.out.mono ?_
    rintro e w7 ⟨v7, rfl, A8, cap8, rfl, hl8, hm8, hL8, d7⟩
    simp only at hl8 hL8
    have c7 := c6'.trans (d7.mono c6'.size)
    obtain ⟨V7, hV7⟩ : ∃ V7, w7.alloc (.cells #[.int .i64 a10, .int .i64 b11, .int .i64 b12, .int .i64 (b13 : Int), .slice A8 b14.length cap8] 35) = V7 := ⟨_, rfl⟩
    have bB : Blk V7 w7.heap.size #[.int .i64 a10, .int .i64 b11, .int .i64 b12, .int .i64 (b13 : Int), .slice A8 b14.length cap8] 35 := by rw [← hV7]; exact Blk.new _ _ _
    have d7' : Below w7.heap.size w7 V7 := by rw [← hV7]; exact (Below.refl _ _).alloc (Nat.le_refl _) _
    have c7' := c7.trans (d7'.mono c7.size)
    have HBB := Lib.hid bB
    have HBA := Lib.hid ((Kept.of d7' []).blk ((Kept.of d7 []).blk bA (by simp)) (by simp))
    have HLA := Lib.hid (((HL6.out.below d6').below d7).below d7')
    have HLB := Lib.hid (hL8.below d7')
    have HV7 := Lib.hid hV7
    obtain ⟨na, hna⟩ : ∃ na, a14.length = na := ⟨_, rfl⟩
    obtain ⟨nb, hnb⟩ : ∃ nb, b14.length = nb := ⟨_, rfl⟩
    have HNA := Lib.hid hna
    have HNB := Lib.hid hnb
    rw [hna] at HBA hl6
    rw [hnb] at HBB HV7 hl8 ⊢
    rw [hna]
    clear hV7 bB bA hL8 hna hnb HO2 HV6
    unfold maxLen at hm6 hm8
    go_wp2
    rw [HV7.out]
    clear HV7
    go_loopw [14] (fun i wr => ∃ j : Nat, i = .int .i64 j ∧ j ≤ nb ∧ Below V7.heap.size V7 wr) (fun i _ => nb - (intOf i).toNat)
    case atStart => exact ⟨0, rfl, Nat.zero_le _, Below.refl _ _⟩
    case round =>
      obtain ⟨j, rfl, hj, hbr⟩ := hrel
      have ba := (Kept.of hbr []).blk HBA.out (by simp)
      have bb := (Kept.of hbr []).blk HBB.out (by simp)
      obtain ⟨x0, x1, x2, x3, x4⟩ := ba.five
      obtain ⟨y0, y1, y2, y3, y4⟩ := bb.five
      by_cases hlt : j < nb
      · have hjl : j < b14.length := by rw [HNB.out]; exact hlt
        obtain ⟨bd, rfl, -, hcb⟩ := at_text HLB.out j hjl
        have HCB := Lib.hid hcb
        have HIN := Lib.hid (HQ5.out _ (List.getElem_mem hjl))
        clear hcb
        generalize b14[j] = y at *
        go_wp2
        go_loopw [15, 16] (fun v i wr => ∃ r : Nat, v = .bool (decide (y ∈ a14.take r)) ∧ i = .int .i64 r ∧ r ≤ na ∧ Below V7.heap.size V7 wr) (fun _ i _ => na - (intOf i).toNat)
        case atStart => exact ⟨0, by simp, rfl, Nat.zero_le _, hbr⟩
        case round =>
          clear x0 x1 x2 x3 x4 y0 y1 y2 y3 y4 ba bb
          obtain ⟨r, rfl, rfl, hr, hbi⟩ := hrel
          have ba := (Kept.of hbi []).blk HBA.out (by simp)
          have bb := (Kept.of hbi []).blk HBB.out (by simp)
          obtain ⟨x0, x1, x2, x3, x4⟩ := ba.five
          obtain ⟨y0, y1, y2, y3, y4⟩ := bb.five
          by_cases hrl : r < na
          · have hra : r < a14.length := by rw [HNA.out]; exact hrl
            obtain ⟨ad', rfl, -, hca⟩ := at_text HLA.out r hra
            have u0 := hca _ hbi
            have u1 := HCB.out _ hbi
            have hne := beq_str a14[r] y
            have HT1 := Lib.hid (show decide (y ∈ a14.take (r + 1)) = (decide (y ∈ a14.take r) || decide (a14[r] = y)) by
              rw [List.take_succ_eq_append_getElem hra, Bool.eq_iff_iff]
              simp only [decide_eq_true_eq, Bool.or_eq_true, List.mem_append, List.mem_singleton]
              exact ⟨fun h => h.imp id Eq.symm, fun h => h.imp id Eq.symm⟩)
            clear hca
            generalize a14[r] = x at *
            obtain ⟨D, hD⟩ : ∃ D, decide (x = y) = D := ⟨_, rfl⟩
            obtain ⟨I, hI⟩ : ∃ I, decide (y ∈ a14.take r) = I := ⟨_, rfl⟩
            rw [hD] at hne HT1
            rw [hI] at HT1 ⊢
            clear hD hI
            generalize str x = X at *
            generalize str y = Y at *
            rcases I with _ | _
            · go_wp2
              go_quiet (fail)
              go_wp2
              go_roundw
              case rel => exact ⟨r + 1, by rw [HT1.out]; rfl, by go_num, by omega, below_many hbi _⟩
              case measure => simp [intOf]; omega
            · go_wp2
              go_quiet (fail)
              go_wp2
              go_roundw
              case rel => exact ⟨r + 1, by rw [HT1.out]; rfl, by go_num, by omega, below_many hbi _⟩
              case measure => simp [intOf]; omega
          · obtain rfl : r = na := by omega
            have hin : decide (y ∈ a14.take r) = true := by
              rw [List.take_of_length_le (by rw [HNA.out]; omega)]
              exact decide_eq_true HIN.out
            rw [hin]
            clear hin
            go_wp2
            go_roundw
            case rel => exact ⟨j + 1, by go_num, by omega, hbi⟩
            case measure => simp [intOf]; omega
      · obtain rfl : j = nb := by omega
        have hM := HQ3.out
        subst hM
        go_wp2
        go_ret
        exact ⟨rfl, c7'.trans (hbr.mono c7'.size)⟩


set_option maxRecDepth 100000 in
theorem lifted (os : Os) (started : os.Started) (H : Type) (enc : TypeId × Value → H) :
    ReturnsInHanded {} Tryz.checked os 8 .any (fun w args => (Rows.traceMoreSpec.pre enc Tryz.prog Tryz.f8 [] false w args ∧ laidMetH Tryz.prog laidHere w) ∧ sizedMet enc Tryz.prog Tryz.f8 (OpenSpec.ofChange Rows.traceMoreSpec) false w args) (Rows.traceMoreSpec.post enc Tryz.prog Tryz.f8 false true false false) := by
  refine returnsInHanded_of_change_and (C := Tryz.checked) (X := fun w _ => laidMetH Tryz.prog laidHere w) (fun _ _ _ hh h => h.of_heap hh) own started (by kernel_rfl) Tryz.func8
    (ChangeSpec.witness_at (enc := enc) (C := Tryz.checked) (os := os) (X := fun w _ => laidMetH Tryz.prog laidHere w) false (laidWorld os) #[.slice none 0 0, .int .u8 0] 8 rfl (by kernel_rfl) (by kernel_rfl) (by kernel_rfl) (by kernel_rfl) (by kernel_rfl) (laidWorld_met os _)) ?_
  intro W base args ds gs before hval0 hW _ _ hL _
  have hval : ∀ (j : Nat) t v, Tryz.f8.params[j]? = some t → args[j]? = some v → Value.okWide Tryz.prog W .any base t v := hval0
  have hfin := fun W' => law_post (enc := enc) (P := Tryz.prog) (f := Tryz.f8) (s := Rows.traceMoreSpec) (tb := 4) (W := W) (W' := W') (args := args) (ds := ds) (gs := gs) (before := before) laidOut rfl (by kernel_rfl) Tryz.underlying4 (by kernel_rfl) (fun xs h => by rw [Tryz.params8] at h; match xs, h with | [_, _], _ => rfl) hW
  have hlt : ∀ x ∈ before, x.block < W.heap.size := fun x hx => hW.lt x hx
  obtain ⟨p, q, hA0, hV, rfl, hfz, hnd⟩ := hW
  have hA : DataW.TrodAll enc Tryz.prog W 0 (fun _ => true) true Tryz.f8.params.toList args.toList ds p := hA0
  rw [Tryz.params8] at hA hval
  obtain ⟨v0, vs0, d0, ds0, p0, q0, hargs, rfl, rfl, h0, r0⟩ := trodAll_cons hA
  obtain ⟨v1, vs1, d1, ds1, p1, q1, rfl, rfl, rfl, h1, r1⟩ := trodAll_cons r0
  obtain ⟨rfl, rfl, rfl⟩ := trodAll_nil r1
  obtain rfl : args = #[v0, v1] := by cases args; simp_all
  obtain ⟨A0, cap0, l0, rfl, hl0, hm0, hB0, hS0⟩ := open_spans (hval 0 22 v0 rfl rfl) h0 (fun x hx => hlt x (by simp [hx]))
  obtain ⟨a1, rfl, rfl, rfl, w1⟩ := open_int Tryz.underlying5 (hval 1 5 v1 rfl rfl) h1
  refine (walk W (of_laid hL) A0 cap0 l0 hl0 hm0 hB0 hS0 a1 (bounds_u8 w1)).mono fun e W' ⟨he, hg⟩ => ?_
  subst he
  exact ⟨_, rfl, hfin W' hg⟩

theorem proved : Rows.TraceMoreSaid :=
  OpenClaim.holds_of_wide 8 Tryz.f8 rfl rfl rfl rfl rfl rfl rfl ⟨rfl, rfl, rfl, rfl, rfl⟩ rfl rfl rfl rfl rfl (by kernel_rfl) Tryz.func8 (by kernel_rfl)
    (of_decide_eq_true (by kernel_rfl)) (by unfold Func.isWrapper; first | (rw [if_pos (by decide +kernel)]; kernel_rfl) | (rw [if_neg (by decide +kernel)]; exact ⟨rfl, rfl⟩))
    (fun os started H enc _ => lifted os started H enc)

set_option maxRecDepth 100000 in
theorem card : Rows.TraceMoreCardSaid :=
  Claim7.holds_tied_plain_at .later [] laidKindsHere true _ true
    proved (fun _ h => by cases h) (by kernel_rfl) (fun _ h => by cases h) traceMore_row_tie rfl ⟨rfl, rfl⟩ (by kernel_rfl) rfl
    (fun f fn hf hfn => by
      obtain rfl : f = 8 := Option.some.inj ((show Tryz.prog.funcNamed "turntable/turntablelaw05.TraceMore" = some 8 by kernel_rfl).symm.trans hf) |>.symm
      obtain rfl : fn = Tryz.f8 := (Option.some.inj (Tryz.func8.symm.trans hfn)).symm
      exact ⟨by kernel_rfl, fun j t ht => by
        rw [Tryz.params8] at ht
        have hm : t ∈ [22, 5] := by simpa using Array.mem_of_getElem? ht
        have hall : ([22, 5].all fun u => !Tryz.prog.wantsStandIn u) = true := by kernel_rfl
        exact (show Tryz.prog.wantsStandIn t = false by simpa using List.all_eq_true.1 hall t hm)⟩)
    (by kernel_rfl)
#print axioms card
end Go.Proofs.YtmmkmhphnhanfaaGreatDoor.traceMore
