/-
  Layer 14, the document's answer: Del of its index: what it answers, of any index. Nothing is assumed but that it lies in memory.
-/
import Derived.Test.YtcoedohfggeaiaaRiS

namespace Go.Proofs.Ytcoedohfggeaiaa
open Go.RowKit Go.Maps En
set_option maxRecDepth 100000

theorem run_loadEs (W : World) (a : Addr) (v : Value) (h : W.cell? a = some v) : (Instr.loadAt 22 (.pointer (some a))).run Try.prog W = .ok v W := by
  go_simp
theorem run_storeEs (W : World) (a : Addr) (A : Option Addr) (n c : Nat) (u : Value) (h : W.cell? a = some u) (hf : W.frozen? a = false) : (Instr.storeAt 22 (.pointer (some a)) (.slice A n c)).run Try.prog W = .ok () (W.setCell a (.slice A n c)) := by
  go_simp
/-- a row that was made is laid into the index -/
theorem ref_made {S : List Nat} {w w1 : World} {r B n' : Nat} {m m' : List E} {v : Value} {us : List Ent} (h : IsRef S w r m) (hS : ∀ s ∈ S, s < w.heap.size) (hB : Below w.heap.size w w1) (ho : w1.ownsRow B 29 13 v n' (flatEn us)) (hBw : w.heap.size ≤ B) (hl : us.map Ent.e = m') (hn : m'.length = n') (h1 : n' ≤ 1000) (hok : EntOk (r :: S) w1 us) :
    IsRef S (w1.setCell ⟨r, 0, none⟩ v) r m' ∧ Kept [r] w (w1.setCell ⟨r, 0, none⟩ v) := by
  subst hn
  obtain ⟨A, cap, ts, hbx, -⟩ := h.row
  have hr1 := (Kept.of hB []).blk hbx (by simp)
  have hk : Kept [r] w1 (w1.setCell ⟨r, 0, none⟩ v) := (Kept.refl _ _).setCell (by simp) _
  obtain ⟨A', cap', rfl, hc1, hc2, hL, hge, -⟩ := row_form ho
  have hL' : Lies w1 A' (flatEn us) := by
    rcases hL with h | h
    · have : us = [] := by rw [← List.map_eq_nil_iff (f := Ent.e), hl]; exact nil_of_len h
      rw [this]; exact .inl rfl
    · exact h
  have hoff : Off (r :: S) A' (flatEn us) := .inr fun ad e hm => by
    have h5 := hge ad e
    rcases List.mem_cons.1 hm with h | h
    · have := hbx.lt; omega
    · have := hS _ h; omega
  refine ⟨⟨h1, h.out, A', cap', us, Blk.set hr1 0 (.slice A' m'.length cap'), hl, hc1, hc2, hL'.kept (hoff.mono (by simp)) hk, hoff, hok.kept hk (by simp)⟩, (Kept.of hB [r]).trans hk⟩
theorem late_value {P : Program} {W : World} {a : Act} {o : Oper} {v : Value} {K : Act → World → Prop} {Q : Exit → Act → World → Prop} (hr : (execOp a.eval o).run P W = .ok (.value v) W) (hK : K (a.put o.dst v) W) : o.wp P a W K Q := by
  unfold Oper.wp
  rw [hr]
  exact hK
theorem run_nilOp {W : World} {ρ : Operand → Value} {o : Oper} {x : Operand} {p : Addr} (hx : ρ x = .pointer (some p)) (ho : o.op = .nilCheck x) : (execOp ρ o).run Try.prog W = .ok (.value (.pointer (some p))) W := by
  simp [execOp, ho, hx, go_sem]
theorem run_fieldOp {W : World} {ρ : Operand → Value} {o : Oper} {x : Operand} {t : TypeId} {j : Nat} {p q : Addr} (hx : ρ x = .pointer (some p)) (ho : o.op = .fieldAddr t x j) (hr : (Instr.fieldAt t (.pointer (some p)) j).run Try.prog W = .ok (.pointer (some q)) W) : (execOp ρ o).run Try.prog W = .ok (.value (.pointer (some q))) W := by
  simp [execOp, ho, hx, hr]
/-- what the last operations of such a statement come to: the row is made; where it goes is looked up; it is laid there -/
def DelP (B n r : Nat) (us : List Ent) (W : World) (p : Nat) (vs : List Value) (w : World) : Prop :=
  (p ≤ 3 → Below B W w ∧ w.ownsRow B 29 13 (vs.getD 0 undef) n (flatEn us)) ∧ (2 ≤ p → p ≤ 3 → vs.getD 1 undef = .pointer (some ⟨r, 0, none⟩)) ∧ (p = 3 → vs.getD 2 undef = .pointer (some ⟨r, 0, none⟩)) ∧ (p = 4 → ∃ v w1, Below B W w1 ∧ w1.ownsRow B 29 13 v n (flatEn us) ∧ w = w1.setCell ⟨r, 0, none⟩ v)

section
variable {S : List Nat} {w : World} {r : Nat} {m : List E}
set_option maxHeartbeats 4000000 in
theorem rdel14_any (h : IsRef S w r m) (hu : Uq m) (hS : ∀ s ∈ S, s < w.heap.size) (i : Int) :
    Calls Try.prog 32 #[.pointer (some ⟨r, 0, none⟩), .int .i64 i] w fun e w' => e = .returned (.bool (En.get m i).isSome) ∧ IsRef S w' r (En.del m i) ∧ Kept [r] w w' := by
  have HAT := Lib.hid (rat14_any h i)
  have HI := Lib.hid h
  obtain ⟨A, cap, ts, hbx, ht, h1, h2, hl, -, hok⟩ := h.row
  have h1000 := h.few
  have HU := Lib.hid hu
  have HS := Lib.hid hS
  have HL := Lib.hid hl
  have HT := Lib.hid ht
  have HOK := Lib.hid hok
  obtain ⟨n, hn⟩ : ∃ n, m.length = n := ⟨_, rfl⟩
  rw [hn] at h1 h1000 hbx
  have HBX := Lib.hid hbx
  have HN := Lib.hid hn
  have HTL := Lib.hid (show ts.length = n by rw [← hn, ← ht, List.length_map])
  clear h hbx ht hl hok hn hu hS
  unfold maxLen at h2
  go_enter Try.func32, Try.ntmps32
  go_wp2_with fail
  refine HAT.out.mono ?_
  rintro e w2 ⟨v, rfl, hat, rfl⟩
  rcases hat with ⟨rfl, hg⟩ | ⟨k, hk, rfl, hmk⟩
  · have HG := Lib.hid hg
    clear hg HAT
    go_wp2_with fail
    go_ret
    rw [HG.out, del_none HG.out]
    exact ⟨rfl, HI.out, Kept.refl _ _⟩
  · have hg : En.get m i = some m[k] := by rw [← hmk]; exact get_of HU.out (List.getElem_mem hk)
    have HG := Lib.hid (show (En.get m i).isSome = true ∧ En.del m i = m.take k ++ m.drop (k + 1) from ⟨by rw [hg]; rfl, by rw [← hmk]; exact del_at HU.out hk⟩)
    have hkn : k + 1 ≤ n := by rw [← HN.out]; exact hk
    have hkle : k ≤ n := by omega
    have hkt : k < ts.length := by rw [HTL.out]; omega
    obtain ⟨ad, rfl, hadb, -⟩ := at_ent HL.out k hkt
    have HC0 := Lib.hid (fun (W : World) (hW : Below w2.heap.size w2 W) => run_loadEs W ⟨r, 0, none⟩ (.slice (some ad) n cap) (((Kept.of hW []).blk HBX.out (by simp)).cell 0))
    have hlt0 : decide ((k : Int) < 0) = false := by simp
    have hbd : Below w2.heap.size w2 w2.drew := (Below.refl _ _).drew
    clear hg hmk HAT hk hkt
    go_wp2
    refine wp_late (by kernel_rfl) 30 [(11, [0]), (12, []), (13, [0]), (14, [13]), (15, [14]), (16, [15]), (17, [5]), (18, [16, 17]), (19, [12, 18]), (20, [0]), (21, [20]), (22, [21]), (23, [22]), (24, [5]), (25, [24]), (26, [23, 25]), (1016, [19, 26]), (1017, [11]), (1018, [28]), (1019, [29, 27])]
      [Fact.is (.pointer (some ⟨r, 0, none⟩)), Fact.fresh w2.heap.size 29, Fact.is (.pointer (some ⟨r, 0, none⟩)), Fact.is (.pointer (some ⟨r, 0, none⟩)), Fact.is (.pointer (some ⟨r, 0, none⟩)), Fact.is (.slice (some ad) n cap), Fact.is (.int .i64 (k : Int)), Fact.lie k (flatEn (ts.take k)), Fact.row w2.heap.size 29 13 k (flatEn (ts.take k)), Fact.is (.pointer (some ⟨r, 0, none⟩)), Fact.is (.pointer (some ⟨r, 0, none⟩)), Fact.is (.pointer (some ⟨r, 0, none⟩)), Fact.is (.slice (some ad) n cap), Fact.is (.int .i64 (k : Int)), Fact.is (.int .i64 ((k + 1 : Nat) : Int)), Fact.lie (n - (k + 1)) (flatEn (ts.drop (k + 1))), default, default, default, default]
      [0, 1, 1, 1, 1, 1, 1, 1, 1, 1, 1, 1, 1, 1, 1, 1, 2, 2, 2, 2] [16, 17, 18, 19] [27, 28, 29] [11, 12, 13, 14, 15, 16, 17, 18, 19, 20, 21, 22, 23, 24, 25, 26, 27, 28, 29] (DelP w2.heap.size (k + (n - (k + 1))) r (ts.take k ++ ts.drop (k + 1)) w2)
      (by kernel_rfl) (by kernel_rfl) rfl rfl ⟨?s0, ?s1, ?s2, ?s3, ?s4, ?s5, ?s6, ?s7, ?s8, ?s9, ?s10, ?s11, ?s12, ?s13, ?s14, ?s15, trivial⟩ ?late ?fin
    case s0 =>
      refine ⟨rfl, _, rfl, ?_⟩
      intro ρ W hc hf hr
      obtain ⟨r0, -⟩ := hr
      have e0 : ρ (.tmp 0) = .pointer (some ⟨r, 0, none⟩) := r0
      clear r0
      simp [execOp, e0]
    case s1 =>
      intro ρ W hb hc hf hr
      clear hr
      refine under_none rfl ?_
      exact soft_freshE (hbd.trans (hb.mono (by simp))).size rfl
    case s2 =>
      intro ρ W hb hc hf hr
      obtain ⟨r0, -⟩ := hr
      have e0 : ρ (.tmp 0) = .pointer (some ⟨r, 0, none⟩) := r0
      clear r0
      refine under_none rfl ?_
      exact ⟨e0, Below.refl _ _⟩
    case s3 =>
      intro ρ W hb hc hf hr
      obtain ⟨r13, -⟩ := hr
      have e13 : ρ (.tmp 13) = .pointer (some ⟨r, 0, none⟩) := r13
      clear r13
      refine under_none rfl ?_
      simp [execOp, e13, go_sem, softUpon, Fact.is, Below.refl]
    case s4 =>
      intro ρ W hb hc hf hr
      obtain ⟨r14, -⟩ := hr
      have e14 : ρ (.tmp 14) = .pointer (some ⟨r, 0, none⟩) := r14
      clear r14
      refine under_none rfl ?_
      exact soft_field e14 rfl (fun W => by go_simp)
    case s5 =>
      intro ρ W hb hc hf hr
      obtain ⟨r15, -⟩ := hr
      have e15 : ρ (.tmp 15) = .pointer (some ⟨r, 0, none⟩) := r15
      clear r15
      refine under_none rfl ?_
      exact soft_load e15 (HC0.out W (hbd.trans (hb.mono (by simp)))) rfl
    case s6 =>
      intro ρ W hb hc hf hr
      obtain ⟨r5, -⟩ := hr
      have e5 : ρ (.tmp 5) = .int .i64 (k : Int) := r5
      clear r5
      refine under_none rfl ?_
      exact ⟨e5, Below.refl _ _⟩
    case s7 =>
      intro ρ W hb hc hf hr
      obtain ⟨r16, r17, -⟩ := hr
      have e16 : ρ (.tmp 16) = .slice (some ad) n cap := r16
      clear r16
      have e17 : ρ (.tmp 17) = .int .i64 (k : Int) := r17
      clear r17
      refine under_none rfl ?_
      exact soft_takeLE e16 e17 HTL.out hkle h1 h2 (HL.out.below (hbd.trans (hb.mono (by simp)))) rfl
    case s8 =>
      intro ρ W hb hc hf hr
      obtain ⟨r12, r18, -⟩ := hr
      refine under_none rfl ?_
      exact soft_app0LE r12 r18 (by rw [List.length_take, HTL.out]; omega) (by omega) rfl
    case s9 =>
      intro ρ W hb hc hf hr
      obtain ⟨r0, -⟩ := hr
      have e0 : ρ (.tmp 0) = .pointer (some ⟨r, 0, none⟩) := r0
      clear r0
      refine under_none rfl ?_
      exact ⟨e0, Below.refl _ _⟩
    case s10 =>
      intro ρ W hb hc hf hr
      obtain ⟨r20, -⟩ := hr
      have e20 : ρ (.tmp 20) = .pointer (some ⟨r, 0, none⟩) := r20
      clear r20
      refine under_none rfl ?_
      simp [execOp, e20, go_sem, softUpon, Fact.is, Below.refl]
    case s11 =>
      intro ρ W hb hc hf hr
      obtain ⟨r21, -⟩ := hr
      have e21 : ρ (.tmp 21) = .pointer (some ⟨r, 0, none⟩) := r21
      clear r21
      refine under_none rfl ?_
      exact soft_field e21 rfl (fun W => by go_simp)
    case s12 =>
      intro ρ W hb hc hf hr
      obtain ⟨r22, -⟩ := hr
      have e22 : ρ (.tmp 22) = .pointer (some ⟨r, 0, none⟩) := r22
      clear r22
      refine under_none rfl ?_
      exact soft_load e22 (HC0.out W (hbd.trans (hb.mono (by simp)))) rfl
    case s13 =>
      intro ρ W hb hc hf hr
      obtain ⟨r5, -⟩ := hr
      have e5 : ρ (.tmp 5) = .int .i64 (k : Int) := r5
      clear r5
      refine under_none rfl ?_
      exact ⟨e5, Below.refl _ _⟩
    case s14 =>
      intro ρ W hb hc hf hr
      obtain ⟨r24, -⟩ := hr
      have e24 : ρ (.tmp 24) = .int .i64 (k : Int) := r24
      clear r24
      refine under_none rfl ?_
      exact soft_addOne e24 (hc _) (by omega) rfl
    case s15 =>
      intro ρ W hb hc hf hr
      obtain ⟨r23, r25, -⟩ := hr
      have e23 : ρ (.tmp 23) = .slice (some ad) n cap := r23
      clear r23
      have e25 : ρ (.tmp 25) = .int .i64 ((k + 1 : Nat) : Int) := r25
      clear r25
      refine under_none rfl ?_
      exact soft_dropE e23 e25 HTL.out hkn h1 h2 (HL.out.below (hbd.trans (hb.mono (by simp)))) rfl
    case late =>
      intro p j o hj ho a W hsz h0 h1 hfr hou
      match p, hj with
      | 0, hj =>
        obtain rfl : 16 = j := Option.some.inj hj
        obtain rfl := Option.some.inj ho
        clear hj ho
        obtain ⟨hb, hhard⟩ := h0 rfl
        have r19 : (Fact.row w2.heap.size 29 13 k (flatEn (ts.take k))).φ (a.tmps.getD 19 undef) W := hhard 19 8 rfl rfl
        have r26 : (Fact.lie (n - (k + 1)) (flatEn (ts.drop (k + 1)))).φ (a.tmps.getD 26 undef) W := hhard 26 15 rfl rfl
        clear h0 h1 hhard hfr hou
        have hW := hbd.trans (hb.mono (by simp))
        refine late_appE (s := .tmp 19) (x := .tmp 26) (n := k) (m := n - (k + 1)) (l := ts.take k) (k := ts.drop (k + 1)) r19 r26 (by rw [List.length_drop, HTL.out]) (by omega) hW.size rfl fun v w' ho hbb => ⟨v, rfl, ?_⟩
        exact ⟨fun _ => ⟨hbb _ hW, by simpa [Act.put, Array.getD_eq_getD_getElem?, hsz] using ho⟩, fun h => absurd h (by omega), fun h => absurd h (by omega), fun h => absurd h (by omega)⟩
      | 1, hj =>
        obtain rfl : 17 = j := Option.some.inj hj
        obtain rfl := Option.some.inj ho
        clear hj ho
        have hP := h1 (by omega)
        have e11 : a.eval (.tmp 11) = .pointer (some ⟨r, 0, none⟩) := hfr 11 0 rfl rfl (by kernel_rfl)
        clear h0 h1 hfr hou
        obtain ⟨hW, ho⟩ := hP.1 (by omega)
        refine late_value (v := .pointer (some ⟨r, 0, none⟩)) (run_nilOp e11 rfl) ⟨_, rfl, ?_⟩
        exact ⟨fun _ => ⟨hW, by simpa [Act.put, Array.getD_eq_getD_getElem?, hsz] using ho⟩, fun _ _ => by simp [Act.put, Array.getD_eq_getD_getElem?, hsz], fun h => absurd h (by omega), fun h => absurd h (by omega)⟩
      | 2, hj =>
        obtain rfl : 18 = j := Option.some.inj hj
        obtain rfl := Option.some.inj ho
        clear hj ho
        have hP := h1 (by omega)
        clear h0 h1 hfr hou
        obtain ⟨hW, ho⟩ := hP.1 (by omega)
        have h28 := hP.2.1 (by omega) (by omega)
        have e28 : a.eval (.tmp 28) = .pointer (some ⟨r, 0, none⟩) := by simpa [Act.eval] using h28
        refine late_value (v := .pointer (some ⟨r, 0, none⟩)) (run_fieldOp e28 rfl (by go_simp)) ⟨_, rfl, ?_⟩
        exact ⟨fun _ => ⟨hW, by simpa [Act.put, Array.getD_eq_getD_getElem?, hsz] using ho⟩, fun _ _ => by simpa [Act.put, Array.getD_eq_getD_getElem?, hsz] using h28, fun _ => by simp [Act.put, Array.getD_eq_getD_getElem?, hsz], fun h => absurd h (by omega)⟩
      | 3, hj =>
        obtain rfl : 19 = j := Option.some.inj hj
        obtain rfl := Option.some.inj ho
        clear hj ho
        have hP := h1 (by omega)
        clear h0 h1 hfr hou
        obtain ⟨hW, ho⟩ := hP.1 (by omega)
        have h29 := hP.2.2.1 rfl
        have e29 : a.eval (.tmp 29) = .pointer (some ⟨r, 0, none⟩) := by simpa [Act.eval] using h29
        obtain ⟨A', cap', hv, -⟩ := row_form ho
        have hv' : a.eval (.tmp 27) = .slice A' (k + (n - (k + 1))) cap' := by simpa [Act.eval] using hv
        have hr1 := (Kept.of hW []).blk HBX.out (by simp)
        refine late_store (x := .tmp 29) (y := .tmp 27) (w' := W.setCell ⟨r, 0, none⟩ (.slice A' (k + (n - (k + 1))) cap')) rfl (by rw [e29, hv']; exact run_storeEs W ⟨r, 0, none⟩ _ _ _ _ (hr1.cell 0) (hr1.frozen 0)) ⟨undef, rfl, fun h => absurd h (by omega), fun _ h => absurd h (by omega), fun h => absurd h (by omega), fun _ => ⟨_, W, hW, by rw [← hv]; exact ho, rfl⟩⟩
      | q + 4, hj => cases hj
    case fin =>
      intro a w3 ha hP
      obtain ⟨v, w1, hB1, ho, rfl⟩ := hP.2.2.2 rfl
      obtain ⟨hI3, hK3⟩ := ref_made (m' := En.del m i) HI.out HS.out hB1 ho (Nat.le_refl _) (by rw [HG.out.2, List.map_append, ← HT.out, List.map_take, List.map_drop]) (by rw [HG.out.2, List.length_append, List.length_take, List.length_drop, HN.out]; omega) (by omega) (fun t ht => (HOK.out.below hB1) t (by
        rcases List.mem_append.1 ht with h | h
        · exact List.mem_of_mem_take h
        · exact List.mem_of_mem_drop h))
      have HI3 := Lib.hid hI3
      have HK3 := Lib.hid hK3
      clear hI3 hK3 hP ho hB1
      simp only [List.foldl_cons, List.foldl_nil] at ha
      generalize a.tmps.getD 11 undef = v11 at ha
      generalize a.tmps.getD 12 undef = v12 at ha
      generalize a.tmps.getD 13 undef = v13 at ha
      generalize a.tmps.getD 14 undef = v14 at ha
      generalize a.tmps.getD 15 undef = v15 at ha
      generalize a.tmps.getD 16 undef = v16 at ha
      generalize a.tmps.getD 17 undef = v17 at ha
      generalize a.tmps.getD 18 undef = v18 at ha
      generalize a.tmps.getD 19 undef = v19 at ha
      generalize a.tmps.getD 20 undef = v20 at ha
      generalize a.tmps.getD 21 undef = v21 at ha
      generalize a.tmps.getD 22 undef = v22 at ha
      generalize a.tmps.getD 23 undef = v23 at ha
      generalize a.tmps.getD 24 undef = v24 at ha
      generalize a.tmps.getD 25 undef = v25 at ha
      generalize a.tmps.getD 26 undef = v26 at ha
      generalize a.tmps.getD 27 undef = v27 at ha
      generalize a.tmps.getD 28 undef = v28 at ha
      generalize a.tmps.getD 29 undef = v29 at ha
      simp only [Act.put, List.setIfInBounds_toArray, List.set_cons_succ, List.set_cons_zero] at ha
      subst ha
      go_wp2
      go_ret
      rw [HG.out.1]
      exact ⟨rfl, HI3.out, HK3.out⟩
end
end Go.Proofs.Ytcoedohfggeaiaa

