/-
  Layer 15, the developers' query: Run: what it answers, of any entries and any Ask. Assumed: that these lie in memory.
-/
import Derived.Test.YtcoedohfggeaiaaQyL

namespace Go.Proofs.Ytcoedohfggeaiaa
open Go.RowKit Go.Shelf En Qy
set_option maxRecDepth 100000
attribute [local go_sem] Oper.semAt_some

theorem ask_keptQ {W Wa : World} {tmp : Obj} {n0 g gO : Nat} {v v' : Value} {k : Nat} {xs : List Value} {qa : Qy.A} (hq : BoxQ W g qa) (hne : g ≠ gO) (hrow : W.ownsRow n0 2 1 v k xs) (hgrow : (W.alloc tmp).grownBy Wa v.ownBlock) : BoxQ (Wa.setCell ⟨gO, 0, none⟩ v') g qa := by
  have h1 : BoxQ Wa g qa := (hgrow.block g (by simp; have := hq.lt; omega) (fun e => by
    rcases hrow.2 with ⟨rfl, _⟩ | ⟨g2, cap1, cur, rfl, hbg, hgh, _⟩
    · simp [Value.ownBlock] at e
    · have e' : g = g2 := by simpa [Value.ownBlock] using e
      subst e'
      rw [show W.heap[g]? = _ from hq] at hgh
      cases hgh)).trans ((heap_alloc_old W _ hq.lt).trans hq)
  exact ((grownBy_setCell' Wa gO v').block g h1.lt (by simpa using hne)).trans h1

set_option maxHeartbeats 8000000 in
theorem run15_any (A : Option Addr) (n cap : Nat) (ts : List Ent) (qa : Qy.A) (w : World) (h : Ents w A n cap ts) :
    Calls Try.prog 16 #[.slice A n cap, .agg (askA qa)] w fun e w' => ∃ v, e = .returned v ∧ w'.ownsRow w.heap.size 2 1 v (run (ts.map Ent.e) qa).length (nums (run (ts.map Ent.e) qa)) ∧ Below w.heap.size w w' := by
  obtain ⟨i0, hi, hz0, hz1, hz2⟩ := info_parts infoL
  have hfew := h.few
  have hTL : (those (ts.map Ent.e) qa).length ≤ 1000 := by have := those_le (ts.map Ent.e) qa; have := h.len; rw [List.length_map] at *; omega
  have HE := Lib.hid h
  clear h
  obtain ⟨B, hB⟩ : ∃ B, w.heap.size = B := ⟨_, rfl⟩
  obtain ⟨W0, hW0⟩ : ∃ W0, (((w.alloc (.cells (askA qa) 31)).alloc (.cells #[.slice none 0 0] 38)).alloc (.cells #[.slice A n cap] 22)).alloc (.cells (askA qa) 31) = W0 := ⟨_, rfl⟩
  have bq := BoxQ.new w qa
  have bO := Boxed.new (w.alloc (.cells (askA qa) 31)) 38 (.slice none 0 0)
  have bN := Boxed.new ((w.alloc (.cells (askA qa) 31)).alloc (.cells #[.slice none 0 0] 38)) 22 (.slice A n cap)
  have bG := BoxQ.new (((w.alloc (.cells (askA qa) 31)).alloc (.cells #[.slice none 0 0] 38)).alloc (.cells #[.slice A n cap] 22)) qa
  simp only [World.size_alloc] at bO bN bG
  have hb0 : Below w.heap.size w W0 := by rw [← hW0]; exact ((((Below.refl _ w).alloc (Nat.le_refl _) _).alloc (by simp) _).alloc (by simp; omega) _).alloc (by simp; omega) _
  have hs0 : W0.heap.size = B + 4 := by rw [← hW0, ← hB]; simp
  have hQ0 : BoxQ W0 B qa := by
    rw [← hW0, ← hB]
    exact ((bq.below ((Below.refl _ _).alloc (Nat.le_refl _) _)).below ((Below.refl _ _).alloc (Nat.le_refl _) _)).below ((Below.refl _ _).alloc (Nat.le_refl _) _)
  have hO0 : Boxed W0 (B + 1) 38 (.slice none 0 0) := by rw [← hW0, ← hB]; exact (bO.alloc _).alloc _
  have hN0 : Boxed W0 (B + 1 + 1) 22 (.slice A n cap) := by rw [← hW0, ← hB]; exact bN.alloc _
  have hG0 : BoxQ W0 (B + 1 + 1 + 1) qa := by rw [← hW0, ← hB]; exact bG
  clear bq bO bN bG
  have HW0 := Lib.hid hW0
  refine (callsIn_wide (n := 3)).1 ?_
  have hf20 : Fence.wide.fn 20 := trivial
  unfold askA at *
  refine callsIn_of_wp_marks Try.func16 rfl trivial ?_ rfl
  simp only [Try.ntmps16, List.size_toArray, List.length_cons, List.length_nil, Nat.reduceAdd, Nat.reduceSub, Array.replicate_succ, Array.replicate_zero, List.push_toArray, List.append_toArray, List.nil_append, List.cons_append]
  gi_wp2_with (gi_at_call 20; refine (fit_in Fence.wide _ trivial rfl A n cap qa _).mono ?_; rintro e w' ⟨rfl, rfl⟩)
  unfold askA
  rw [HW0.out]
  rw [hB] at hb0
  have hN1 := hN0.cell
  have hN2 := hN0.lt
  have hkt : KQ w.heap.size (B + 1 + 1 + 1) qa W0 W0 := ⟨Below.refl _ _, id⟩
  refine wpIn_rangeFunc_ownH rfl (by omega) (gf := 30) (lb := #[.pointer (some ⟨B + 1 + 1, 0, none⟩), .pointer (some ⟨B + 1 + 1 + 1, 0, none⟩)]) rfl trivial (enters_of Try.func30 (by kernel_rfl) rfl)
    (fit_stops _ (by omega) (B + 1 + 1) (B + 1 + 1 + 1) A n cap ts qa w W0 HE.out hN1 hN2 hG0 (by rw [hB]; exact hb0)) (fun h k => h.trans k)
    (fun W l o o' h1 h2 h3 h4 => KQ.turn (w := W0) (by omega) W l o o' h1 h2 h3 h4) (Below.refl _ _) (fun _ => rfl)
    (fun pre W => (∃ v, Boxed W (B + 1) 38 v ∧ W.ownsRow B 2 1 v pre.length (nums (pre.map E.id)) ∧ True) ∧ BoxQ W B qa ∧ Below B w W ∧ pre.length ≤ qa.lim.toNat)
    (fun c pre' W => (∃ v, Boxed W (B + 1) 38 v ∧ W.ownsRow B 2 1 v (pre'.length - 1) (nums (pre'.dropLast.map E.id)) ∧ True) ∧ Below B w W ∧ (c = .exit 0 ∧ ∃ pre y, pre' = pre ++ [y] ∧ pre.length = qa.lim.toNat))
    (OwnFrom.and (Own.from (holdsRow_own B (B + 1) 38 2 1 (fun pre : List E => pre.length) (fun pre => nums (pre.map E.id)) (fun _ _ => True)) _) (OwnFrom.and (askFrom _ _ (fun _ => qa)) (OwnFrom.and (ownFrom_below (by omega) (by omega)) (pureFrom _ _))))
    (fun c => OwnFrom.and (Own.from (holdsRow_own B (B + 1) 38 2 1 (fun pre : List E => pre.length - 1) (fun pre => nums (pre.dropLast.map E.id)) (fun _ _ => True)) _) (OwnFrom.and (ownFrom_below (by omega) (by omega)) (pureFrom _ _)))
    ⟨⟨_, hO0, World.ownsRow_nil _ _ _ _, trivial⟩, hQ0, hb0, Nat.zero_le _⟩
    (fun y a' W => ∃ g, a' = { tmps := #[.slice A n cap, .agg #[.string (str qa.sv), .int .i64 qa.lo, .int .i64 qa.hi, .int .i64 qa.cl, .int .i64 qa.tk, .int .i64 qa.id, .int .i64 qa.lim], undef, .pointer (some ⟨B, 0, none⟩), .slice none 0 0, .pointer (some ⟨B + 1, 0, none⟩), .pointer (some ⟨g, 0, none⟩), .slice A n cap, .agg #[.string (str qa.sv), .int .i64 qa.lo, .int .i64 qa.hi, .int .i64 qa.cl, .int .i64 qa.tk, .int .i64 qa.id, .int .i64 qa.lim], .func (.func 30) #[] #[.pointer (some ⟨B + 1 + 1, 0, none⟩), .pointer (some ⟨B + 1 + 1 + 1, 0, none⟩)], .agg #[.int .i64 y.id, .int .i64 y.cl, .int .i64 y.tick, .int .i64 y.cost, .bool y.pin], undef, undef, undef, undef, undef, undef, undef, undef, undef, undef, undef], defers := [] } ∧ Blk W g #[.int .i64 y.id, .int .i64 y.cl, .int .i64 y.tick, .int .i64 y.cost, .bool y.pin] 24)
    (fun y a' s W W' row h hg hr => by
      obtain ⟨g, ea, hb⟩ := h
      refine ⟨g, ea, (hg.block g hb.lt (fun e => ?_)).trans hb⟩
      obtain ⟨_, o, ho, hc⟩ := hr g e.symm
      rw [show W.heap[g]? = _ from hb] at ho; cases ho; cases hc) ?assign ?body ?done ?stop
  case assign =>
    rintro l' pre y W K hI hK
    have hkf : KeepsFrom W0.heap.size W (W.alloc (.cells #[.int .i64 y.id, .int .i64 y.cl, .int .i64 y.tick, .int .i64 y.cost, .bool y.pin] 24)) := (KeepsOthers.alloc W _).from _
    have hb1 : Below W.heap.size W (W.alloc (.cells #[.int .i64 y.id, .int .i64 y.cl, .int .i64 y.tick, .int .i64 y.cost, .bool y.pin] 24)) := (Below.refl _ _).alloc (Nat.le_refl _) _
    have hsz := hI.2.2.1.size
    have HK := Lib.hid (hK { tmps := #[.slice A n cap, .agg #[.string (str qa.sv), .int .i64 qa.lo, .int .i64 qa.hi, .int .i64 qa.cl, .int .i64 qa.tk, .int .i64 qa.id, .int .i64 qa.lim], undef, .pointer (some ⟨B, 0, none⟩), .slice none 0 0, .pointer (some ⟨B + 1, 0, none⟩), .pointer (some ⟨W.heap.size, 0, none⟩), .slice A n cap, .agg #[.string (str qa.sv), .int .i64 qa.lo, .int .i64 qa.hi, .int .i64 qa.cl, .int .i64 qa.tk, .int .i64 qa.id, .int .i64 qa.lim], .func (.func 30) #[] #[.pointer (some ⟨B + 1 + 1, 0, none⟩), .pointer (some ⟨B + 1 + 1 + 1, 0, none⟩)], .agg #[.int .i64 y.id, .int .i64 y.cl, .int .i64 y.tick, .int .i64 y.cost, .bool y.pin], undef, undef, undef, undef, undef, undef, undef, undef, undef, undef, undef], defers := [] } _ hkf ⟨hb1.mono (by omega), fun hq => hq.below hb1⟩ (by
      obtain ⟨⟨v, q1, q2, _⟩, q3, q4, q5⟩ := hI
      exact ⟨⟨v, q1.alloc _, q2.alloc _, trivial⟩, q3.below hb1, q4.trans (hb1.mono (by omega)), q5⟩) ⟨_, rfl, Blk.new _ _ _⟩)
    clear hK hI hkf hb1
    gi_wp2
    exact HK.out
  case body =>
    rintro l' pre y a' W _ _ ⟨⟨v, hv, hrow, -⟩, hq, hBW, hL⟩ ⟨g, rfl, hg⟩ hlt
    have hBX := hBW.size
    have hbsz : B ≤ W.heap.size := by omega
    have hp1000 : pre.length < 1000 := by omega
    obtain ⟨-, -, -, -, -, -, a6⟩ := hq.all
    have hg0 : W.cell? ⟨g, 0, none⟩ = some (.int .i64 y.id) := hg.cell 0
    obtain ⟨Av, cv, rfl, -⟩ := row_form hrow
    have hcv := hv.cell
    have HRI := Lib.hid (show nums (pre.map E.id) ++ [.int .i64 y.id] = nums ((pre ++ [y]).map E.id) by rw [List.map_append, List.map_singleton, nums_snoc])
    have HL := Lib.hid hL
    by_cases hle : qa.lim ≤ (pre.length : Int)
    · have HPL := Lib.hid (show pre.length = qa.lim.toNat by omega)
      gi_wp2
      exact ⟨(KeepsOthers.refl _).from _, ⟨_, hv, by rw [List.dropLast_concat, List.length_append, List.length_singleton, Nat.add_sub_cancel]; exact ⟨hrow, trivial⟩⟩, hBW, rfl, pre, y, rfl, HPL.out⟩
    · have HPL := Lib.hid (show pre.length + 1 ≤ qa.lim.toNat by omega)
      gi_wp2_with (gi_at_builtin; refine wpListIn_append_own _ rfl _ _ 38 rfl B 2 i0 (.int .i64 0) 1 8 Try.underlying38 hi hz0 hz1 hz2 rfl (by decide) _ _ _ rfl (hrow.alloc _) ⟨W.heap.size, 0, none⟩ 1 1 [.int .i64 y.id] rfl rfl (cell_one_new _ _ _) (by simp [Value.oneCell']) (by unfold maxLen; omega) (by omega) (by simp; omega) ?_; intro v' Wa hown' hgrow _; obtain ⟨g', cap', rfl⟩ := ownsRow_succ hown'; obtain ⟨hv1, hv2, hr2, hk2, hb2⟩ := hv.appended (by decide) hrow hbsz (by omega) hown' hgrow; have hc1 := hv1.cell; have hf1 := hv1.frozen)
      refine ⟨hk2.from _, ⟨hb2, fun hqq => ask_keptQ hqq (by omega) hrow hgrow⟩, ⟨_, hv2, ?_⟩, ask_keptQ hq (by omega) hrow hgrow, hBW.trans hb2, ?_⟩
      · rw [← HRI.out, List.length_append]; exact hr2
      · rw [List.length_append]; exact HPL.out
  case done =>
    rintro D ys W hD rfl ⟨⟨v, hv, hrow, -⟩, hq, hBW, hL⟩ hK
    have hcv := hv.cell
    have HRR := Lib.hid (show run (ts.map Ent.e) qa = (those (ts.map Ent.e) qa).map E.id by unfold run told; rw [List.take_of_length_le hL])
    gi_wp2
    refine ⟨by simp, .inl ⟨_, _, rfl, run_takeDeferred hK, ?_⟩⟩
    have hne : some D ≠ v.ownBlock := by
      rcases hrow.2 with ⟨rfl, _⟩ | ⟨g, cap1, cur, rfl, hbg, hgh, _⟩
      · simp [Value.ownBlock]
      · intro e
        have e' : D = g := by simpa [Value.ownBlock] using e
        subst e'; rw [hK] at hgh; cases hgh
    refine ⟨_, by simp [results, Try.results16, go_sem], v, rfl, ?_⟩
    rw [HRR.out, List.length_map]
    rw [hB]
    exact ⟨hrow.kept (grownBy_putObj' W D (.deferred none)) (.inr hne.symm), hBW.trans (belowK_b (w := W0) (by omega) W D _ _ hD hK rfl rfl)⟩
  case stop =>
    rintro D c pre' W hD ⟨r, hS⟩ ⟨⟨v, hv, hrow, -⟩, hBW, rfl, pre, y, rfl, hpl⟩ hK
    have hcv := hv.cell
    have HRR := Lib.hid (show run (ts.map Ent.e) qa = pre.map E.id by unfold run told; rw [← hS, List.append_assoc, ← hpl, List.take_left])
    gi_wp2
    refine ⟨by simp, .inl ⟨_, _, rfl, run_takeDeferred hK, ?_⟩⟩
    have hne : some D ≠ v.ownBlock := by
      rcases hrow.2 with ⟨rfl, _⟩ | ⟨g, cap1, cur, rfl, hbg, hgh, _⟩
      · simp [Value.ownBlock]
      · intro e
        have e' : D = g := by simpa [Value.ownBlock] using e
        subst e'; rw [hK] at hgh; cases hgh
    refine ⟨_, by simp [results, Try.results16, go_sem], v, rfl, ?_⟩
    rw [HRR.out, List.length_map]
    rw [List.dropLast_concat, List.length_append, List.length_singleton, Nat.add_sub_cancel] at hrow
    rw [hB]
    exact ⟨hrow.kept (grownBy_putObj' W D (.deferred none)) (.inr hne.symm), hBW.trans (belowK_b (w := W0) (by omega) W D _ _ hD hK rfl rfl)⟩
end Go.Proofs.Ytcoedohfggeaiaa
