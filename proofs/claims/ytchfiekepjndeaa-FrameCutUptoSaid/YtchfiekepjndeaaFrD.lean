/-
  Layer 12: frame.All: what it answers, of any bytes: all frames, in memory of its own, and where the last one ends. Assumed: that the bytes lie in memory, and that there are at most a million.
-/
import Derived.Test.YtchfiekepjndeaaFrC
import Derived.WalkMore
import Derived.RangeFuncNested
import Derived.BigRegionIn

namespace Go.Proofs.Ytchfiekepjndeaa
open Go.RowKit Go.Shelf
set_option maxRecDepth 100000
attribute [local go_sem] Oper.semAt_some

theorem infoPart : (Try.prog.info? 35).map (fun i => (i.zero, i.size, i.bytes)) = some (some (.agg #[.int .i64 0, .int .i64 0, .slice none 0 0]), 3, 40) := by kernel_rfl
/-- parts that were handed back, in memory of their own -/
def GivesP (w w' : World) (ps : List Fra.P) (v : Value) : Prop := ∃ L : List PV, L.map (·.1) = ps ∧ PRow w.heap.size w' v L ∧ Below w.heap.size w w'
theorem prow_from {β : Type} (n B b : Nat) (T : TypeId) (f : β → List Fra.P) : OwnFrom n (fun s W => ∃ v L, Boxed W B T v ∧ PRow b W v L ∧ L.map (·.1) = f s) := by
  rintro s W W' row ⟨v, L, hv, hR, hL⟩ hg hr
  have key : ∀ (g : Nat) (cs : Array Value) (t : TypeId) (m : Nat × Nat), W.heap[g]? = some (.cells cs t m) → W'.heap[g]? = some (.cells cs t m) := fun g cs t m h =>
    (hg.block g (Array.getElem?_eq_some_iff.1 h).1 (fun e => by
      obtain ⟨_, o, ho, hc⟩ := hr g e.symm
      rw [h] at ho; cases ho; cases hc)).trans h
  exact ⟨v, L, key _ _ _ _ hv, hR.typed fun g cs t m _ h => key g cs t m h, hL⟩
theorem lies_new3 (w : World) (t : TypeId) (a b c : Value) : ∀ j u, [a, b, c][j]? = some u → (w.alloc (.cells #[a, b, c] t)).cell? ((⟨w.heap.size, 0, none⟩ : Addr).add j) = some u := by
  intro j u hu
  have hj : j < 3 := by
    rcases Nat.lt_or_ge j 3 with h | h
    · exact h
    · rw [List.getElem?_eq_none (by simpa using h)] at hu; cases hu
  have e2 : (⟨w.heap.size, 0, none⟩ : Addr).add j = ⟨w.heap.size, j, none⟩ := by unfold Addr.add; split <;> simp_all
  rw [e2, (Blk.new w #[a, b, c] t).cell j]
  rw [← hu]
  simp

set_option maxHeartbeats 8000000 in
theorem fall_any (A : Option Addr) (n cap : Nat) (bs : List UInt8) (w : World) (hn : bs.length = n) (hN : n ≤ 1000000) (hnc : n ≤ cap) (hcm : cap ≤ maxLen) (hA : Lies w A (cells bs)) :
    Calls Try.prog 9 #[.slice A n cap] w fun e w' => ∃ v, e = .returned (.tuple #[v, .int .i64 (Fra.tot (Fra.all bs) : Int)]) ∧ GivesP w w' (Fra.all bs) v := by
  obtain ⟨i0, hi, hz0, hz1, hz2⟩ := info_parts infoPart
  obtain ⟨ad, hAd⟩ : ∃ ad, A = some ad ∨ bs = [] := by
    rcases A with _ | ad
    · refine ⟨⟨0, 0, none⟩, .inr ?_⟩
      rcases hA with h | ⟨_, h, _⟩
      · simpa [cells] using h
      · cases h
    · exact ⟨ad, .inl rfl⟩
  refine (callsIn_wide (n := 3)).1 ?_
  have hf18 : Fence.wide.fn 18 := trivial
  have hf13 : Fence.wide.fn 13 := trivial
  have hf19 : Fence.wide.fn 19 := trivial
  refine callsIn_of_wp_marks Try.func9 rfl trivial ?_ rfl
  simp only [Try.ntmps9, List.size_toArray, List.length_cons, List.length_nil, Nat.reduceAdd, Nat.reduceSub, Array.replicate_succ, Array.replicate_zero, List.push_toArray, List.append_toArray, List.nil_append, List.cons_append]
  gi_wp2_with (gi_at_call 18; refine (frames_in Fence.wide _ trivial rfl A n cap _).mono ?_; rintro e w' ⟨rfl, rfl⟩)
  have bO := Boxed.new w 24 (.slice none 0 0)
  have bE := Boxed.new (w.alloc (.cells #[.slice none 0 0] 24)) 3 (.int .i64 0)
  have bN := Boxed.new ((w.alloc (.cells #[.slice none 0 0] 24)).alloc (.cells #[.int .i64 0] 3)) 22 (.slice A n cap)
  rw [World.size_alloc] at bE
  rw [World.size_alloc, World.size_alloc] at bN
  obtain ⟨W0, hW0⟩ : ∃ W0, ((w.alloc (.cells #[.slice none 0 0] 24)).alloc (.cells #[.int .i64 0] 3)).alloc (.cells #[.slice A n cap] 22) = W0 := ⟨_, rfl⟩
  have hB3 : Below w.heap.size w W0 := by rw [← hW0]; exact (((Below.refl _ w).alloc (Nat.le_refl _) _).alloc (by simp) _).alloc (by simp; omega) _
  have hO3 : Boxed W0 w.heap.size 24 (.slice none 0 0) := by rw [← hW0]; exact (bO.alloc _).alloc _
  have hE3 : Boxed W0 (w.heap.size + 1) 3 (.int .i64 0) := by rw [← hW0]; exact bE.alloc _
  have hN3 : Boxed W0 (w.heap.size + 1 + 1) 22 (.slice A n cap) := by rw [← hW0]; exact bN
  have hs0 : W0.heap.size = w.heap.size + 3 := by rw [← hW0]; simp
  rw [hW0]
  clear bO bE bN hW0
  refine wpIn_rangeFunc_ownG rfl (by omega) (gf := 27) (lb := #[.pointer (some ⟨w.heap.size + 1 + 1, 0, none⟩)]) rfl trivial (enters_of Try.func27 (by kernel_rfl) rfl)
    (frames_stops _ (by omega) (w.heap.size + 1 + 1) A ad n cap bs w W0 hn (by omega) hnc hcm hAd hN3 hA hB3) (fun h k => ⟨h.1.trans k.1, h.2.trans k.2⟩)
    (fun W l o o' h1 h2 h3 h4 => ⟨belowK_b (w := W0) (by omega) W l o o' h1 h2 h3 h4, KeepsTy.grown (grownBy_putObj' W l o') (fun r e cs m hc => by cases e; rw [h2] at hc; cases hc; cases h3)⟩) (Below.refl _ _) (fun _ => rfl)
    (fun pre W => (∃ v L, Boxed W w.heap.size 24 v ∧ PRow w.heap.size W v L ∧ L.map (·.1) = pre.map (·.1)) ∧ Boxed W (w.heap.size + 1) 3 (.int .i64 (Fra.stop (pre.map (·.1)) : Int)) ∧ Below w.heap.size w W)
    (fun _ _ _ => False)
    (OwnFrom.and (prow_from _ _ _ _ _) (OwnFrom.and (boxed_from _ _ _ _) (ownFrom_below (Nat.le_refl _) (by omega))))
    (fun _ _ _ _ _ hs _ _ => hs)
    ⟨⟨_, [], hO3, PRow.nil _ _, rfl⟩, hE3, hB3⟩
    (fun x => { tmps := #[.slice A n cap, undef, .slice none 0 0, .int .i64 0, .pointer (some ⟨w.heap.size, 0, none⟩), .pointer (some ⟨w.heap.size + 1, 0, none⟩), .int .i64 (x.1.p : Int), .slice (some ((ad.add x.1.p).add (Plain.size x.1.b.length))) x.1.b.length (cap - x.1.p - Plain.size x.1.b.length), undef, .slice A n cap, .func (.func 27) #[] #[.pointer (some ⟨w.heap.size + 1 + 1, 0, none⟩)], .int .i64 (x.1.p : Int), .slice (some ((ad.add x.1.p).add (Plain.size x.1.b.length))) x.1.b.length (cap - x.1.p - Plain.size x.1.b.length), undef, undef, undef, undef, undef, undef, undef, undef, undef, undef, undef, undef, undef, undef, undef, undef, undef, undef], defers := [] }) ?assign ?body ?done ?stop
  case assign =>
    intro l x W K hK
    simp only [frEnc]
    gi_wp2
    exact hK
  case body =>
    rintro l' pre x W ⟨⟨v, L, hv, hR, hL⟩, he, hB⟩ hlt
    obtain ⟨hx1, hx2, hx3, hx4⟩ := x.2
    have hmp : (pre ++ [x]).map (·.1) = pre.map (·.1) ++ [x.1] := by simp
    obtain ⟨⟨p, b⟩, hpb⟩ : ∃ y, x.1 = y := ⟨_, rfl⟩
    rw [hpb] at hx1 hx2 hx3 hx4 hmp
    simp only [hpb]
    have HMP := Lib.hid hmp
    clear hpb hmp
    simp only at hx1 hx2 hx3 hx4
    have hLl : L.length = pre.length := by have := congrArg List.length hL; simpa using this
    have hL6 : L.length + 1 ≤ 1000000 := by omega
    have hszb := hB.size
    have hWs : w.heap.size + 1 < W.heap.size := he.lt
    clear hLl
    have HX4 := Lib.hid hx4
    have HCL := Lib.hid (fun (a : Addr) (c : Nat) (u : World) (h : Lies u (some a) (cells b)) => clone12_any a b.length c b u rfl (by omega) h)
    have HSZ := Lib.hid (fsize_any (b.length : Int))
    have hsz := Fra.size_small (b.length : Int)
    have hpx : p + Fra.size (b.length : Int) ≤ 1000000 := by
      have h3 : p + Fra.size (b.length : Int) ≤ n := hx3
      omega
    have hcells : (cells b).length = b.length := cells_length b
    have HPS := Lib.hid (show (⟨p, b⟩ : Fra.P).sz = Fra.size (b.length : Int) from rfl)
    obtain ⟨q, hq⟩ : ∃ q, b.length = q + 1 := ⟨b.length - 1, by omega⟩
    have HBL := Lib.hid hq
    clear hx3 hx4
    generalize (ad.add p).add (Plain.size (b.length : Int)) = bad at *
    generalize cap - p - Plain.size (b.length : Int) = bcap at *
    generalize Fra.size (b.length : Int) = sz at *
    rw [hq] at hx1 hx2 HCL HSZ hcells ⊢
    clear hq hcells
    gi_wp2_with fail
    refine (callsIn_wide.2 (HSZ.out _)).mono ?_
    rintro e w1 ⟨rfl, rfl⟩
    gi_wp2_with fail
    refine (callsIn_wide.2 (HCL.out _ _ _ (HX4.out.below hB))).mono ?_
    rintro e w1 ⟨vb, rfl, hvb, hb1⟩
    rw [HBL.out] at hvb
    obtain ⟨gb, capb, curb, rfl, hgbl, hgbh⟩ := own_some hvb (by omega)
    have hs1 := hb1.size
    have hv1 : Boxed w1 w.heap.size 24 v := (hb1.block _ hv.lt).trans hv
    have he1 : Boxed w1 (w.heap.size + 1) 3 (.int .i64 (Fra.stop (pre.map (·.1)) : Int)) := (hb1.block _ he.lt).trans he
    have hR1 := hR.below hb1
    have hbx := Blk.new w1 #[.int .i64 (p : Int), .int .i64 (sz : Int), .slice (some ⟨gb, 0, none⟩) (q + 1) capb] 35
    have hbp0 := hbx.cell 0
    have hbp1 := hbx.cell 1
    have hbp2 := hbx.cell 2
    have hvp := hv1.alloc (.cells #[.int .i64 (p : Int), .int .i64 (sz : Int), .slice (some ⟨gb, 0, none⟩) (q + 1) capb] 35)
    have hcvp := hvp.cell
    have HE1 := Lib.hid he1
    have HV1 := Lib.hid hv1
    have HR1 := Lib.hid hR1
    have HVB := Lib.hid hvb
    have HVP := Lib.hid hvp
    have HBX := Lib.hid hbx
    have HB1 := Lib.hid hb1
    have HRW := Lib.hid hR
    clear hv1 he1 hR1 hbx hvp hvb hR hv he
    gi_wp2_with (gi_at_builtin; go_loud (refine wpListIn_append_own _ rfl _ _ 24 rfl w.heap.size 35 i0 (.agg #[.int .i64 0, .int .i64 0, .slice none 0 0]) 3 40 Try.underlying24 hi hz0 hz1 hz2 rfl (by decide) v L.length (flatP L) rfl ?a1 ⟨w1.heap.size + 1, 0, none⟩ 1 1 [.int .i64 (p : Int), .int .i64 (sz : Int), .slice (some ⟨gb, 0, none⟩) (q + 1) capb] rfl rfl ?a2 ?a3 ?a4 ?a5 ?a6 ?a7))
    case a1 => exact (HR1.out.row.alloc _).alloc _
    case a2 => have := lies_new3 (w1.alloc (.cells #[.int .i64 (p : Int), .int .i64 (sz : Int), .slice (some ⟨gb, 0, none⟩) (q + 1) capb] 35)) 35 (.int .i64 (p : Int)) (.int .i64 (sz : Int)) (.slice (some ⟨gb, 0, none⟩) (q + 1) capb); rwa [World.size_alloc] at this
    case a3 => simp [Value.oneCell']
    case a4 => unfold maxLen; omega
    case a5 => omega
    case a6 => simp; omega
    case a7 =>
      intro v' Wa hown' hgrow _
      obtain ⟨g', cap', rfl⟩ := ownsRow_succ hown'
      obtain ⟨hv2, hv3, hr3, hk3, hb3⟩ := HVP.out.appended (by decide) (HR1.out.row.alloc _) (by simp; omega) (Nat.le_refl _) hown' hgrow
      have hc2 := hv2.cell
      have hf2 := hv2.frozen
      have hvlt : ∀ j, v.ownBlock = some j → j < w1.heap.size := fun j hj => (HR1.out.row.lt j hj).2
      have hxa : Blk Wa w1.heap.size #[.int .i64 (p : Int), .int .i64 (sz : Int), .slice (some ⟨gb, 0, none⟩) (q + 1) capb] 35 := (hgrow.block w1.heap.size (by simp; omega) (fun e => by have := hvlt _ e.symm; omega)).trans ((heap_alloc_old _ _ (by simp)).trans HBX.out)
      have hea : Boxed Wa (w.heap.size + 1) 3 (.int .i64 (Fra.stop (pre.map (·.1)) : Int)) := ((HE1.out.alloc _).alloc _).kept hgrow (HE1.out.not_row (by decide) HR1.out.row)
      have hxb : Blk (Wa.setCell ⟨w.heap.size, 0, none⟩ (.slice (some ⟨g', 0, none⟩) (L.length + 1) cap')) w1.heap.size #[.int .i64 (p : Int), .int .i64 (sz : Int), .slice (some ⟨gb, 0, none⟩) (q + 1) capb] 35 := ((grownBy_setCell' Wa w.heap.size _).block _ hxa.lt (by simp; omega)).trans hxa
      have hx0 := hxb.cell 0
      have hx1 := hxb.cell 1
      have heb := hea.kept (grownBy_setCell' Wa w.heap.size (.slice (some ⟨g', 0, none⟩) (L.length + 1) cap')) (by simp)
      have hec := heb.cell
      have hef := heb.frozen
      have wadd : IntKind.i64.wrap ((p : Int) + (sz : Int)) = (p : Int) + (sz : Int) := by rw [IntKind.wrap_i64]; omega
      have gL := grownBy_setCell' (Wa.setCell ⟨w.heap.size, 0, none⟩ (.slice (some ⟨g', 0, none⟩) (L.length + 1) cap')) (w.heap.size + 1) (.int .i64 ((p : Int) + (sz : Int)))
      have hv5 := hv3.kept gL (by intro e; simp at e)
      have hr5 := hr3.kept gL (.inr (heb.not_row (by decide) hr3).symm)
      have he5 := heb.set (.int .i64 ((p : Int) + (sz : Int)))
      have hpt : ∀ r, v.ownBlock = some r → ∀ T cs m, T ≠ 35 → ((w1.alloc (.cells #[.int .i64 (p : Int), .int .i64 (sz : Int), .slice (some ⟨gb, 0, none⟩) (q + 1) capb] 35)).alloc (.cells #[.int .i64 (p : Int), .int .i64 (sz : Int), .slice (some ⟨gb, 0, none⟩) (q + 1) capb] 35)).heap[r]? ≠ some (.cells cs T m) := fun r e T cs m hT h => by
        rcases ((HR1.out.row.alloc (.cells #[.int .i64 (p : Int), .int .i64 (sz : Int), .slice (some ⟨gb, 0, none⟩) (q + 1) capb] 35)).alloc (.cells #[.int .i64 (p : Int), .int .i64 (sz : Int), .slice (some ⟨gb, 0, none⟩) (q + 1) capb] 35)).2 with ⟨rfl, _⟩ | ⟨g2, cap1, cur, rfl, hbg, hgh, _⟩
        · simp [Value.ownBlock] at e
        · have e' : g2 = r := by simpa [Value.ownBlock] using e
          subst e'
          rw [hgh] at h
          injection h with h
          injection h with h1 h2 h3
          exact hT h2.symm
      have KT : ∀ T, T ≠ 35 → T ≠ 24 → T ≠ 3 → KeepsTy T w1 ((Wa.setCell ⟨w.heap.size, 0, none⟩ (.slice (some ⟨g', 0, none⟩) (L.length + 1) cap')).setCell ⟨w.heap.size + 1, 0, none⟩ (.int .i64 ((p : Int) + (sz : Int)))) := fun T h1 h2 h3 =>
        ((((KeepsTy.grown (World.grownBy_alloc w1 _ none) (fun r e => by cases e)).trans (KeepsTy.grown (World.grownBy_alloc _ _ none) (fun r e => by cases e))).trans (KeepsTy.grown hgrow (fun r e cs m h => hpt r e T cs m h1 h))).trans
          (KeepsTy.grown (grownBy_setCell' Wa w.heap.size _) (fun r e cs m h => by
            cases e; rw [show Wa.heap[w.heap.size]? = _ from hv2] at h; injection h with h; injection h with q1 q2 q3; exact h2 q2.symm))).trans
          (KeepsTy.grown gL (fun r e cs m h => by
            cases e; rw [show (Wa.setCell ⟨w.heap.size, 0, none⟩ (.slice (some ⟨g', 0, none⟩) (L.length + 1) cap')).heap[w.heap.size + 1]? = _ from heb] at h; injection h with h; injection h with q1 q2 q3; exact h3 q2.symm))
      have KU := Lib.hid (KT 5 (by decide) (by decide) (by decide))
      have KB := Lib.hid ((KeepsTy.grown (T := 22) (below_grownBy HB1.out) (fun r e => by cases e)).trans (KT 22 (by decide) (by decide) (by decide)))
      have BW : Below w.heap.size W ((Wa.setCell ⟨w.heap.size, 0, none⟩ (.slice (some ⟨g', 0, none⟩) (L.length + 1) cap')).setCell ⟨w.heap.size + 1, 0, none⟩ (.int .i64 ((p : Int) + (sz : Int)))) :=
        ((((HB1.out.mono hszb).alloc (by omega) (.cells #[.int .i64 (p : Int), .int .i64 (sz : Int), .slice (some ⟨gb, 0, none⟩) (q + 1) capb] 35)).trans hb3)).grown gL (by have := hb3.size; simp at this ⊢; omega) (fun j e => by cases e; omega)
      have KO : KeepsOthers W ((Wa.setCell ⟨w.heap.size, 0, none⟩ (.slice (some ⟨g', 0, none⟩) (L.length + 1) cap')).setCell ⟨w.heap.size + 1, 0, none⟩ (.int .i64 ((p : Int) + (sz : Int)))) :=
        (((KeepsOthers.of_grownBy (below_grownBy HB1.out) (fun j o e _ => by cases e)).trans (KeepsOthers.alloc _ _)).trans hk3).trans (KeepsOthers.setCell _ _ _)
      have BWH := Lib.hid BW
      have KOH := Lib.hid KO
      have HV5 := Lib.hid hv5
      have HR5 := Lib.hid hr5
      have HE5 := Lib.hid he5
      clear hpt KT BW KO hv5 hr5 he5 gL hgrow hown' hk3 hb3 hr3 hv3 hvlt hxa hea hbp0 hbp1 hbp2 hcvp
      gi_wp2
      refine ⟨KOH.out.from _, ⟨BWH.out, KB.out⟩, ⟨_, L ++ [(⟨p, b⟩, .slice (some ⟨gb, 0, none⟩) (q + 1) capb)], HV5.out, ⟨?_, ?_, ?_⟩, ?_⟩, ?_, hB.trans BWH.out⟩
      · have := HR5.out
        rw [List.length_append, flatP_snoc, List.length_singleton, HPS.out]
        exact this
      · intro y hy
        rcases List.mem_append.1 hy with hy | hy
        · exact ⟨(HR1.out.each y hy).1, own_typed (HR1.out.each y hy).2 KU.out.2⟩
        · simp only [List.mem_singleton] at hy
          subst hy
          refine ⟨by rw [HBL.out]; omega, ?_⟩
          have := own_base (own_typed HVB.out KU.out.2) hszb
          simp only
          rw [HBL.out]
          exact this
      · refine List.pairwise_append.2 ⟨HRW.out.apart, List.pairwise_singleton _ _, fun y hy z hz => ?_⟩
        simp only [List.mem_singleton] at hz
        subst hz
        obtain ⟨gy, cy, uy, hyv, _, _⟩ := own_some (HRW.out.each y hy).2 (HRW.out.each y hy).1
        have hlt2 := ((HRW.out.each y hy).2.lt gy (by rw [hyv]; rfl)).2
        rw [hyv]
        simp [Value.ownBlock]
        omega
      · rw [HMP.out, List.map_append, hL]; rfl
      · rw [HMP.out, Fra.stop_snoc, HPS.out]
        exact_mod_cast HE5.out
  case done =>
    rintro D ys W hD hS ⟨⟨v, L, hv, hR, hL⟩, he, hB⟩ hK
    have hcv := hv.cell
    have hce := he.cell
    gi_wp2_with fail
    gi_region
    gi_wp2
    refine ⟨by simp, .inl ⟨_, _, rfl, run_takeDeferred hK, ?_⟩⟩
    rw [hS] at hL
    refine ⟨.tuple #[v, .int .i64 (Fra.stop (Fra.all bs) : Int)], by simp [results, Try.results9, go_sem], v, by rw [(Fra.all_pre bs).1.stop], L, hL, ?_, ?_⟩
    · exact hR.typed fun g cs t m _ h => ((grownBy_putObj' W D (.deferred none)).block g (Array.getElem?_eq_some_iff.1 h).1 (fun e => by
        have e' : g = D := by simpa using e
        subst e'; rw [hK] at h; cases h)).trans h
    · exact (show Below w.heap.size w W.drew from ⟨hB.os, hB.tape, hB.output, hB.size, hB.block⟩).trans (belowK_b (w := w) (Nat.le_refl _) W.drew D _ _ (by omega) hK rfl rfl)
  case stop =>
    rintro D c pre W _ _ h _
    exact h.elim
end Go.Proofs.Ytchfiekepjndeaa
