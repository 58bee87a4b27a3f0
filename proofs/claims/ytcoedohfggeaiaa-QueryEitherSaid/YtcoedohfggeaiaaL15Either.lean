/-
  P15.3, QueryEither: for all entries and any Ask the law returns true: what is asked for of any class is what is asked for of each class, together. No condition.
-/
import Derived.Test.YtcoedohfggeaiaaHdQ
import Derived.Test.YtcoedohfggeaiaaQyP
import Derived.BigRegion
import Derived.BigQuiet
import Derived.Deep.CutRange
namespace Go.Proofs.Ytcoedohfggeaiaa.queryEither
open Go.ChangeShapes Go.WideShapes Go.ChangeAt Go.RowKit Go.Maps En Qy
set_option maxRecDepth 100000

/-- how many are told of the first classes -/
def sumC (M : List E) (q : Qy.A) (k : Nat) : Nat := ((List.range k).map fun (c : Nat) => (run M { q with cl := (c : Int), lim := 1000 }).length).sum
theorem sumC_succ (M : List E) (q : Qy.A) (k : Nat) : sumC M q (k + 1) = sumC M q k + (run M { q with cl := (k : Int), lim := 1000 }).length := by
  unfold sumC; rw [List.range_succ, List.map_append, List.sum_append]; simp
theorem sumC_le (M : List E) (q : Qy.A) (k : Nat) (h : M.length ≤ 300) : sumC M q k ≤ 300 * k := by
  induction k with
  | zero => simp [sumC]
  | succ k ih => rw [sumC_succ]; have := run_le M { q with cl := (k : Int), lim := 1000 }; omega
theorem sumC_all (M : List E) (q : Qy.A) (h : M.length ≤ 300) (hc : ∀ e ∈ M, 0 ≤ e.cl ∧ e.cl ≤ 7) : sumC M q 8 = (run M { q with cl := -1, lim := 1000 }).length := by
  have h1 := count_classes M (fun e => fits e { q with cl := -1, lim := 1000 }) 8
  have h2 : ∀ c : Nat, (run M { q with cl := (c : Int), lim := 1000 }).length = (M.filter (fun e => fits e { q with cl := -1, lim := 1000 } && decide (e.cl = (c : Int)))).length := fun c => by
    rw [run_all M _ (by show (M.length : Int) ≤ 1000; omega), List.length_map]
    unfold those
    congr 2
    funext e
    rw [fits_class (by show (0 : Int) ≤ (c : Int); omega)]
  have h3 : (run M { q with cl := -1, lim := 1000 }).length = (M.filter (fun e => fits e { q with cl := -1, lim := 1000 } && decide (0 ≤ e.cl ∧ e.cl < ((8 : Nat) : Int)))).length := by
    rw [run_all M _ (by show (M.length : Int) ≤ 1000; omega), List.length_map]
    unfold those
    congr 1
    apply List.filter_congr
    intro e he
    rw [decide_eq_true (by have := hc e he; omega), Bool.and_true]
  unfold sumC
  rw [h3, ← h1]
  congr 2
  funext c
  exact h2 c
set_option maxHeartbeats 16000000 in
theorem walkN (hOK : QueryOk) (w : World) (A : Option Addr) (n cap : Nat) (l : List Ent) (qa : Qy.A) (hn : l.length = n) (hl : n ≤ cap) (hm : cap ≤ maxLen) (hA : Lies w A (flatEn l)) (hQ : ∀ u ∈ l, EntIn w u) (hK : AskIn qa) :
    Calls Try.prog 7 #[.slice A n cap, .agg (askA qa)] w fun e w' => e = .returned (.bool true) ∧ Below w.heap.size w w' := by
  have hb0 : Below w.heap.size w (w.alloc (.cells (askA qa) 31)) := (Below.refl _ _).alloc (Nat.le_refl _) _
  have hq0 := BoxQ.new w qa
  obtain ⟨W0, hW0⟩ : ∃ W0, w.alloc (.cells (askA qa) 31) = W0 := ⟨_, rfl⟩
  have hz0 : W0.heap.size = w.heap.size + 1 := by rw [← hW0]; simp
  rw [hW0] at hb0 hq0
  have HOK := Lib.hid hOK
  have HN := Lib.hid hn
  have HNM := Lib.hid (And.intro hl hm)
  have HA0 := Lib.hid (hA.below hb0)
  have HQ0 := Lib.hid (fun u hu => (hQ u hu).below hb0)
  have HB0 := Lib.hid hb0
  have HK := Lib.hid hK
  obtain ⟨B, hB⟩ : ∃ B, w.heap.size = B := ⟨_, rfl⟩
  rw [hB] at hq0 hz0
  have HBX0 := Lib.hid hq0
  have HBQ := Lib.hid hB
  unfold askA at hW0 ⊢
  have HW0 := Lib.hid hW0
  clear hOK hn hl hm hA hQ hK hb0 hq0 hW0 hB hz0
  go_enter Try.func7, Try.ntmps7
  go_wp2_with fail
  rw [HW0.out, HBQ.out]
  refine (head15_any HOK.out W0).mono ?_
  rintro e w1 ⟨rfl, d1⟩
  have HB1 := Lib.hid (HB0.out.trans (d1.mono HB0.out.size))
  have HBX1 := Lib.hid (HBX0.out.below d1)
  have HA1 := Lib.hid (HA0.out.below d1)
  have HQ1 := Lib.hid (fun u hu => (HQ0.out u hu).below d1)
  clear d1 HB0 HBX0 HA0 HQ0 HW0
  go_wp2_with fail
  refine (great15_any A n cap l w1 HN.out (Nat.le_trans HNM.out.1 HNM.out.2) HA1.out HQ1.out).mono ?_
  rintro e w2 ⟨r, rfl, hr, rfl⟩
  rcases r with _ | _
  rotate_left
  · have HB := HB1.out
    clear hr
    go_wp2
    go_ret
    exact ⟨rfl, HB⟩
  have HR := Lib.hid (hr rfl)
  clear hr
  obtain ⟨q0, -⟩ := HBX1.out.all
  obtain ⟨zs, hzs⟩ : ∃ zs : Nat, (str qa.sv).size = zs := ⟨_, rfl⟩
  by_cases h9 : 900 < zs
  · have t9 : decide ((900 : Int) < ((str qa.sv).size : Int)) = true := by rw [hzs]; exact decide_eq_true (by omega)
    have HB := HB1.out
    clear hzs h9
    go_wp2
    go_ret
    exact ⟨rfl, HB⟩
  have t9 : decide ((900 : Int) < ((str qa.sv).size : Int)) = false := by rw [hzs]; exact decide_eq_false (by omega)
  clear hzs h9
  have HEn := Lib.hid (show Ents w2 A n cap l from ⟨HN.out, by have := HR.out.1; omega, HNM.out.1, HNM.out.2, HA1.out, fun t ht => (HQ1.out t ht).svs (HR.out.2 t ht)⟩)
  have HORD := Lib.hid (ordered15_any A n cap l w2 HEn.out HR.out.1)
  have HOM := Lib.hid (putsQ_ok (l.map Ent.e))
  have hmn := putsQ_len (l.map Ent.e)
  rw [List.length_map, HN.out] at hmn
  have hmn3 : (putsQ (l.map Ent.e)).length ≤ 300 := Nat.le_trans hmn HR.out.1
  obtain ⟨M, hM⟩ : ∃ M, putsQ (l.map Ent.e) = M := ⟨_, rfl⟩
  rw [hM] at HORD HOM hmn3
  obtain ⟨mn, hmn2⟩ : ∃ mn, M.length = mn := ⟨_, rfl⟩
  rw [hmn2] at HORD hmn3
  have HMN := Lib.hid hmn2
  clear hM hmn hmn2 HEn HA1 HQ1 HR
  go_wp2_with fail
  clear q0 t9
  refine HORD.out.mono ?_
  rintro e w3 ⟨A1, c1, us, rfl, hE, hus, hfr, d3⟩
  obtain ⟨zb, hzb⟩ : ∃ zb, w2.heap.size = zb := ⟨_, rfl⟩
  rw [hzb] at hfr
  have HFR := Lib.hid hfr
  have HBZ := Lib.hid (show B < zb by have := HBX1.out.lt; omega)
  clear hfr hzb
  have HE3 := Lib.hid hE
  have HUS := Lib.hid hus
  have HB3 := Lib.hid (HB1.out.trans (d3.mono HB1.out.size))
  have HBX3 := Lib.hid (HBX1.out.below d3)
  have hc1 : c1 ≤ 2 ^ 63 - 1 := by have := hE.cap; unfold maxLen at this; exact this
  have hmc : mn ≤ c1 := hE.le
  clear hE hus d3 HB1 HBX1 HORD HN HNM
  obtain ⟨r0, r1, r2, r3, r4, r5, r6⟩ := HBX3.out.all
  have m3 := HBX3.out.frozen 3
  have m6 := HBX3.out.frozen 6
  have hb4 : BoxQ ((w3.setCell ⟨B, 3, none⟩ (.int .i64 (-1))).setCell ⟨B, 6, none⟩ (.int .i64 1000)) B { qa with cl := -1, lim := 1000 } := by
    have := (HBX3.out.set 3 (.int .i64 (-1))).set 6 (.int .i64 1000)
    have e : ((askA qa).setIfInBounds 3 (.int .i64 (-1))).setIfInBounds 6 (.int .i64 1000) = askA { qa with cl := -1, lim := 1000 } := by
      unfold askA
      simp only [List.setIfInBounds_toArray, List.set_cons_succ, List.set_cons_zero]
    show Blk _ B (askA { qa with cl := -1, lim := 1000 }) _
    rw [← e]
    exact this
  have hk4 : Kept [B] w3 ((w3.setCell ⟨B, 3, none⟩ (.int .i64 (-1))).setCell ⟨B, 6, none⟩ (.int .i64 1000)) := ((Kept.refl [B] w3).setCell (by simp) _).setCell (by simp) _
  obtain ⟨w4, hw4⟩ : ∃ w4, (w3.setCell ⟨B, 3, none⟩ (.int .i64 (-1))).setCell ⟨B, 6, none⟩ (.int .i64 1000) = w4 := ⟨_, rfl⟩
  rw [hw4] at hb4 hk4
  have HW4 := Lib.hid hw4
  have HBX4 := Lib.hid hb4
  have HB4 := Lib.hid (Kept.belowQ HB3.out hk4 (by have := HBQ.out; have := HB3.out.size; simp; omega))
  have HE4 := Lib.hid (HE3.out.keptB hk4 HFR.out (by have := HBZ.out; simpa using this))
  clear hw4 hb4 hk4
  go_wp2
  rw [HW4.out]
  clear r0 r1 r2 r3 r4 r5 r6 m3 m6 HW4 HE3 HB3 HBX3
  go_loop [8] (fun s8 => ∃ i : Nat, s8 = .int .i64 (i : Int) ∧ i ≤ mn ∧ ∀ j (h : j < M.length), j < i → 0 ≤ M[j].cl ∧ M[j].cl ≤ 7) (fun s8 => mn - (intOf s8).toNat)
  case atStart => exact ⟨0, rfl, Nat.zero_le _, fun j _ h => by omega⟩
  case round =>
    obtain ⟨i, rfl, hi, hall⟩ := hrel
    have HALL := Lib.hid hall
    clear hall
    by_cases hlt : i < mn
    · have hiM : i < M.length := by rw [HMN.out]; exact hlt
      have hiu : i < us.length := by rw [HE4.out.len]; exact hlt
      obtain ⟨ad, rfl, hadb, hc⟩ := at_ent HE4.out.lies i hiu
      have hte : us[i].e = M[i] := by have := HUS.out; subst this; simp
      obtain ⟨-, x1, -⟩ := ent_all (hc w4 (Below.refl _ _))
      rw [hte] at x1
      have HST := Lib.hid (show 0 ≤ M[i].cl ∧ M[i].cl ≤ 7 → ∀ j (h : j < M.length), j < i + 1 → 0 ≤ M[j].cl ∧ M[j].cl ≤ 7 from fun h j hj hji => by
        rcases Nat.lt_or_ge j i with h5 | h5
        · exact HALL.out j hj h5
        · obtain rfl : j = i := by omega
          exact h)
      have hix := fun (W : World) => show (Instr.indexAt 22 (.slice (some ad) mn c1) (.int .i64 (i : Int))).run Try.prog W = .ok (.pointer (some (ad.add (i * 13)))) W by go_simp
      clear hc hte
      generalize M[i].cl = cl at *
      generalize ad.add (i * 13) = q at *
      clear hiM hiu
      by_cases h1 : cl < 0
      · have t1 : decide (cl < 0) = true := decide_eq_true h1
        have HB := HB4.out
        clear h1
        go_wp2
        go_ret
        exact ⟨rfl, HB⟩
      · have t1 : decide (cl < 0) = false := decide_eq_false h1
        by_cases h2 : 7 < cl
        · have t2 : decide (7 < cl) = true := decide_eq_true h2
          have HB := HB4.out
          clear h1 h2
          go_wp2
          go_ret
          exact ⟨rfl, HB⟩
        · have t2 : decide (7 < cl) = false := decide_eq_false h2
          have HS2 := Lib.hid (HST.out (by omega))
          clear h1 h2
          go_wp2
          go_round
          case rel => exact ⟨i + 1, by go_num, by omega, HS2.out⟩
          case measure => simp [intOf]; omega
    · obtain rfl : i = mn := by omega
      have HALL2 := Lib.hid (show ∀ e ∈ M, 0 ≤ e.cl ∧ e.cl ≤ 7 from fun e he => by
        obtain ⟨j, hj, rfl⟩ := List.getElem_of_mem he
        exact HALL.out j hj (by rw [← HMN.out]; exact hj))
      clear HALL hlt
      go_wp2
      go_loopw [7, 9] (fun s7 s9 wr => ∃ c : Nat, s9 = .int .i64 (c : Int) ∧ c ≤ 8 ∧ s7 = .int .i64 ((sumC M qa c : Nat) : Int) ∧ Below w4.heap.size w4 wr) (fun _ s9 _ => 8 - (intOf s9).toNat)
      case atStart => exact ⟨0, rfl, Nat.zero_le _, rfl, Below.refl _ _⟩
      case round =>
        obtain ⟨c, rfl, hc8, rfl, hbr⟩ := hrel
        have HBR := Lib.hid hbr
        have hsc := sumC_le M qa c (by rw [HMN.out]; exact hmn3)
        clear hbr
        by_cases hlt : c < 8
        · have hld := run_loadAsk wr B _ (HBX4.out.below HBR.out)
          have hb5 : Below wr.heap.size wr (wr.alloc (.cells (askA { qa with cl := (c : Int), lim := 1000 }) 31)) := (Below.refl _ _).alloc (Nat.le_refl _) _
          have HSS := Lib.hid (sumC_succ M qa c)
          have hrun := HOK.out.run A1 i c1 us { qa with cl := (c : Int), lim := 1000 } _ (HE4.out.below (HBR.out.trans (hb5.mono HBR.out.size)))
          rw [HUS.out] at hrun
          obtain ⟨W5, hW5⟩ : ∃ W5, wr.alloc (.cells (askA { qa with cl := (c : Int), lim := 1000 }) 31) = W5 := ⟨_, rfl⟩
          rw [hW5] at hrun hb5
          obtain ⟨R, hR⟩ : ∃ R, run M { qa with cl := (c : Int), lim := 1000 } = R := ⟨_, rfl⟩
          rw [hR] at hrun
          have hrl : R.length ≤ 300 := by rw [← hR]; have := run_le M { qa with cl := (c : Int), lim := 1000 }; have := HMN.out; omega
          rw [hR] at HSS
          obtain ⟨rn, hrn⟩ : ∃ rn, R.length = rn := ⟨_, rfl⟩
          rw [hrn] at hrun hrl HSS
          have HB5 := Lib.hid (HBR.out.trans (hb5.mono HBR.out.size))
          unfold askA at hld hrun hW5
          simp only at hld hrun hW5
          have HLD := Lib.hid hld
          have HRUN := Lib.hid hrun
          have HW5 := Lib.hid hW5
          obtain ⟨sc, hsc2⟩ : ∃ sc, sumC M qa c = sc := ⟨_, rfl⟩
          rw [hsc2] at hsc HSS ⊢
          clear hld hrun hW5 hR hrn hb5 hsc2
          go_wp2_with (refine wpList_loadW rfl 31 _ rfl _ _ rfl HLD.out ?_)
          rw [HW5.out]
          refine HRUN.out.mono ?_
          rintro e w6 ⟨v, rfl, ho, d6⟩
          obtain ⟨A6, c6, rfl, h61, h62, -⟩ := row_form ho
          unfold maxLen at h62
          have HB6 := Lib.hid (HB5.out.trans (d6.mono HB5.out.size))
          clear ho d6 HRUN HLD HW5 HB5 HBR
          go_wp2
          go_roundw
          case rel => exact ⟨c + 1, by go_num, by omega, by rw [HSS.out]; go_num, HB6.out⟩
          case measure => simp [intOf]; omega
        · obtain rfl : c = 8 := by omega
          obtain ⟨r0, r1, r2, r3, r4, r5, r6⟩ := (HBX4.out.below HBR.out).all
          have hrun := HOK.out.run A1 i c1 us { qa with cl := -1, lim := 1000 } wr (HE4.out.below HBR.out)
          rw [HUS.out] at hrun
          have hsa := sumC_all M qa (by rw [HMN.out]; exact hmn3) HALL2.out
          rw [← hsa] at hrun
          obtain ⟨sc, hsc2⟩ : ∃ sc, sumC M qa 8 = sc := ⟨_, rfl⟩
          rw [hsc2] at hrun hsc ⊢
          unfold askA at hrun
          simp only at hrun
          have HRUN := Lib.hid hrun
          have HB5 := Lib.hid (HB4.out.trans (HBR.out.mono HB4.out.size))
          simp only at r0 r1 r2 r3 r4 r5 r6
          clear hsc2 hsa hrun hlt
          go_wp2_with fail
          refine HRUN.out.mono ?_
          rintro e w6 ⟨v, rfl, ho, d6⟩
          obtain ⟨A6, c6, rfl, h61, h62, -⟩ := row_form ho
          unfold maxLen at h62
          have HB6 := Lib.hid (HB5.out.trans (d6.mono HB5.out.size))
          clear ho d6 r0 r1 r2 r3 r4 r5 r6
          go_wp2
          go_ret
          exact ⟨rfl, HB6.out⟩

theorem walk (w : World) (A : Option Addr) (cap : Nat) (l : List Ent) (hl : l.length ≤ cap) (hm : cap ≤ maxLen) (hA : Lies w A (flatEn l)) (hQ : ∀ u ∈ l, EntIn w u) (qa : Qy.A) (hK : AskIn qa) :
    Calls Try.prog 7 #[.slice A l.length cap, .agg (askA qa)] w fun e w' => e = .returned (.bool true) ∧ Below w.heap.size w w' :=
  walkN queryOk w A l.length cap l qa rfl hl hm hA hQ hK


set_option maxRecDepth 100000 in
theorem lifted (os : Os) (started : os.Started) (H : Type) (enc : TypeId × Value → H) :
    ReturnsInHanded {} Try.checked os 7 .any (Rows.queryEitherSpec.pre6 enc Try.prog Try.f7 Rows.queryEitherRow.domain false) (Rows.queryEitherSpec.post enc Try.prog Try.f7 false true false false) := by
  refine returnsInHanded_of_change (C := Try.checked) own started (by kernel_rfl) Try.func7
    (ChangeSpec.witness6 (enc := enc) (C := Try.checked) false ⟨#[], #[.slice none 0 0, .agg #[.string .empty, .int .i64 0, .int .i64 0, .int .i64 0, .int .i64 0, .int .i64 0, .int .i64 0]], []⟩ 8 (by kernel_rfl) (by kernel_rfl) (by kernel_rfl) (by kernel_rfl)) ?_
  intro W base args ds gs before hval0 hW hcnd _
  have hval : ∀ (j : Nat) t v, Try.f7.params[j]? = some t → args[j]? = some v → Value.okWide Try.prog W .any base t v := hval0
  have hfin := fun W' => law_post (enc := enc) (P := Try.prog) (f := Try.f7) (s := Rows.queryEitherSpec) (tb := 4) (W := W) (W' := W') (args := args) (ds := ds) (gs := gs) (before := before) laidOut rfl (by kernel_rfl) Try.underlying4 (by kernel_rfl) (fun xs h => by rw [Try.params7] at h; match xs, h with | [_, _], _ => rfl) hW
  have hlt : ∀ x ∈ before, x.block < W.heap.size := fun x hx => hW.lt x hx
  obtain ⟨p, q, hA0, hV, rfl, hfz, hnd⟩ := hW
  have hA : DataW.TrodAll enc Try.prog W 0 (fun _ => true) true Try.f7.params.toList args.toList ds p := hA0
  rw [Try.params7] at hA hval
  obtain ⟨v0, vs0, d0, ds0, p0, q0, hargs, rfl, rfl, h0, r0⟩ := trodAll_cons hA
  obtain ⟨v1, vs1, d1, ds1, p1, q1, rfl, rfl, rfl, h1, r1⟩ := trodAll_cons r0
  obtain ⟨rfl, rfl, rfl⟩ := trodAll_nil r1
  obtain rfl : args = #[v0, v1] := by cases args; simp_all
  obtain ⟨A0, cap0, l0, rfl, hl0, hm0, hB0, hQ0⟩ := open_ents (hval 0 22 v0 rfl rfl) h0 (fun x hx => hlt x (by simp [hx]))
  obtain ⟨q1, rfl, hK1⟩ := open_ask (hval 1 31 v1 rfl rfl) h1
  refine (walk W A0 cap0 l0 hl0 hm0 hB0 hQ0 q1 hK1).mono fun e W' ⟨he, hg⟩ => ?_
  subst he
  exact ⟨_, rfl, hfin W' hg⟩

theorem proved : Rows.QueryEitherSaid :=
  OpenClaim.holds_of_wide 7 Try.f7 rfl rfl rfl rfl rfl rfl rfl ⟨rfl, rfl, rfl, rfl, rfl⟩ rfl rfl rfl rfl rfl (by kernel_rfl) Try.func7 (by kernel_rfl)
    (of_decide_eq_true (by kernel_rfl)) (by unfold Func.isWrapper; first | (rw [if_pos (by decide +kernel)]; kernel_rfl) | (rw [if_neg (by decide +kernel)]; exact ⟨rfl, rfl⟩))
    (fun os started H enc _ => lifted os started H enc)
#print axioms proved
end Go.Proofs.Ytcoedohfggeaiaa.queryEither
