/-
  P15.3, QueryFilter: for all entries and any Ask the law returns true: what is told fits; nothing that fits is left out, but behind the Limit; it is in the entries' order. No condition.
-/
import Derived.Test.YtcoedohfggeaiaaHdQ
import Derived.Test.YtcoedohfggeaiaaQyP
import Derived.BigRegion
import Derived.BigQuiet
import Derived.Deep.CutRange
namespace Go.Proofs.Ytcoedohfggeaiaa.queryFilter
open Go.ChangeShapes Go.WideShapes Go.ChangeAt Go.RowKit Go.Maps En Qy
set_option maxRecDepth 100000

set_option maxHeartbeats 16000000 in
theorem walkN (hOK : QueryOk) (w : World) (A : Option Addr) (n cap : Nat) (l : List Ent) (qa : Qy.A) (hn : l.length = n) (hl : n ≤ cap) (hm : cap ≤ maxLen) (hA : Lies w A (flatEn l)) (hQ : ∀ u ∈ l, EntIn w u) (hK : AskIn qa) :
    Calls Try.prog 5 #[.slice A n cap, .agg (askA qa)] w fun e w' => e = .returned (.bool true) ∧ Below w.heap.size w w' := by
  have hb0 : Below w.heap.size w (w.alloc (.cells (askA qa) 31)) := (Below.refl _ _).alloc (Nat.le_refl _) _
  have hq0 := BoxQ.new w qa
  obtain ⟨W0, hW0⟩ : ∃ W0, w.alloc (.cells (askA qa) 31) = W0 := ⟨_, rfl⟩
  have hz0 : W0.heap.size = w.heap.size + 1 := by rw [← hW0]; simp
  rw [hW0] at hb0 hq0
  have HOK := Lib.hid hOK
  have HN := Lib.hid hn
  have HNM := Lib.hid (And.intro hl hm)
  have HA0 := Lib.hid (hA.below hb0)
  have HQ0 := Lib.hid (fun u hu => (hQ u hu).below hb0)
  have HB0 := Lib.hid hb0
  have HK := Lib.hid hK
  obtain ⟨B, hB⟩ : ∃ B, w.heap.size = B := ⟨_, rfl⟩
  rw [hB] at hq0 hz0
  have HBX0 := Lib.hid hq0
  have HBQ := Lib.hid hB
  unfold askA at hW0 ⊢
  have HW0 := Lib.hid hW0
  clear hOK hn hl hm hA hQ hK hb0 hq0 hW0 hB hz0
  go_enter Try.func5, Try.ntmps5
  go_wp2_with fail
  rw [HW0.out, HBQ.out]
  refine (head15_any HOK.out W0).mono ?_
  rintro e w1 ⟨rfl, d1⟩
  have HB1 := Lib.hid (HB0.out.trans (d1.mono HB0.out.size))
  have HBX1 := Lib.hid (HBX0.out.below d1)
  have HA1 := Lib.hid (HA0.out.below d1)
  have HQ1 := Lib.hid (fun u hu => (HQ0.out u hu).below d1)
  clear d1 HB0 HBX0 HA0 HQ0 HW0
  go_wp2_with fail
  refine (great15_any A n cap l w1 HN.out (Nat.le_trans HNM.out.1 HNM.out.2) HA1.out HQ1.out).mono ?_
  rintro e w2 ⟨r, rfl, hr, rfl⟩
  rcases r with _ | _
  rotate_left
  · have HB := HB1.out
    clear hr
    go_wp2
    go_ret
    exact ⟨rfl, HB⟩
  have HR := Lib.hid (hr rfl)
  clear hr
  obtain ⟨q0, -⟩ := HBX1.out.all
  obtain ⟨zs, hzs⟩ : ∃ zs : Nat, (str qa.sv).size = zs := ⟨_, rfl⟩
  by_cases h9 : 900 < zs
  · have t9 : decide ((900 : Int) < ((str qa.sv).size : Int)) = true := by rw [hzs]; exact decide_eq_true (by omega)
    have HB := HB1.out
    clear hzs h9
    go_wp2
    go_ret
    exact ⟨rfl, HB⟩
  have t9 : decide ((900 : Int) < ((str qa.sv).size : Int)) = false := by rw [hzs]; exact decide_eq_false (by omega)
  clear hzs h9
  have HEn := Lib.hid (show Ents w2 A n cap l from ⟨HN.out, by have := HR.out.1; omega, HNM.out.1, HNM.out.2, HA1.out, fun t ht => (HQ1.out t ht).svs (HR.out.2 t ht)⟩)
  have HORD := Lib.hid (ordered15_any A n cap l w2 HEn.out HR.out.1)
  have HOM := Lib.hid (putsQ_ok (l.map Ent.e))
  have hmn := putsQ_len (l.map Ent.e)
  rw [List.length_map, HN.out] at hmn
  have hmn3 : (putsQ (l.map Ent.e)).length ≤ 300 := Nat.le_trans hmn HR.out.1
  obtain ⟨M, hM⟩ : ∃ M, putsQ (l.map Ent.e) = M := ⟨_, rfl⟩
  rw [hM] at HORD HOM hmn3
  obtain ⟨mn, hmn2⟩ : ∃ mn, M.length = mn := ⟨_, rfl⟩
  rw [hmn2] at HORD hmn3
  have HMN := Lib.hid hmn2
  clear hM hmn hmn2 HEn HA1 HQ1 HR
  go_wp2_with fail
  clear q0 t9
  refine HORD.out.mono ?_
  rintro e w3 ⟨A1, c1, us, rfl, hE, hus, hfr, d3⟩
  obtain ⟨zb, hzb⟩ : ∃ zb, w2.heap.size = zb := ⟨_, rfl⟩
  rw [hzb] at hfr
  have HFR := Lib.hid hfr
  have HBZ := Lib.hid (show B < zb by have := HBX1.out.lt; omega)
  clear hfr hzb
  have HE3 := Lib.hid hE
  have HUS := Lib.hid hus
  have HB3 := Lib.hid (HB1.out.trans (d3.mono HB1.out.size))
  have HBX3 := Lib.hid (HBX1.out.below d3)
  have hc1 : c1 ≤ 2 ^ 63 - 1 := by have := hE.cap; unfold maxLen at this; exact this
  have hmc : mn ≤ c1 := hE.le
  clear hE hus d3 HB1 HBX1 HORD HN HNM
  have hld := run_loadAsk w3 B qa HBX3.out
  have hrun := HOK.out.run A1 mn c1 us qa w3 HE3.out
  rw [HUS.out] at hrun
  obtain ⟨R, hR⟩ : ∃ R, run M qa = R := ⟨_, rfl⟩
  rw [hR] at hrun
  obtain ⟨rn, hrn⟩ : ∃ rn, R.length = rn := ⟨_, rfl⟩
  rw [hrn] at hrun
  have HRN := Lib.hid hrn
  have HRD := Lib.hid hR
  unfold askA at hld hrun
  have HLD := Lib.hid hld
  have HRUN := Lib.hid hrun
  clear hld hrun hR hrn
  go_wp2_with (refine wpList_loadW rfl 31 _ rfl _ _ rfl HLD.out ?_)
  refine HRUN.out.mono ?_
  rintro e w4 ⟨v, rfl, ho, d4⟩
  obtain ⟨A2, c2, rfl, h21, h22, -⟩ := row_form ho
  have HL2 := Lib.hid (show Lies w4 A2 (nums R) from lies_row HRN.out ho)
  have HE4 := Lib.hid (HE3.out.below d4)
  have HBX4 := Lib.hid (HBX3.out.below d4)
  have HB4 := Lib.hid (HB3.out.trans (d4.mono HB3.out.size))
  unfold maxLen at h22
  clear ho d4 HE3 HBX3 HB3 HLD HRUN
  have hrn3 : rn ≤ mn := by rw [← HRN.out, ← HRD.out, ← HMN.out]; exact run_le M qa
  obtain ⟨lim, hlim⟩ : ∃ lim, qa.lim = lim := ⟨_, rfl⟩
  have HLIM := Lib.hid hlim
  have HI64 := Lib.hid (show I64 lim by rw [← hlim]; exact HK.out.lim)
  clear hlim
  go_wp2
  go_loopw [8, 9, 10] (fun s8 s9 s10 wr => ∃ i k m : Nat, s10 = .int .i64 (i : Int) ∧ s9 = .int .i64 (m : Int) ∧ s8 = .int .i64 (k : Int) ∧ i ≤ mn ∧ m ≤ i ∧ k ≤ m ∧ (those (M.take i) qa).length = m ∧ (run (M.take i) qa).length = k ∧ Below w4.heap.size w4 wr) (fun _ _ i _ => mn - (intOf i).toNat)
  case atStart => exact ⟨0, 0, 0, rfl, rfl, rfl, Nat.zero_le _, Nat.le_refl _, Nat.le_refl _, rfl, by simp [run, told, those], Below.refl _ _⟩
  case round =>
    obtain ⟨i, k, m, rfl, rfl, rfl, hi, hmi, hkm, hml, hkl, hbr⟩ := hrel
    have HML := Lib.hid hml
    have HKL := Lib.hid hkl
    have HBR := Lib.hid hbr
    clear hml hkl hbr
    by_cases hlt : i < mn
    · have hiM : i < M.length := by rw [HMN.out]; exact hlt
      have hiu : i < us.length := by rw [HE4.out.len]; exact hlt
      obtain ⟨ad, rfl, hadb, hc⟩ := at_ent HE4.out.lies i hiu
      have hte : us[i].e = M[i] := by have := HUS.out; subst this; simp
      have HRT := Lib.hid (run_take M qa i hiM)
      have HMT := Lib.hid (many_take M qa i hiM)
      have HRH := Lib.hid (run_here M qa i hiM)
      have HRF := Lib.hid (run_full M qa i)
      rw [← hte] at HRT HMT HRH
      have hbd : Below wr.heap.size wr wr.drew := (Below.refl _ _).drew
      have cr := HBR.out
      have LX0 := Lib.hid (fun (W : World) (h : Below wr.heap.size wr W) => run_loadRow W (ad.add (i * 13)) us[i] (hc W (cr.trans (h.mono cr.size))))
      have HFS1 := Lib.hid (fun (W : World) (h : Below wr.heap.size wr W) => HOK.out.fits us[i].e us[i].A us[i].e.sv.length us[i].cap qa W rfl ((HE4.out.svs us[i] (List.getElem_mem hiu)).below (cr.trans (h.mono cr.size))))
      have LA0 := Lib.hid (fun (W : World) (h : Below wr.heap.size wr W) => run_loadAsk W B qa (HBX4.out.below (cr.trans (h.mono cr.size))))
      have HY0 := Lib.hid (fun (W : World) (h : Below w4.heap.size w4 W) => (ent_all (hc W h)).1)
      have hix := fun (W : World) => show (Instr.indexAt 22 (.slice (some ad) mn c1) (.int .i64 (i : Int))).run Try.prog W = .ok (.pointer (some (ad.add (i * 13)))) W by go_simp
      clear hc hte
      obtain ⟨x, hx⟩ : ∃ x, us[i] = x := ⟨_, rfl⟩
      rw [hx] at HRT HMT HRH LX0 HFS1 HY0
      clear hx
      obtain ⟨X1, hX1⟩ : ∃ X1, enA x.e (.slice x.A x.e.sv.length x.cap) = X1 := ⟨_, rfl⟩
      obtain ⟨X2, hX2⟩ : ∃ X2, askA qa = X2 := ⟨_, rfl⟩
      rw [hX1] at LX0 HFS1
      rw [hX2] at HFS1 LA0
      have LX := LX0
      have LA := LA0
      obtain ⟨F, hF⟩ : ∃ F, fits x.e qa = F := ⟨_, rfl⟩
      rw [hF] at HRT HMT HRH HFS1
      have HFS := HFS1
      rw [HML.out] at HMT HRH HRF
      rw [HKL.out] at HRT
      rw [HLIM.out] at HRT HRH HRF
      clear hX1 hX2 hF LX0 LA0 HFS1 hiM hiu
      go_wp2
      refine wp_softS (by kernel_rfl) 102 [(34, [6]), (35, [10]), (36, [34, 35]), (37, [36]), (38, [3]), (39, [37, 38]), (40, [39])]
        [Fact.is (.slice (some ad) mn c1), Fact.is (.int .i64 (i : Int)), Fact.is (.pointer (some (Addr.add ad (i * 13)))), Fact.is (.agg X1), Fact.is (.agg X2), Fact.is (.bool F), Fact.is (.bool (!F))]
        (by kernel_rfl) rfl rfl ⟨?s0, ?s1, ?s2, ?s3, ?s4, ?s5, ?s6, trivial⟩ ?fin
      case s0 =>
        intro ρ W hb hc hf hr
        obtain ⟨r6, -⟩ := hr
        have e6 : ρ (.tmp 6) = .slice (some ad) mn c1 := r6
        clear r6
        refine under_none rfl ?_
        exact ⟨e6, Below.refl _ _⟩
      case s1 =>
        intro ρ W hb hc hf hr
        obtain ⟨r10, -⟩ := hr
        have e10 : ρ (.tmp 10) = .int .i64 (i : Int) := r10
        clear r10
        refine under_none rfl ?_
        exact ⟨e10, Below.refl _ _⟩
      case s2 =>
        intro ρ W hb hc hf hr
        obtain ⟨r34, r35, -⟩ := hr
        have e34 : ρ (.tmp 34) = .slice (some ad) mn c1 := r34
        clear r34
        have e35 : ρ (.tmp 35) = .int .i64 (i : Int) := r35
        clear r35
        refine under_none rfl ?_
        exact soft_index13 e34 e35 (by omega) rfl
      case s3 =>
        intro ρ W hb hc hf hr
        obtain ⟨r36, -⟩ := hr
        have e36 : ρ (.tmp 36) = .pointer (some (Addr.add ad (i * 13))) := r36
        clear r36
        refine under_none rfl ?_
        exact soft_load e36 (LX.out W (hbd.trans (hb.mono (by simp)))) rfl
      case s4 =>
        intro ρ W hb hc hf hr
        obtain ⟨r3, -⟩ := hr
        have e3 : ρ (.tmp 3) = .pointer (some ⟨B, 0, none⟩) := r3
        clear r3
        refine under_none rfl ?_
        exact soft_load e3 (LA.out W (hbd.trans (hb.mono (by simp)))) rfl
      case s5 =>
        intro ρ W hb hc hf hr
        obtain ⟨r37, r38, -⟩ := hr
        have e37 : ρ (.tmp 37) = .agg X1 := r37
        clear r37
        have e38 : ρ (.tmp 38) = .agg X2 := r38
        clear r38
        refine under_none rfl ?_
        exact soft_call2 hf e37 e38 (HFS.out W (hbd.trans (hb.mono (by simp)))) rfl (by kernel_rfl) below_is
      case s6 =>
        intro ρ W hb hc hf hr
        obtain ⟨r39, -⟩ := hr
        have e39 : ρ (.tmp 39) = .bool F := r39
        clear r39
        refine under_none rfl ?_
        simp [execOp, e39, go_sem, softUpon, Fact.is, Below.refl]
      case fin =>
        intro a w5 hb hd hsz hk
        have ea := act_puts hd hsz rfl hk
        have k34 : a.tmps.getD 34 undef = .slice (some ad) mn c1 := hk 34
        have k35 : a.tmps.getD 35 undef = .int .i64 (i : Int) := hk 35
        have k36 : a.tmps.getD 36 undef = .pointer (some (Addr.add ad (i * 13))) := hk 36
        have k37 : a.tmps.getD 37 undef = .agg X1 := hk 37
        have k38 : a.tmps.getD 38 undef = .agg X2 := hk 38
        have k39 : a.tmps.getD 39 undef = .bool F := hk 39
        have k40 : a.tmps.getD 40 undef = .bool (!F) := hk 40
        clear hk hd hsz
        simp only [List.map_cons, List.map_nil, List.foldl_cons, List.foldl_nil, k34, k35, k36, k37, k38, k39, k40] at ea
        clear k34 k35 k36 k37 k38 k39 k40
        simp only [Act.put, List.setIfInBounds_toArray, List.set_cons_succ, List.set_cons_zero] at ea
        subst ea
        have dV := hbd.trans (hb.mono (by simp))
        clear hb hbd LX LA HFS
        have HB5 := Lib.hid (cr.trans (dV.mono cr.size))
        clear dV cr HBR
        rcases F with _ | _
        · go_wp2
          go_roundw
          case rel => exact ⟨i + 1, k, m, by go_num, rfl, rfl, by omega, by omega, hkm, by rw [HMT.out]; rfl, by rw [HRT.out, if_neg (by simp), HKL.out], HB5.out⟩
          case measure => simp [intOf]; omega
        · by_cases hq : (m : Int) < lim
          · have HH := Lib.hid (HRH.out rfl hq)
            have hkn : k < rn := by obtain ⟨h, -⟩ := HH.out; rw [HKL.out, HRD.out, HRN.out] at h; exact h
            have hkR : k < R.length := by rw [HRN.out]; exact hkn
            have hRk : R[k] = x.e.id := by
              obtain ⟨h, e⟩ := HH.out
              have h2 := HKL.out
              have h3 := HRD.out
              subst h3
              simp only [h2] at e
              exact e
            obtain ⟨rd, rfl, hrdb, hcr⟩ := at_num HL2.out k hkR
            have x0 := hcr w5 HB5.out
            rw [hRk] at x0
            have y0 := HY0.out w5 HB5.out
            have t1 : decide ((k : Int) < (rn : Int)) = true := decide_eq_true (by omega)
            have HRN2 := Lib.hid (show (run (M.take (i + 1)) qa).length = k + 1 by
              have h1 := HMT.out
              rw [run_len, h1, HLIM.out]
              have h2 := HKL.out
              rw [run_len, HML.out, HLIM.out] at h2
              simp only [if_true]
              omega)
            generalize x.e.id = xid at *
            clear hcr hRk hkR HH HRH HRF HRT
            generalize ad.add (i * 13) = q at *
            go_wp2
            go_quiet (fail)
            go_wp2
            go_roundw
            case rel => exact ⟨i + 1, k + 1, m + 1, by go_num, by go_num, by go_num, by omega, by omega, by omega, by rw [HMT.out]; rfl, HRN2.out, below_many HB5.out _⟩
            case measure => simp [intOf]; omega
          · obtain ⟨hf1, hf2⟩ := HRF.out (by omega)
            rw [HKL.out, HRD.out, HRN.out] at hf1
            rw [HKL.out] at hf2
            have t1 : decide (k < rn) = false := decide_eq_false (by omega)
            have t2 : decide ((k : Int) < lim) = false := decide_eq_false (by omega)
            have a6 : ∀ n, (w5.drewN n).cell? ⟨B, 6, none⟩ = some (.int .i64 lim) := fun n => by
              obtain ⟨-, -, -, -, -, -, a6⟩ := (HBX4.out.below (below_many HB5.out n)).all
              rw [HLIM.out] at a6
              exact a6
            have HRN2 := Lib.hid (show (run (M.take (i + 1)) qa).length = k by rw [HRT.out, if_neg (fun h => by have := h.2; omega), HKL.out])
            clear hf1 hf2 HRH HRF HRT
            go_wp2
            go_quiet (fail)
            go_wp2
            go_roundw
            case rel => exact ⟨i + 1, k, m + 1, by go_num, by go_num, rfl, by omega, by omega, by omega, by rw [HMT.out]; rfl, HRN2.out, below_many HB5.out _⟩
            case measure => simp [intOf]; omega
    · obtain rfl : i = mn := by omega
      rw [List.take_of_length_le (by rw [HMN.out]; omega)] at HML HKL
      obtain rfl : k = rn := by rw [← HKL.out, HRD.out, HRN.out]
      have HE5 := Lib.hid (HE4.out.below HBR.out)
      have HBX5 := HBX4.out.below HBR.out
      have HB5 := Lib.hid (HB4.out.trans (HBR.out.mono HB4.out.size))
      have hmo : more M qa = decide (0 < lim ∧ lim < (m : Int)) := by unfold more; rw [HML.out, HLIM.out]
      have hrm : k = min lim.toNat m := by rw [← HKL.out, run_len, HML.out, HLIM.out]
      have hld := run_loadAsk wr B qa HBX5
      have hnx := HOK.out.next A1 i c1 us qa wr HE5.out
      rw [HUS.out, hmo] at hnx
      unfold askA at hld
      have HLD := Lib.hid hld
      have HNX := Lib.hid hnx
      have HBX6 := Lib.hid HBX5
      have HRM := Lib.hid hrm
      clear hld hnx hmo hrm HBX5 hlt
      unfold askA at HNX
      go_wp2_with (refine wpList_loadW rfl 31 _ rfl _ _ rfl HLD.out ?_)
      refine HNX.out.mono ?_
      rintro e w6 ⟨rfl, d6⟩
      have HB6 := Lib.hid (HB5.out.trans (d6.mono HB5.out.size))
      obtain ⟨-, -, -, -, -, -, a6⟩ := (HBX6.out.below d6).all
      rw [HLIM.out] at a6
      have hol := (HBX6.out.below d6).lt
      have HNB := Lib.hid (fun (o : Obj) => HB6.out.alloc HB6.out.size o)
      clear d6 HNX HLD HBX6 HE5 HB5 HE4 HBX4 HB4 HBR HL2
      have he : ((k : Int) == min (m : Int) (max lim 0)) = true := by rw [beq_iff_eq]; have := HRM.out; omega
      by_cases hl0 : 0 < lim
      · have t1 : decide (0 < lim) = true := decide_eq_true hl0
        obtain ⟨T, hT⟩ : ∃ T, decide (lim < (m : Int)) = T := ⟨_, rfl⟩
        have hT2 : decide (0 < lim ∧ lim < (m : Int)) = T := by rw [← hT]; congr 1; apply propext; exact ⟨fun h => h.2, fun h => ⟨hl0, h⟩⟩
        rw [hT2]
        clear hT2
        go_wp2
        all_goals first
          | (go_ret; exact ⟨rfl, HNB.out _⟩)
          | (exfalso; rw [beq_iff_eq] at he; omega)
          | (obtain rfl : T = true := by rw [← hT]; exact decide_eq_true (by omega)
             go_ret; exact ⟨rfl, HNB.out _⟩)
          | (obtain rfl : T = false := by rw [← hT]; exact decide_eq_false (by omega)
             go_ret; exact ⟨rfl, HNB.out _⟩)
      · have t1 : decide (0 < lim) = false := decide_eq_false hl0
        have hT2 : decide (0 < lim ∧ lim < (m : Int)) = false := decide_eq_false (fun h => hl0 h.1)
        rw [hT2]
        clear hT2
        go_wp2
        all_goals first
          | (go_ret; exact ⟨rfl, HNB.out _⟩)
          | (exfalso; rw [beq_iff_eq] at he; omega)

theorem walk (w : World) (A : Option Addr) (cap : Nat) (l : List Ent) (hl : l.length ≤ cap) (hm : cap ≤ maxLen) (hA : Lies w A (flatEn l)) (hQ : ∀ u ∈ l, EntIn w u) (qa : Qy.A) (hK : AskIn qa) :
    Calls Try.prog 5 #[.slice A l.length cap, .agg (askA qa)] w fun e w' => e = .returned (.bool true) ∧ Below w.heap.size w w' :=
  walkN queryOk w A l.length cap l qa rfl hl hm hA hQ hK


set_option maxRecDepth 100000 in
theorem lifted (os : Os) (started : os.Started) (H : Type) (enc : TypeId × Value → H) :
    ReturnsInHanded {} Try.checked os 5 .any (Rows.queryFilterSpec.pre6 enc Try.prog Try.f5 Rows.queryFilterRow.domain false) (Rows.queryFilterSpec.post enc Try.prog Try.f5 false true false false) := by
  refine returnsInHanded_of_change (C := Try.checked) own started (by kernel_rfl) Try.func5
    (ChangeSpec.witness6 (enc := enc) (C := Try.checked) false ⟨#[], #[.slice none 0 0, .agg #[.string .empty, .int .i64 0, .int .i64 0, .int .i64 0, .int .i64 0, .int .i64 0, .int .i64 0]], []⟩ 8 (by kernel_rfl) (by kernel_rfl) (by kernel_rfl) (by kernel_rfl)) ?_
  intro W base args ds gs before hval0 hW hcnd _
  have hval : ∀ (j : Nat) t v, Try.f5.params[j]? = some t → args[j]? = some v → Value.okWide Try.prog W .any base t v := hval0
  have hfin := fun W' => law_post (enc := enc) (P := Try.prog) (f := Try.f5) (s := Rows.queryFilterSpec) (tb := 4) (W := W) (W' := W') (args := args) (ds := ds) (gs := gs) (before := before) laidOut rfl (by kernel_rfl) Try.underlying4 (by kernel_rfl) (fun xs h => by rw [Try.params5] at h; match xs, h with | [_, _], _ => rfl) hW
  have hlt : ∀ x ∈ before, x.block < W.heap.size := fun x hx => hW.lt x hx
  obtain ⟨p, q, hA0, hV, rfl, hfz, hnd⟩ := hW
  have hA : DataW.TrodAll enc Try.prog W 0 (fun _ => true) true Try.f5.params.toList args.toList ds p := hA0
  rw [Try.params5] at hA hval
  obtain ⟨v0, vs0, d0, ds0, p0, q0, hargs, rfl, rfl, h0, r0⟩ := trodAll_cons hA
  obtain ⟨v1, vs1, d1, ds1, p1, q1, rfl, rfl, rfl, h1, r1⟩ := trodAll_cons r0
  obtain ⟨rfl, rfl, rfl⟩ := trodAll_nil r1
  obtain rfl : args = #[v0, v1] := by cases args; simp_all
  obtain ⟨A0, cap0, l0, rfl, hl0, hm0, hB0, hQ0⟩ := open_ents (hval 0 22 v0 rfl rfl) h0 (fun x hx => hlt x (by simp [hx]))
  obtain ⟨q1, rfl, hK1⟩ := open_ask (hval 1 31 v1 rfl rfl) h1
  refine (walk W A0 cap0 l0 hl0 hm0 hB0 hQ0 q1 hK1).mono fun e W' ⟨he, hg⟩ => ?_
  subst he
  exact ⟨_, rfl, hfin W' hg⟩

theorem proved : Rows.QueryFilterSaid :=
  OpenClaim.holds_of_wide 5 Try.f5 rfl rfl rfl rfl rfl rfl rfl ⟨rfl, rfl, rfl, rfl, rfl⟩ rfl rfl rfl rfl rfl (by kernel_rfl) Try.func5 (by kernel_rfl)
    (of_decide_eq_true (by kernel_rfl)) (by unfold Func.isWrapper; first | (rw [if_pos (by decide +kernel)]; kernel_rfl) | (rw [if_neg (by decide +kernel)]; exact ⟨rfl, rfl⟩))
    (fun os started H enc _ => lifted os started H enc)
#print axioms proved
end Go.Proofs.Ytcoedohfggeaiaa.queryFilter
