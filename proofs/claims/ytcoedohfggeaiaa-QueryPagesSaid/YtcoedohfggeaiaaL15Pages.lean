/-
  P15.2, QueryPages: for all entries, any Ask and any pages' length the law returns true: what is told page by page is what is told at once. No condition.
-/
import Derived.Test.YtcoedohfggeaiaaHdQ
import Derived.Test.YtcoedohfggeaiaaQyP
import Derived.BigRegion
import Derived.BigQuiet
import Derived.Deep.CutRange
namespace Go.Proofs.Ytcoedohfggeaiaa.queryPages
open Go.ChangeShapes Go.WideShapes Go.ChangeAt Go.RowKit Go.Maps En Qy
set_option maxRecDepth 100000

theorem nums_one15 (l : List Int) : ∀ u ∈ nums l, u.oneCell' = true := by
  intro u hu
  obtain ⟨s, _, rfl⟩ := List.mem_map.1 hu
  rfl
set_option maxHeartbeats 16000000 in
theorem walkN (hOK : QueryOk) (w : World) (A : Option Addr) (n cap : Nat) (l : List Ent) (qa : Qy.A) (lt : Int) (hn : l.length = n) (hl : n ≤ cap) (hm : cap ≤ maxLen) (hA : Lies w A (flatEn l)) (hQ : ∀ u ∈ l, EntIn w u) (hK : AskIn qa) (hlt : 0 ≤ lt ∧ lt ≤ 255) :
    Calls Try.prog 4 #[.slice A n cap, .agg (askA qa), .int .u8 lt] w fun e w' => e = .returned (.bool true) ∧ Below w.heap.size w w' := by
  have hb0 : Below w.heap.size w (w.alloc (.cells (askA qa) 31)) := (Below.refl _ _).alloc (Nat.le_refl _) _
  have hq0 := BoxQ.new w qa
  obtain ⟨W0, hW0⟩ : ∃ W0, w.alloc (.cells (askA qa) 31) = W0 := ⟨_, rfl⟩
  have hz0 : W0.heap.size = w.heap.size + 1 := by rw [← hW0]; simp
  rw [hW0] at hb0 hq0
  have HOK := Lib.hid hOK
  have HN := Lib.hid hn
  have HNM := Lib.hid (And.intro hl hm)
  have HA0 := Lib.hid (hA.below hb0)
  have HQ0 := Lib.hid (fun u hu => (hQ u hu).below hb0)
  have HB0 := Lib.hid hb0
  have HK := Lib.hid hK
  obtain ⟨B, hB⟩ : ∃ B, w.heap.size = B := ⟨_, rfl⟩
  rw [hB] at hq0 hz0
  have HBX0 := Lib.hid hq0
  have HBQ := Lib.hid hB
  unfold askA at hW0 ⊢
  have HW0 := Lib.hid hW0
  clear hOK hn hl hm hA hQ hK hb0 hq0 hW0 hB hz0
  go_enter Try.func4, Try.ntmps4
  go_wp2_with fail
  rw [HW0.out, HBQ.out]
  refine (head15_any HOK.out W0).mono ?_
  rintro e w1 ⟨rfl, d1⟩
  have HB1 := Lib.hid (HB0.out.trans (d1.mono HB0.out.size))
  have HBX1 := Lib.hid (HBX0.out.below d1)
  have HA1 := Lib.hid (HA0.out.below d1)
  have HQ1 := Lib.hid (fun u hu => (HQ0.out u hu).below d1)
  clear d1 HB0 HBX0 HA0 HQ0 HW0
  go_wp2_with fail
  refine (great15_any A n cap l w1 HN.out (Nat.le_trans HNM.out.1 HNM.out.2) HA1.out HQ1.out).mono ?_
  rintro e w2 ⟨r, rfl, hr, rfl⟩
  rcases r with _ | _
  rotate_left
  · have HB := HB1.out
    clear hr
    go_wp2
    go_ret
    exact ⟨rfl, HB⟩
  have HR := Lib.hid (hr rfl)
  clear hr
  obtain ⟨q0, -⟩ := HBX1.out.all
  obtain ⟨zs, hzs⟩ : ∃ zs : Nat, (str qa.sv).size = zs := ⟨_, rfl⟩
  by_cases h9 : 900 < zs
  · have t9 : decide ((900 : Int) < ((str qa.sv).size : Int)) = true := by rw [hzs]; exact decide_eq_true (by omega)
    have HB := HB1.out
    clear hzs h9
    go_wp2
    go_ret
    exact ⟨rfl, HB⟩
  have t9 : decide ((900 : Int) < ((str qa.sv).size : Int)) = false := by rw [hzs]; exact decide_eq_false (by omega)
  clear hzs h9
  have HEn := Lib.hid (show Ents w2 A n cap l from ⟨HN.out, by have := HR.out.1; omega, HNM.out.1, HNM.out.2, HA1.out, fun t ht => (HQ1.out t ht).svs (HR.out.2 t ht)⟩)
  have HORD := Lib.hid (ordered15_any A n cap l w2 HEn.out HR.out.1)
  have HOM := Lib.hid (putsQ_ok (l.map Ent.e))
  have hmn := putsQ_len (l.map Ent.e)
  rw [List.length_map, HN.out] at hmn
  have hmn3 : (putsQ (l.map Ent.e)).length ≤ 300 := Nat.le_trans hmn HR.out.1
  obtain ⟨M, hM⟩ : ∃ M, putsQ (l.map Ent.e) = M := ⟨_, rfl⟩
  rw [hM] at HORD HOM hmn3
  obtain ⟨mn, hmn2⟩ : ∃ mn, M.length = mn := ⟨_, rfl⟩
  rw [hmn2] at HORD hmn3
  have HMN := Lib.hid hmn2
  clear hM hmn hmn2 HEn HA1 HQ1 HR
  go_wp2_with fail
  clear q0 t9
  refine HORD.out.mono ?_
  rintro e w3 ⟨A1, c1, us, rfl, hE, hus, hfr, d3⟩
  obtain ⟨zb, hzb⟩ : ∃ zb, w2.heap.size = zb := ⟨_, rfl⟩
  rw [hzb] at hfr
  have HFR := Lib.hid hfr
  have HBZ := Lib.hid (show B < zb by have := HBX1.out.lt; omega)
  clear hfr hzb
  have HE3 := Lib.hid hE
  have HUS := Lib.hid hus
  have HB3 := Lib.hid (HB1.out.trans (d3.mono HB1.out.size))
  have HBX3 := Lib.hid (HBX1.out.below d3)
  have hc1 : c1 ≤ 2 ^ 63 - 1 := by have := hE.cap; unfold maxLen at this; exact this
  have hmc : mn ≤ c1 := hE.le
  clear hE hus d3 HB1 HBX1 HORD HN HNM
  obtain ⟨r0, r1, r2, r3, r4, r5, r6⟩ := HBX3.out.all
  have m6 := HBX3.out.frozen 6
  have hb4 : BoxQ (w3.setCell ⟨B, 6, none⟩ (.int .i64 1000)) B { qa with lim := 1000 } := by
    have := HBX3.out.set 6 (.int .i64 1000)
    have e : (askA qa).setIfInBounds 6 (.int .i64 1000) = askA { qa with lim := 1000 } := by
      unfold askA
      simp only [List.setIfInBounds_toArray, List.set_cons_succ, List.set_cons_zero]
    show Blk _ B (askA { qa with lim := 1000 }) _
    rw [← e]
    exact this
  have hk4 : Kept [B] w3 (w3.setCell ⟨B, 6, none⟩ (.int .i64 1000)) := (Kept.refl [B] w3).setCell (by simp) _
  obtain ⟨w4, hw4⟩ : ∃ w4, w3.setCell ⟨B, 6, none⟩ (.int .i64 1000) = w4 := ⟨_, rfl⟩
  rw [hw4] at hb4 hk4
  have HW4 := Lib.hid hw4
  have HBX4 := Lib.hid hb4
  have HB4 := Lib.hid (Kept.belowQ HB3.out hk4 (by have := HBQ.out; have := HB3.out.size; simp; omega))
  have HE4 := Lib.hid (HE3.out.keptB hk4 HFR.out (by have := HBZ.out; simpa using this))
  have hld := run_loadAsk w4 B _ hb4
  have hrun := HOK.out.run A1 mn c1 us { qa with lim := 1000 } w4 HE4.out
  rw [HUS.out] at hrun
  obtain ⟨R, hR⟩ : ∃ R, run M { qa with lim := 1000 } = R := ⟨_, rfl⟩
  rw [hR] at hrun
  have HRA := Lib.hid (show (those M { qa with lim := 1000 }).map E.id = R by rw [← hR]; exact (run_all M _ (by rw [HMN.out]; simp only; omega)).symm)
  obtain ⟨rn, hrn⟩ : ∃ rn, R.length = rn := ⟨_, rfl⟩
  have hrn3 : rn ≤ 300 := by rw [← hrn, ← hR]; have := run_le M { qa with lim := 1000 }; have := HMN.out; omega
  rw [hrn] at hrun
  have HRN := Lib.hid hrn
  unfold askA at hld hrun
  simp only at hld hrun
  have HLD0 := Lib.hid hld
  have HRUN := Lib.hid hrun
  clear hw4 hb4 hk4 hld hrun hR hrn
  go_upto_region 6 with fail
  clear r0 r1 r2 r3 r4 r5 r6 m6
  rw [HW4.out]
  go_wp2_with (refine wpList_loadW rfl 31 _ rfl _ _ rfl HLD0.out ?_)
  refine HRUN.out.mono ?_
  rintro e w5 ⟨v, rfl, ho, d5⟩
  obtain ⟨A2, c2, rfl, h21, h22, -⟩ := row_form ho
  have HL5 := Lib.hid (show Lies w5 A2 (nums R) from lies_row HRN.out ho)
  have HE5 := Lib.hid (HE4.out.below d5)
  have HBX5 := Lib.hid (HBX4.out.below d5)
  have HB5 := Lib.hid (HB4.out.trans (d5.mono HB4.out.size))
  clear ho d5 HRUN HLD0 HW4 HE4 HB4 HBX4 HE3 HB3 HBX3 HFR
  have hld := run_loadAsk w5 B _ HBX5.out
  unfold askA at hld
  simp only at hld
  have HLD0 := Lib.hid hld
  clear hld
  go_upto_region 9 with (refine wpList_loadW rfl 31 _ rfl _ _ rfl HLD0.out ?_)
  obtain ⟨Lm, hLm⟩ : ∃ Lm : Nat, 1 + lt = (Lm : Int) := ⟨(1 + lt).toNat, by omega⟩
  have hL1 : 1 ≤ Lm ∧ Lm ≤ 256 := by omega
  have hb6 : Below w5.heap.size w5 (w5.alloc (.cells (askA { qa with lim := (Lm : Int) }) 31)) := (Below.refl _ _).alloc (Nat.le_refl _) _
  have hq6 := BoxQ.new w5 { qa with lim := (Lm : Int) }
  have hz6 : (w5.alloc (.cells (askA { qa with lim := (Lm : Int) }) 31)).heap.size = w5.heap.size + 1 := by simp
  obtain ⟨W6, hW6⟩ : ∃ W6, w5.alloc (.cells (askA { qa with lim := (Lm : Int) }) 31) = W6 := ⟨_, rfl⟩
  rw [hW6] at hb6 hq6 hz6
  unfold askA at hW6
  simp only at hW6
  rw [hLm, hW6]
  obtain ⟨D, hD⟩ : ∃ D, w5.heap.size = D := ⟨_, rfl⟩
  rw [hD] at hq6 ⊢
  have HDQ := Lib.hid hD
  have HB6 := Lib.hid hb6
  have HBD6 := Lib.hid hq6
  obtain ⟨base, hbase⟩ : ∃ b, W6.heap.size = b := ⟨_, rfl⟩
  have HBS := Lib.hid hbase
  have HDB := Lib.hid (show D + 1 = base by rw [← hD, ← hbase, hz6])
  have HR0 := Lib.hid (show (those M { qa with lim := (Lm : Int) }).map E.id = R from HRA.out)
  clear hLm hW6 hb6 hq6 hz6 hD hbase hlt HLD0 HRA
  go_wp2
  go_loopw [11, 12] (fun s11 s12 wr => ∃ (i m co : Nat) (Ao : Option Addr) (P : List Int) (q : Qy.A), s12 = .int .i64 (i : Int) ∧ s11 = .slice Ao m co ∧ i ≤ m ∧ (i = 0 ∨ m < rn) ∧ P.length = m ∧ m ≤ rn ∧ P ++ (those M q).map E.id = R ∧ q.lim = (Lm : Int) ∧ wr.ownsRow base 2 1 (.slice Ao m co) m (nums P) ∧ BoxQ wr D q ∧ base ≤ wr.heap.size ∧ Below w5.heap.size w5 wr) (fun _ s12 _ => mn + 1 - (intOf s12).toNat)
  case atStart => exact ⟨0, 0, 0, none, [], _, rfl, rfl, Nat.le_refl _, .inl rfl, rfl, Nat.zero_le _, HR0.out, rfl, World.ownsRow_nil _ _ _ _, HBD6.out, by rw [HBS.out]; exact Nat.le_refl _, HB6.out⟩
  case round =>
    obtain ⟨i, m, co, Ao, P, q, rfl, rfl, him, hir, hP, hmr, hPR, hql, hrow, hbd, hbs, hbr⟩ := hrel
    have hrm : rn ≤ mn := by rw [← HRN.out, ← HR0.out, List.length_map, ← HMN.out]; exact those_le M _
    have hin : i ≤ mn := by omega
    have HP := Lib.hid hP
    have HPR := Lib.hid hPR
    have HQL := Lib.hid hql
    have HROW := Lib.hid hrow
    have HBD := Lib.hid hbd
    have HBSZ := Lib.hid hbs
    have HBR := Lib.hid hbr
    have hld := run_loadAsk wr D q hbd
    have hrun := HOK.out.run A1 mn c1 us q wr (HE5.out.below hbr)
    rw [HUS.out] at hrun
    have htl : (those M q).length = rn - m := by
      have := congrArg List.length hPR
      rw [List.length_append, List.length_map, HRN.out, hP] at this; omega
    have hxl := run_len M q
    rw [hql, htl] at hxl
    obtain ⟨X, hX⟩ : ∃ X, run M q = X := ⟨_, rfl⟩
    rw [hX] at hrun hxl
    obtain ⟨xn, hxn⟩ : ∃ xn, X.length = xn := ⟨_, rfl⟩
    rw [hxn] at hrun hxl
    have hxm : xn ≤ Lm ∧ m + xn ≤ rn := by omega
    obtain ⟨mo, hmo⟩ : ∃ mo, more M q = mo := ⟨_, rfl⟩
    obtain ⟨N, hN⟩ : ∃ N, next M q = N := ⟨_, rfl⟩
    have HLAST := Lib.hid (show mo = false → P ++ X = R from fun h => by
      rw [← hPR, last_run (by rw [hmo, h]) (by rw [hql]; omega), hX])
    have HMORE := Lib.hid (show mo = true → xn = Lm ∧ m + xn < rn ∧ (P ++ X) ++ (those M N).map E.id = R ∧ N.lim = (Lm : Int) from fun h => by
      rw [h] at hmo
      obtain ⟨h1, h2⟩ := next_run HOM.out.so hmo
      obtain ⟨h3, h4⟩ := next_those HOM.out.so hmo
      have h5 := hmo
      unfold more at h5
      rw [decide_eq_true_eq, hql, htl] at h5
      rw [hX, hN] at h1
      rw [hX, hxn, hql] at h2
      rw [hN, hql] at h4
      refine ⟨by omega, by omega, ?_, h4⟩
      rw [List.append_assoc, ← h1, hPR])
    have HXN := Lib.hid hxn
    have HNX0 := Lib.hid (show next M q = N ∧ more M q = mo from ⟨hN, hmo⟩)
    unfold askA at hld hrun
    have HLD := Lib.hid hld
    have HRUN := Lib.hid hrun
    clear hP hPR hql hrow hbd hbs hbr hld hrun htl hxl hX hxn hmo hN
    go_wp2_with (refine wpList_loadW rfl 31 _ rfl _ _ rfl HLD.out ?_)
    refine HRUN.out.mono ?_
    rintro e w7 ⟨v, rfl, ho, d7⟩
    obtain ⟨A3, c3, rfl, h31, h32, -⟩ := row_form ho
    have HL7 := Lib.hid (show Lies w7 A3 (nums X) from lies_row HXN.out ho)
    unfold maxLen at h32
    have HROW7 := Lib.hid (row_keep HROW.out d7)
    have HBD7 := Lib.hid (HBD.out.below d7)
    have HBR7 := Lib.hid (HBR.out.trans (d7.mono HBR.out.size))
    have HBS7 := Lib.hid (Nat.le_trans HBSZ.out d7.size)
    obtain ⟨-, -, -, -, -, -, l6⟩ := HBD7.out.all
    rw [HQL.out] at l6
    have t1 : decide (Lm < xn) = false := decide_eq_false (by omega)
    have HXL := Lib.hid (show (nums X).length = xn * 1 by rw [nums_length, HXN.out, Nat.mul_one])
    have HXO := Lib.hid (nums_one15 X)
    have HPX := Lib.hid (show nums P ++ nums X = nums (P ++ X) from (nums_append14 P X).symm)
    have HPL := Lib.hid (show (P ++ X).length = m + xn by rw [List.length_append, HP.out, HXN.out])
    obtain ⟨i0, hi, hz0, hz1, hz2⟩ := info_parts infoL
    generalize nums P = F0 at *
    generalize nums X = F1 at *
    clear ho d7 HRUN HLD HROW HBD HBR HBSZ
    go_wp2_with (at_builtin; refine wpList_appK rfl _ _ 38 rfl base 2 i0 (.int .i64 0) 1 8 Try.underlying38 hi hz0 hz1 hz2 rfl (by decide) _ m F0 rfl HROW7.out A3 xn c3 F1 rfl HXL.out HL7.out HXO.out ?b4 ?b5 HBS7.out ?b7)
    case b4 => unfold maxLen; omega
    case b5 => omega
    case b7 =>
      intro v8 w8 hown8 hg8 _
      rw [HPX.out] at hown8
      have hog : ∀ g, (Value.slice Ao m co).ownBlock = some g → base ≤ g := fun g e => by
        rcases HROW7.out.2 with ⟨e2, -⟩ | ⟨g', cap, cur, e2, hbg, -⟩
        · rw [e2] at e; cases e
        · rw [e2] at e; injection e with e; rw [← e]; exact hbg
      have hk8 := grown_kept hg8
      have HBD8 := Lib.hid (show BoxQ w8 D q from hk8.blk HBD7.out (fun hm => by
        have := hog D (by simpa using hm)
        have := HDB.out; omega))
      have HBR8 := Lib.hid (Kept.belowQ HBR7.out hk8 ⟨HBR7.out.size, fun k hk => by
        have := hog k (by simpa using hk)
        have := HDB.out; have := HDQ.out; omega⟩)
      have HBS8 := Lib.hid (Nat.le_trans HBS7.out hg8.size)
      obtain ⟨A8, c8, rfl, h81, h82, -⟩ := row_form hown8
      have HO8 := Lib.hid hown8
      have hld := run_loadAsk w8 D q HBD8.out
      have hnx := HOK.out.next A1 mn c1 us q w8 (HE5.out.below HBR8.out)
      rw [HUS.out, HNX0.out.1, HNX0.out.2] at hnx
      unfold askA at hld hnx
      have HLD8 := Lib.hid hld
      have HNX8 := Lib.hid hnx
      unfold maxLen at h82
      clear hown8 hg8 hog hk8 hld hnx HROW7 HBD7 HBR7 HBS7 HL7 HXL HXO HPX l6 t1
      go_wp2_with (refine wpList_loadW rfl 31 _ rfl _ _ rfl HLD8.out ?_)
      refine HNX8.out.mono ?_
      rintro e w9 ⟨rfl, d9⟩
      have hb10 : Below w9.heap.size w9 (w9.alloc (.cells (askA N) 31)) := (Below.refl _ _).alloc (Nat.le_refl _) _
      have hq10 := BoxQ.new w9 N
      obtain ⟨W10, hW10⟩ : ∃ W10, w9.alloc (.cells (askA N) 31) = W10 := ⟨_, rfl⟩
      rw [hW10] at hb10 hq10
      have d10 := d9.trans (hb10.mono d9.size)
      have HRW := Lib.hid (row_keep HO8.out d10)
      have HD10 := Lib.hid (HBD8.out.below d10)
      have HBR10 := Lib.hid (HBR8.out.trans (d10.mono HBR8.out.size))
      have HBS10 := Lib.hid (Nat.le_trans HBS8.out d10.size)
      have HN10 := Lib.hid hq10
      unfold askA at hW10
      have HW10 := Lib.hid hW10
      obtain ⟨pn, hpn⟩ : ∃ p, w9.heap.size = p := ⟨_, rfl⟩
      rw [hpn] at HN10
      have HPN := Lib.hid hpn
      clear d9 hb10 hq10 hW10 d10 hpn HLD8 HNX8 HO8 HBD8 HBR8 HBS8
      go_upto_region 18 with fail
      rw [HW10.out, HPN.out]
      rcases mo with _ | _
      · have hPX := HLAST.out rfl
        have HSI := Lib.hid (sameIds_any A8 A2 (m + xn) rn c8 c2 (P ++ X) R W10 HPL.out HRN.out h81 h21 h82 h22 (lies_row HPL.out HRW.out) (HL5.out.below HBR10.out))
        rw [hPX, show decide (R = R) = true by simp] at HSI
        have HBE := Lib.hid (HB5.out.trans (HBR10.out.mono HB5.out.size))
        clear hPX HRW HD10 HN10 HW10
        go_wp2_with fail
        refine HSI.out.mono ?_
        rintro e w11 ⟨rfl, d11⟩
        have HB11 := Lib.hid (HBE.out.trans (d11.mono HBE.out.size))
        clear d11 HSI
        go_wp2
        go_ret
        exact ⟨rfl, HB11.out⟩
      · obtain ⟨hm1, hm2, hm3, hm4⟩ := HMORE.out rfl
        have HM3 := Lib.hid hm3
        have HM4 := Lib.hid hm4
        clear hm3 hm4
        subst hm1
        obtain ⟨e0, e1, e2, e3, e4, e5, e6⟩ := HD10.out.all
        rw [HQL.out] at e6
        obtain ⟨f0, f1, f2, f3, f4, f5, f6⟩ := HD10.out.melt
        have hld := run_loadAsk W10 pn N HN10.out
        have HOV := Lib.hid (HD10.out.over N)
        have hk11 := kept7 W10 D N
        have HROW11 := Lib.hid (own_kept14 HRW.out hk11 (by have := HDB.out; simp; omega))
        have HBR11 := Lib.hid (Kept.belowQ HBR10.out hk11 (by have := HBR10.out.size; have := HDQ.out; simp; omega))
        have HBS11 := Lib.hid (Nat.le_trans HBS10.out hk11.size)
        unfold askA at hld
        have HLD10 := Lib.hid hld
        clear hld hk11 HRW HD10 HN10 HBR10 HBS10 HW10
        go_wp2_with (refine wpList_loadW rfl 31 _ rfl _ _ rfl HLD10.out ?_)
        go_roundw
        case rel => exact ⟨i + 1, m + xn, c8, A8, P ++ X, N, by go_num, rfl, by omega, .inr hm2, HPL.out, by omega, HM3.out, HM4.out, HROW11.out, HOV.out, HBS11.out, HBR11.out⟩
        case measure => simp [intOf]; omega

theorem walk (w : World) (A : Option Addr) (cap : Nat) (l : List Ent) (hl : l.length ≤ cap) (hm : cap ≤ maxLen) (hA : Lies w A (flatEn l)) (hQ : ∀ u ∈ l, EntIn w u) (qa : Qy.A) (hK : AskIn qa) (lt : Int) (hlt : 0 ≤ lt ∧ lt ≤ 255) :
    Calls Try.prog 4 #[.slice A l.length cap, .agg (askA qa), .int .u8 lt] w fun e w' => e = .returned (.bool true) ∧ Below w.heap.size w w' :=
  walkN queryOk w A l.length cap l qa lt rfl hl hm hA hQ hK hlt


set_option maxRecDepth 100000 in
theorem lifted (os : Os) (started : os.Started) (H : Type) (enc : TypeId × Value → H) :
    ReturnsInHanded {} Try.checked os 4 .any (Rows.queryPagesSpec.pre6 enc Try.prog Try.f4 Rows.queryPagesRow.domain false) (Rows.queryPagesSpec.post enc Try.prog Try.f4 false true false false) := by
  refine returnsInHanded_of_change (C := Try.checked) own started (by kernel_rfl) Try.func4
    (ChangeSpec.witness6 (enc := enc) (C := Try.checked) false ⟨#[], #[.slice none 0 0, .agg #[.string .empty, .int .i64 0, .int .i64 0, .int .i64 0, .int .i64 0, .int .i64 0, .int .i64 0], .int .u8 0], []⟩ 8 (by kernel_rfl) (by kernel_rfl) (by kernel_rfl) (by kernel_rfl)) ?_
  intro W base args ds gs before hval0 hW hcnd _
  have hval : ∀ (j : Nat) t v, Try.f4.params[j]? = some t → args[j]? = some v → Value.okWide Try.prog W .any base t v := hval0
  have hfin := fun W' => law_post (enc := enc) (P := Try.prog) (f := Try.f4) (s := Rows.queryPagesSpec) (tb := 4) (W := W) (W' := W') (args := args) (ds := ds) (gs := gs) (before := before) laidOut rfl (by kernel_rfl) Try.underlying4 (by kernel_rfl) (fun xs h => by rw [Try.params4] at h; match xs, h with | [_, _, _], _ => rfl) hW
  have hlt : ∀ x ∈ before, x.block < W.heap.size := fun x hx => hW.lt x hx
  obtain ⟨p, q, hA0, hV, rfl, hfz, hnd⟩ := hW
  have hA : DataW.TrodAll enc Try.prog W 0 (fun _ => true) true Try.f4.params.toList args.toList ds p := hA0
  rw [Try.params4] at hA hval
  obtain ⟨v0, vs0, d0, ds0, p0, q0, hargs, rfl, rfl, h0, r0⟩ := trodAll_cons hA
  obtain ⟨v1, vs1, d1, ds1, p1, q1, rfl, rfl, rfl, h1, r1⟩ := trodAll_cons r0
  obtain ⟨v2, vs2, d2, ds2, p2, q2, rfl, rfl, rfl, h2, r2⟩ := trodAll_cons r1
  obtain ⟨rfl, rfl, rfl⟩ := trodAll_nil r2
  obtain rfl : args = #[v0, v1, v2] := by cases args; simp_all
  obtain ⟨A0, cap0, l0, rfl, hl0, hm0, hB0, hQ0⟩ := open_ents (hval 0 22 v0 rfl rfl) h0 (fun x hx => hlt x (by simp [hx]))
  obtain ⟨q1, rfl, hK1⟩ := open_ask (hval 1 31 v1 rfl rfl) h1
  obtain ⟨a2, rfl, rfl, rfl, w2⟩ := open_int Try.underlying5 (hval 2 5 v2 rfl rfl) h2
  refine (walk W A0 cap0 l0 hl0 hm0 hB0 hQ0 q1 hK1 a2 (bounds_u8 w2)).mono fun e W' ⟨he, hg⟩ => ?_
  subst he
  exact ⟨_, rfl, hfin W' hg⟩

theorem proved : Rows.QueryPagesSaid :=
  OpenClaim.holds_of_wide 4 Try.f4 rfl rfl rfl rfl rfl rfl rfl ⟨rfl, rfl, rfl, rfl, rfl⟩ rfl rfl rfl rfl rfl (by kernel_rfl) Try.func4 (by kernel_rfl)
    (of_decide_eq_true (by kernel_rfl)) (by unfold Func.isWrapper; first | (rw [if_pos (by decide +kernel)]; kernel_rfl) | (rw [if_neg (by decide +kernel)]; exact ⟨rfl, rfl⟩))
    (fun os started H enc _ => lifted os started H enc)
#print axioms proved
end Go.Proofs.Ytcoedohfggeaiaa.queryPages
