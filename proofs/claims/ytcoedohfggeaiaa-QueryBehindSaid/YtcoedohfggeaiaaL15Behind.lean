/-
  P15.2, QueryBehind: for all entries, any Ask and any place the law returns true: what is asked for behind one that is told is what is told behind it. No condition.
-/
import Derived.Test.YtcoedohfggeaiaaHdQ
import Derived.Test.YtcoedohfggeaiaaQyP
import Derived.BigRegion
import Derived.BigQuiet
import Derived.Deep.CutRange
namespace Go.Proofs.Ytcoedohfggeaiaa.queryBehind
open Go.ChangeShapes Go.WideShapes Go.ChangeAt Go.RowKit Go.Maps En Qy
set_option maxRecDepth 100000

theorem slice_lo15 (W : World) (ad : Addr) (n cap j : Nat) (h1 : j ≤ n) (h2 : n ≤ cap) (h3 : cap ≤ 9223372036854775807) : (Instr.sliceAt 38 (.slice (some ad) n cap) (some (.int .i64 (j : Int))) none none).run Try.prog W = .ok (.slice (some (if cap = j then ad else ad.add j)) (n - j) (cap - j)) W := by
  by_cases h : cap = j
  · subst h
    obtain rfl : n = cap := by omega
    go_simp
  · go_simp
theorem soft_drop15 {w : World} {ρ : Operand → Value} {o : Oper} {x y : Operand} {ad : Addr} {n cap j : Nat} {l L : List Int} (hx : ρ x = .slice (some ad) n cap) (hy : ρ y = .int .i64 (j : Int)) (hn : l.length = n) (h1 : j ≤ n) (h2 : n ≤ cap) (h3 : cap ≤ 9223372036854775807) (hA : Lies w (some ad) (nums l)) (hL : l.drop j = L) (ho : o.op = .slice 38 x (some y) none none) :
    softUpon Try.prog w (Fact.num15 L) ((execOp ρ o).run Try.prog w) := by
  subst hL
  have e : (execOp ρ o).run Try.prog w = .ok (.value (.slice (some (if cap = j then ad else ad.add j)) (n - j) (cap - j))) w := by
    simp [execOp, ho, hx, hy, slice_lo15 w ad n cap j h1 h2 h3]
  rw [e]
  refine ⟨⟨_, _, by rw [List.length_drop, hn], by rw [List.length_drop, hn]; omega, by unfold maxLen; omega, ?_⟩, Below.refl _ _⟩
  have := hA.drop (k := j) (cap := cap) (by rw [nums_length, hn]; exact h2)
  rw [show nums (l.drop j) = (nums l).drop j by simp [nums]]
  by_cases h : cap = j
  · subst h; simpa using this
  · simpa [h] using this
/-- the one that is at the k-th place, and what is told behind it -/
theorem behind_run {M : List E} (hM : Ok M) (q : Qy.A) (R : List Int) (hR : run M q = R) (hl : (M.length : Int) ≤ q.lim) (k : Nat) (hk : k < R.length) : ∃ e ∈ M, R[k] = e.id ∧ run M (q.behind e) = R.drop (k + 1) := by
  subst hR
  have h1 := run_all M q hl
  have hk2 : k < (those M q).length := by rw [h1, List.length_map] at hk; exact hk
  refine ⟨(those M q)[k], (List.mem_filter.1 (List.getElem_mem hk2)).1, by simp [h1], ?_⟩
  rw [run_all M _ (by exact hl), those_behind hM.so q k hk2, h1, List.map_drop]
set_option maxHeartbeats 16000000 in
theorem walkN (hOK : QueryOk) (w : World) (A : Option Addr) (n cap : Nat) (l : List Ent) (qa : Qy.A) (at_ : Int) (hn : l.length = n) (hl : n ≤ cap) (hm : cap ≤ maxLen) (hA : Lies w A (flatEn l)) (hQ : ∀ u ∈ l, EntIn w u) (hK : AskIn qa) (hat : 0 ≤ at_ ∧ at_ ≤ 255) :
    Calls Try.prog 8 #[.slice A n cap, .agg (askA qa), .int .u8 at_] w fun e w' => e = .returned (.bool true) ∧ Below w.heap.size w w' := by
  have hb0 : Below w.heap.size w (w.alloc (.cells (askA qa) 31)) := (Below.refl _ _).alloc (Nat.le_refl _) _
  have hq0 := BoxQ.new w qa
  obtain ⟨W0, hW0⟩ : ∃ W0, w.alloc (.cells (askA qa) 31) = W0 := ⟨_, rfl⟩
  have hz0 : W0.heap.size = w.heap.size + 1 := by rw [← hW0]; simp
  rw [hW0] at hb0 hq0
  have HOK := Lib.hid hOK
  have HN := Lib.hid hn
  have HNM := Lib.hid (And.intro hl hm)
  have HA0 := Lib.hid (hA.below hb0)
  have HQ0 := Lib.hid (fun u hu => (hQ u hu).below hb0)
  have HB0 := Lib.hid hb0
  have HK := Lib.hid hK
  obtain ⟨B, hB⟩ : ∃ B, w.heap.size = B := ⟨_, rfl⟩
  rw [hB] at hq0 hz0
  have HBX0 := Lib.hid hq0
  have HBQ := Lib.hid hB
  unfold askA at hW0 ⊢
  have HW0 := Lib.hid hW0
  clear hOK hn hl hm hA hQ hK hb0 hq0 hW0 hB hz0
  go_enter Try.func8, Try.ntmps8
  go_wp2_with fail
  rw [HW0.out, HBQ.out]
  refine (head15_any HOK.out W0).mono ?_
  rintro e w1 ⟨rfl, d1⟩
  have HB1 := Lib.hid (HB0.out.trans (d1.mono HB0.out.size))
  have HBX1 := Lib.hid (HBX0.out.below d1)
  have HA1 := Lib.hid (HA0.out.below d1)
  have HQ1 := Lib.hid (fun u hu => (HQ0.out u hu).below d1)
  clear d1 HB0 HBX0 HA0 HQ0 HW0
  go_wp2_with fail
  refine (great15_any A n cap l w1 HN.out (Nat.le_trans HNM.out.1 HNM.out.2) HA1.out HQ1.out).mono ?_
  rintro e w2 ⟨r, rfl, hr, rfl⟩
  rcases r with _ | _
  rotate_left
  · have HB := HB1.out
    clear hr
    go_wp2
    go_ret
    exact ⟨rfl, HB⟩
  have HR := Lib.hid (hr rfl)
  clear hr
  obtain ⟨q0, -⟩ := HBX1.out.all
  obtain ⟨zs, hzs⟩ : ∃ zs : Nat, (str qa.sv).size = zs := ⟨_, rfl⟩
  by_cases h9 : 900 < zs
  · have t9 : decide ((900 : Int) < ((str qa.sv).size : Int)) = true := by rw [hzs]; exact decide_eq_true (by omega)
    have HB := HB1.out
    clear hzs h9
    go_wp2
    go_ret
    exact ⟨rfl, HB⟩
  have t9 : decide ((900 : Int) < ((str qa.sv).size : Int)) = false := by rw [hzs]; exact decide_eq_false (by omega)
  clear hzs h9
  have HEn := Lib.hid (show Ents w2 A n cap l from ⟨HN.out, by have := HR.out.1; omega, HNM.out.1, HNM.out.2, HA1.out, fun t ht => (HQ1.out t ht).svs (HR.out.2 t ht)⟩)
  have HORD := Lib.hid (ordered15_any A n cap l w2 HEn.out HR.out.1)
  have HOM := Lib.hid (putsQ_ok (l.map Ent.e))
  have hmn := putsQ_len (l.map Ent.e)
  rw [List.length_map, HN.out] at hmn
  have hmn3 : (putsQ (l.map Ent.e)).length ≤ 300 := Nat.le_trans hmn HR.out.1
  obtain ⟨M, hM⟩ : ∃ M, putsQ (l.map Ent.e) = M := ⟨_, rfl⟩
  rw [hM] at HORD HOM hmn3
  obtain ⟨mn, hmn2⟩ : ∃ mn, M.length = mn := ⟨_, rfl⟩
  rw [hmn2] at HORD hmn3
  have HMN := Lib.hid hmn2
  clear hM hmn hmn2 HEn HA1 HQ1 HR
  go_wp2_with fail
  clear q0 t9
  refine HORD.out.mono ?_
  rintro e w3 ⟨A1, c1, us, rfl, hE, hus, hfr, d3⟩
  obtain ⟨zb, hzb⟩ : ∃ zb, w2.heap.size = zb := ⟨_, rfl⟩
  rw [hzb] at hfr
  have HFR := Lib.hid hfr
  have HBZ := Lib.hid (show B < zb by have := HBX1.out.lt; omega)
  clear hfr hzb
  have HE3 := Lib.hid hE
  have HUS := Lib.hid hus
  have HB3 := Lib.hid (HB1.out.trans (d3.mono HB1.out.size))
  have HBX3 := Lib.hid (HBX1.out.below d3)
  have hc1 : c1 ≤ 2 ^ 63 - 1 := by have := hE.cap; unfold maxLen at this; exact this
  have hmc : mn ≤ c1 := hE.le
  clear hE hus d3 HB1 HBX1 HORD HN HNM
  obtain ⟨r0, r1, r2, r3, r4, r5, r6⟩ := HBX3.out.all
  have m6 := HBX3.out.frozen 6
  have hb4 : BoxQ (w3.setCell ⟨B, 6, none⟩ (.int .i64 1000)) B { qa with lim := 1000 } := by
    have := HBX3.out.set 6 (.int .i64 1000)
    have e : (askA qa).setIfInBounds 6 (.int .i64 1000) = askA { qa with lim := 1000 } := by
      unfold askA
      simp only [List.setIfInBounds_toArray, List.set_cons_succ, List.set_cons_zero]
    show Blk _ B (askA { qa with lim := 1000 }) _
    rw [← e]
    exact this
  have hk4 : Kept [B] w3 (w3.setCell ⟨B, 6, none⟩ (.int .i64 1000)) := (Kept.refl [B] w3).setCell (by simp) _
  obtain ⟨w4, hw4⟩ : ∃ w4, w3.setCell ⟨B, 6, none⟩ (.int .i64 1000) = w4 := ⟨_, rfl⟩
  rw [hw4] at hb4 hk4
  have HW4 := Lib.hid hw4
  have HBX4 := Lib.hid hb4
  have HB4 := Lib.hid (Kept.belowQ HB3.out hk4 (by have := HBQ.out; have := HB3.out.size; simp; omega))
  have HE4 := Lib.hid (HE3.out.keptB hk4 HFR.out (by have := HBZ.out; simpa using this))
  have hld := run_loadAsk w4 B _ hb4
  have hrun := HOK.out.run A1 mn c1 us { qa with lim := 1000 } w4 HE4.out
  rw [HUS.out] at hrun
  obtain ⟨R, hR⟩ : ∃ R, run M { qa with lim := 1000 } = R := ⟨_, rfl⟩
  rw [hR] at hrun
  have HBH := Lib.hid (behind_run HOM.out { qa with lim := 1000 } R hR (by rw [HMN.out]; simp only; omega))
  obtain ⟨rn, hrn⟩ : ∃ rn, R.length = rn := ⟨_, rfl⟩
  have hrn3 : rn ≤ 300 := by rw [← hrn, ← hR]; have := run_le M { qa with lim := 1000 }; have := HMN.out; omega
  rw [hrn] at hrun
  have HRN := Lib.hid hrn
  unfold askA at hld hrun
  simp only at hld hrun
  have HLD0 := Lib.hid hld
  have HRUN := Lib.hid hrun
  clear hw4 hb4 hk4 hld hrun hR hrn
  go_upto_region 6 with fail
  clear r0 r1 r2 r3 r4 r5 r6 m6
  rw [HW4.out]
  go_wp2_with (refine wpList_loadW rfl 31 _ rfl _ _ rfl HLD0.out ?_)
  refine HRUN.out.mono ?_
  rintro e w5 ⟨v, rfl, ho, d5⟩
  obtain ⟨A2, c2, rfl, h21, h22, -⟩ := row_form ho
  have HL5 := Lib.hid (show Lies w5 A2 (nums R) from lies_row HRN.out ho)
  unfold maxLen at h22
  have HE5 := Lib.hid (HE4.out.below d5)
  have HBX5 := Lib.hid (HBX4.out.below d5)
  have HB5 := Lib.hid (HB4.out.trans (d5.mono HB4.out.size))
  clear ho d5 HRUN HLD0 HW4 HE4 HB4 HBX4 HE3 HB3 HBX3 HFR
  by_cases h0 : rn = 0
  · subst h0
    have HB := HB5.out
    go_wp2
    go_ret
    exact ⟨rfl, HB⟩
  have t0 : ((rn : Int) == 0) = false := by simpa using h0
  obtain ⟨a, rfl⟩ : ∃ a : Nat, at_ = (a : Int) := ⟨at_.toNat, by omega⟩
  obtain ⟨k, hk⟩ : ∃ k, a % rn = k := ⟨_, rfl⟩
  have hkr : k < rn := by rw [← hk]; exact Nat.mod_lt _ (by omega)
  have hld := run_loadAsk w5 B _ HBX5.out
  unfold askA at hld
  simp only at hld
  have HLD0 := Lib.hid hld
  clear hld
  go_upto_region 11 with (refine wpList_loadW rfl 31 _ rfl _ _ rfl HLD0.out ?_)
  rw [show ((a : Int) % (rn : Int)) = (k : Int) from by rw [← hk]; rfl]
  have hb6 : Below w5.heap.size w5 (w5.alloc (.cells (askA { qa with lim := 1000 }) 31)) := (Below.refl _ _).alloc (Nat.le_refl _) _
  have hq6 := BoxQ.new w5 { qa with lim := 1000 }
  obtain ⟨W6, hW6⟩ : ∃ W6, w5.alloc (.cells (askA { qa with lim := 1000 }) 31) = W6 := ⟨_, rfl⟩
  rw [hW6] at hb6 hq6
  unfold askA at hW6
  simp only at hW6
  rw [hW6]
  obtain ⟨D, hD⟩ : ∃ D, w5.heap.size = D := ⟨_, rfl⟩
  rw [hD] at hq6 ⊢
  have HDQ := Lib.hid hD
  have HB6 := Lib.hid hb6
  have HBD6 := Lib.hid (show BoxQ W6 D { qa with tk := qa.tk, id := qa.id, lim := 1000 } from hq6)
  have hkR : k < R.length := by rw [HRN.out]; exact hkr
  obtain ⟨rd, rfl, hrdb, hcr⟩ := at_num HL5.out k hkR
  have HCR := Lib.hid hcr
  obtain ⟨xe, hxe, hxi, hxr⟩ := HBH.out k hkR
  have HXE := Lib.hid (And.intro hxe hxr)
  rw [hxi] at HCR
  clear hk hat hW6 hb6 hq6 hD hcr hxe hxi hxr HBH HLD0 hkR t0 h0
  go_wp2
  go_loopw [12] (fun s12 wr => ∃ (i : Nat) (bt bi : Int), s12 = .int .i64 (i : Int) ∧ i ≤ mn ∧ (∀ j (h : j < M.length), j < i → M[j].id = xe.id → bt = M[j].tick ∧ bi = M[j].id) ∧ BoxQ wr D { qa with tk := bt, id := bi, lim := 1000 } ∧ Below w5.heap.size w5 wr) (fun s12 _ => mn - (intOf s12).toNat)
  case atStart => exact ⟨0, qa.tk, qa.id, rfl, Nat.zero_le _, fun j _ h => by omega, HBD6.out, HB6.out⟩
  case round =>
    obtain ⟨i, bt, bi, rfl, hi, hall, hbd, hbr⟩ := hrel
    have HALL := Lib.hid hall
    have HBD := Lib.hid hbd
    have HBR := Lib.hid hbr
    clear hall hbd hbr
    by_cases hlt : i < mn
    · have hiM : i < M.length := by rw [HMN.out]; exact hlt
      have hiu : i < us.length := by rw [HE5.out.len]; exact hlt
      obtain ⟨ad, rfl, hadb, hc⟩ := at_ent HE5.out.lies i hiu
      have hte : us[i].e = M[i] := by have := HUS.out; subst this; simp
      have HY := Lib.hid (fun (W : World) (h : Below w5.heap.size w5 W) => ent_all (hc W h))
      rw [hte] at HY
      have hix := fun (W : World) => show (Instr.indexAt 22 (.slice (some ad) mn c1) (.int .i64 (i : Int))).run Try.prog W = .ok (.pointer (some (ad.add (i * 13)))) W by go_simp
      have HUQ := Lib.hid (fun (y : E) (hy : y ∈ M) (he : y.id = M[i].id) => HOM.out.uq.inj hy (List.getElem_mem hiM) he)
      have HIX := Lib.hid (show ∀ j (h : j < M.length), j < i + 1 → j ≠ i → j < i from fun j _ h1 h2 => by omega)
      have HSE := Lib.hid (show ∀ j (h : j < M.length), j = i → M[j] = M[i] from fun j _ e => by subst e; rfl)
      clear hc hte
      generalize M[i] = x at *
      have y0 := (HY.out wr HBR.out).1
      have xk := HCR.out wr HBR.out
      generalize hq : ad.add (i * 13) = q at *
      clear hq hadb
      by_cases he : x.id = xe.id
      · have te : (x.id == xe.id) = true := by simpa using he
        have HST := Lib.hid (show ∀ j (h : j < M.length), j < i + 1 → M[j].id = xe.id → x.tick = M[j].tick ∧ x.id = M[j].id from fun j hj hji hid => by
          have := HUQ.out M[j] (List.getElem_mem hj) (by rw [hid, he])
          rw [this]; exact ⟨rfl, rfl⟩)
        clear he HUQ HIX HSE
        go_wp2
        go_quiet (fail)
        obtain ⟨wq, hwq⟩ : ∃ wq, wr.drewN nq = wq := ⟨_, rfl⟩
        have HBQq := Lib.hid (show Below wr.heap.size wr wq by rw [← hwq]; exact below_many (Below.refl _ _) nq)
        rw [hwq]
        clear hwq y0 xk
        have HB9 := Lib.hid (HBR.out.trans (HBQq.out.mono HBR.out.size))
        have HD9 := Lib.hid (HBD.out.below HBQq.out)
        have y2 := (HY.out wq HB9.out).2.2.1
        obtain ⟨-, -, -, -, d4, d5, -⟩ := HD9.out.all
        obtain ⟨-, -, -, -, m4, m5, -⟩ := HD9.out.melt
        simp only at d4 d5
        have HKa := Lib.hid (Kept.belowQ HB9.out (kept1 wq D x.tick) (by have := HB9.out.size; have := HDQ.out; simp; omega))
        have yi := (HY.out _ HKa.out).1
        have HDN := Lib.hid (HD9.out.place x.tick x.id)
        have HKm := Lib.hid (Kept.belowQ HB9.out (kept2 wq D x.tick x.id) (by have := HB9.out.size; have := HDQ.out; simp; omega))
        clear HKa HD9 HB9 HBQq
        go_wp2
        go_roundw
        case rel => exact ⟨i + 1, x.tick, x.id, by go_num, by omega, HST.out, HDN.out, HKm.out⟩
        case measure => simp [intOf]; omega
      · have te : (x.id == xe.id) = false := by simpa using he
        have HST := Lib.hid (show ∀ j (h : j < M.length), j < i + 1 → M[j].id = xe.id → bt = M[j].tick ∧ bi = M[j].id from fun j hj hji hid => by
          by_cases e : j = i
          · have := HSE.out j hj e
            rw [this] at hid
            exact absurd hid he
          · exact HALL.out j hj (HIX.out j hj hji e) hid)
        clear he HUQ HIX HSE
        go_wp2
        go_quiet (fail)
        obtain ⟨wq, hwq⟩ : ∃ wq, wr.drewN nq = wq := ⟨_, rfl⟩
        have HBQq := Lib.hid (show Below wr.heap.size wr wq by rw [← hwq]; exact below_many (Below.refl _ _) nq)
        rw [hwq]
        clear hwq y0 xk
        have HB9 := Lib.hid (HBR.out.trans (HBQq.out.mono HBR.out.size))
        have HD9 := Lib.hid (HBD.out.below HBQq.out)
        go_wp2
        go_roundw
        case rel => exact ⟨i + 1, bt, bi, by go_num, by omega, HST.out, HD9.out, HB9.out⟩
        case measure => simp [intOf]; omega
    · obtain rfl : i = mn := by omega
      have HEE := Lib.hid (show bt = xe.tick ∧ bi = xe.id by
        obtain ⟨j, hj, e⟩ := List.getElem_of_mem HXE.out.1
        have := HALL.out j hj (by rw [← HMN.out]; exact hj) (by rw [e])
        rwa [e] at this)
      obtain ⟨L, hL⟩ : ∃ L, run M (Qy.A.behind { qa with lim := 1000 } xe) = L := ⟨_, rfl⟩
      have HLD := Lib.hid (show R.drop (k + 1) = L by rw [← hL, HXE.out.2])
      have HEr := HE5.out.below HBR.out
      have hbd : Below wr.heap.size wr wr.drew := (Below.refl _ _).drew
      have hq := HBD.out
      rw [HEE.out.1, HEE.out.2] at hq
      have hlb := fun (W : World) (h : Below wr.heap.size wr W) => run_loadAsk W D (Qy.A.behind { qa with lim := 1000 } xe) (BoxQ.below hq h)
      have hrb := fun (W : World) (h : Below wr.heap.size wr W) => HOK.out.run A1 i c1 us (Qy.A.behind { qa with lim := 1000 } xe) W (HEr.below h)
      rw [HUS.out, hL] at hrb
      obtain ⟨XB, hXB⟩ : ∃ X, askA (Qy.A.behind { qa with lim := 1000 } xe) = X := ⟨_, rfl⟩
      simp only [hXB] at hlb hrb
      have LB := Lib.hid hlb
      have RB := Lib.hid hrb
      have HL2 := Lib.hid (HL5.out.below HBR.out)
      have HBE := Lib.hid (HB5.out.trans (HBR.out.mono HB5.out.size))
      clear hlb hrb hXB hL hq HEr HEE HALL HBD HBR
      go_wp2
      refine wp_soft (by kernel_rfl) 81 [(70, [7]), (71, [70]), (72, [8, 71]), (73, [11, 71]), (74, [72, 73, 71]), (75, [9, 71]), (76, [10, 71]), (77, [76, 71]), (78, [75, 77, 71]), (79, [74, 78, 71]), (80, [71, 79]), (6, [80])]
        [Fact.is (.bool true), Fact.is (.bool true), Fact.is (.slice A1 i c1), Fact.is (.agg XB), Fact.num15 L, Fact.is (.slice (some rd) rn c2), Fact.is (.int .i64 (k : Int)), Fact.is (.int .i64 ((k + 1 : Nat) : Int)), Fact.num15 L, Fact.is (.bool true), Fact.is (.bool true), Fact.is (.bool true)]
        (by kernel_rfl) rfl rfl ⟨?s0, ?s1, ?s2, ?s3, ?s4, ?s5, ?s6, ?s7, ?s8, ?s9, ?s10, ?s11, trivial⟩ ?fin
      case s0 =>
        intro ρ W hb hc hf hr
        obtain ⟨r7, -⟩ := hr
        have e7 : ρ (.tmp 7) = .bool true := r7
        clear r7
        refine under_none rfl ?_
        exact ⟨e7, Below.refl _ _⟩
      case s1 =>
        intro ρ W hb hc hf hr
        obtain ⟨r70, -⟩ := hr
        have e70 : ρ (.tmp 70) = .bool true := r70
        clear r70
        refine under_none rfl ?_
        exact ⟨e70, Below.refl _ _⟩
      case s2 =>
        intro ρ W hb hc hf hr
        obtain ⟨r8, r71, -⟩ := hr
        have e8 : ρ (.tmp 8) = .slice A1 i c1 := r8
        clear r8
        have e71 : ρ (.tmp 71) = .bool true := r71
        clear r71
        refine ⟨71, rfl, .inl ⟨e71, ?_⟩⟩
        exact ⟨e8, Below.refl _ _⟩
      case s3 =>
        intro ρ W hb hc hf hr
        obtain ⟨r11, r71, -⟩ := hr
        have e11 : ρ (.tmp 11) = .pointer (some ⟨D, 0, none⟩) := r11
        clear r11
        have e71 : ρ (.tmp 71) = .bool true := r71
        clear r71
        refine ⟨71, rfl, .inl ⟨e71, ?_⟩⟩
        exact soft_load e11 (LB.out W (hbd.trans (hb.mono (by simp)))) rfl
      case s4 =>
        intro ρ W hb hc hf hr
        obtain ⟨r72, r73, r71, -⟩ := hr
        have e72 : ρ (.tmp 72) = .slice A1 i c1 := r72
        clear r72
        have e73 : ρ (.tmp 73) = .agg XB := r73
        clear r73
        have e71 : ρ (.tmp 71) = .bool true := r71
        clear r71
        refine ⟨71, rfl, .inl ⟨e71, ?_⟩⟩
        exact soft_call2 hf e72 e73 (RB.out W (hbd.trans (hb.mono (by simp)))) rfl (by kernel_rfl) num15_of
      case s5 =>
        intro ρ W hb hc hf hr
        obtain ⟨r9, r71, -⟩ := hr
        have e9 : ρ (.tmp 9) = .slice (some rd) rn c2 := r9
        clear r9
        have e71 : ρ (.tmp 71) = .bool true := r71
        clear r71
        refine ⟨71, rfl, .inl ⟨e71, ?_⟩⟩
        exact ⟨e9, Below.refl _ _⟩
      case s6 =>
        intro ρ W hb hc hf hr
        obtain ⟨r10, r71, -⟩ := hr
        have e10 : ρ (.tmp 10) = .int .i64 (k : Int) := r10
        clear r10
        have e71 : ρ (.tmp 71) = .bool true := r71
        clear r71
        refine ⟨71, rfl, .inl ⟨e71, ?_⟩⟩
        exact ⟨e10, Below.refl _ _⟩
      case s7 =>
        intro ρ W hb hc hf hr
        obtain ⟨r76, r71, -⟩ := hr
        have e76 : ρ (.tmp 76) = .int .i64 (k : Int) := r76
        clear r76
        have e71 : ρ (.tmp 71) = .bool true := r71
        clear r71
        refine ⟨71, rfl, .inl ⟨e71, ?_⟩⟩
        exact soft_addOne e76 (hc _) (by omega) rfl
      case s8 =>
        intro ρ W hb hc hf hr
        obtain ⟨r75, r77, r71, -⟩ := hr
        have e75 : ρ (.tmp 75) = .slice (some rd) rn c2 := r75
        clear r75
        have e77 : ρ (.tmp 77) = .int .i64 ((k + 1 : Nat) : Int) := r77
        clear r77
        have e71 : ρ (.tmp 71) = .bool true := r71
        clear r71
        refine ⟨71, rfl, .inl ⟨e71, ?_⟩⟩
        exact soft_drop15 e75 e77 HRN.out (by omega) h21 h22 (HL2.out.below (hbd.trans (hb.mono (by simp)))) HLD.out rfl
      case s9 =>
        intro ρ W hb hc hf hr
        obtain ⟨r74, r78, r71, -⟩ := hr
        have e71 : ρ (.tmp 71) = .bool true := r71
        clear r71
        refine ⟨71, rfl, .inl ⟨e71, ?_⟩⟩
        exact soft_same15 hf r74 r78 (by simp) rfl
      case s10 =>
        intro ρ W hb hc hf hr
        obtain ⟨r71, r79, -⟩ := hr
        have e71 : ρ (.tmp 71) = .bool true := r71
        clear r71
        have e79 : ρ (.tmp 79) = .bool true := r79
        clear r79
        refine under_none rfl ?_
        simp [execOp, e71, e79, go_sem, softUpon, Fact.is, Below.refl]
      case s11 =>
        intro ρ W hb hc hf hr
        obtain ⟨r80, -⟩ := hr
        have e80 : ρ (.tmp 80) = .bool true := r80
        clear r80
        refine under_none rfl ?_
        exact ⟨e80, Below.refl _ _⟩
      case fin =>
        intro a' w11 hb hd hk
        have k6 : a'.tmps.getD 6 undef = .bool true := hk 6
        go_wp2
        refine bodyPost_ret (results_tmp rfl _ _ _) hd ?_
        exact ⟨congrArg Ending.returned k6, HBE.out.trans ((hbd.trans (hb.mono (by simp))).mono HBE.out.size)⟩

theorem walk (w : World) (A : Option Addr) (cap : Nat) (l : List Ent) (hl : l.length ≤ cap) (hm : cap ≤ maxLen) (hA : Lies w A (flatEn l)) (hQ : ∀ u ∈ l, EntIn w u) (qa : Qy.A) (hK : AskIn qa) (at_ : Int) (hat : 0 ≤ at_ ∧ at_ ≤ 255) :
    Calls Try.prog 8 #[.slice A l.length cap, .agg (askA qa), .int .u8 at_] w fun e w' => e = .returned (.bool true) ∧ Below w.heap.size w w' :=
  walkN queryOk w A l.length cap l qa at_ rfl hl hm hA hQ hK hat


set_option maxRecDepth 100000 in
theorem lifted (os : Os) (started : os.Started) (H : Type) (enc : TypeId × Value → H) :
    ReturnsInHanded {} Try.checked os 8 .any (Rows.queryBehindSpec.pre6 enc Try.prog Try.f8 Rows.queryBehindRow.domain false) (Rows.queryBehindSpec.post enc Try.prog Try.f8 false true false false) := by
  refine returnsInHanded_of_change (C := Try.checked) own started (by kernel_rfl) Try.func8
    (ChangeSpec.witness6 (enc := enc) (C := Try.checked) false ⟨#[], #[.slice none 0 0, .agg #[.string .empty, .int .i64 0, .int .i64 0, .int .i64 0, .int .i64 0, .int .i64 0, .int .i64 0], .int .u8 0], []⟩ 8 (by kernel_rfl) (by kernel_rfl) (by kernel_rfl) (by kernel_rfl)) ?_
  intro W base args ds gs before hval0 hW hcnd _
  have hval : ∀ (j : Nat) t v, Try.f8.params[j]? = some t → args[j]? = some v → Value.okWide Try.prog W .any base t v := hval0
  have hfin := fun W' => law_post (enc := enc) (P := Try.prog) (f := Try.f8) (s := Rows.queryBehindSpec) (tb := 4) (W := W) (W' := W') (args := args) (ds := ds) (gs := gs) (before := before) laidOut rfl (by kernel_rfl) Try.underlying4 (by kernel_rfl) (fun xs h => by rw [Try.params8] at h; match xs, h with | [_, _, _], _ => rfl) hW
  have hlt : ∀ x ∈ before, x.block < W.heap.size := fun x hx => hW.lt x hx
  obtain ⟨p, q, hA0, hV, rfl, hfz, hnd⟩ := hW
  have hA : DataW.TrodAll enc Try.prog W 0 (fun _ => true) true Try.f8.params.toList args.toList ds p := hA0
  rw [Try.params8] at hA hval
  obtain ⟨v0, vs0, d0, ds0, p0, q0, hargs, rfl, rfl, h0, r0⟩ := trodAll_cons hA
  obtain ⟨v1, vs1, d1, ds1, p1, q1, rfl, rfl, rfl, h1, r1⟩ := trodAll_cons r0
  obtain ⟨v2, vs2, d2, ds2, p2, q2, rfl, rfl, rfl, h2, r2⟩ := trodAll_cons r1
  obtain ⟨rfl, rfl, rfl⟩ := trodAll_nil r2
  obtain rfl : args = #[v0, v1, v2] := by cases args; simp_all
  obtain ⟨A0, cap0, l0, rfl, hl0, hm0, hB0, hQ0⟩ := open_ents (hval 0 22 v0 rfl rfl) h0 (fun x hx => hlt x (by simp [hx]))
  obtain ⟨q1, rfl, hK1⟩ := open_ask (hval 1 31 v1 rfl rfl) h1
  obtain ⟨a2, rfl, rfl, rfl, w2⟩ := open_int Try.underlying5 (hval 2 5 v2 rfl rfl) h2
  refine (walk W A0 cap0 l0 hl0 hm0 hB0 hQ0 q1 hK1 a2 (bounds_u8 w2)).mono fun e W' ⟨he, hg⟩ => ?_
  subst he
  exact ⟨_, rfl, hfin W' hg⟩

theorem proved : Rows.QueryBehindSaid :=
  OpenClaim.holds_of_wide 8 Try.f8 rfl rfl rfl rfl rfl rfl rfl ⟨rfl, rfl, rfl, rfl, rfl⟩ rfl rfl rfl rfl rfl (by kernel_rfl) Try.func8 (by kernel_rfl)
    (of_decide_eq_true (by kernel_rfl)) (by unfold Func.isWrapper; first | (rw [if_pos (by decide +kernel)]; kernel_rfl) | (rw [if_neg (by decide +kernel)]; exact ⟨rfl, rfl⟩))
    (fun os started H enc _ => lifted os started H enc)
#print axioms proved
end Go.Proofs.Ytcoedohfggeaiaa.queryBehind
