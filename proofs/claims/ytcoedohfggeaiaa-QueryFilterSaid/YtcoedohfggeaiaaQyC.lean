/-
  Layer 15, the document's answer: Next: what it answers, of any entries and any Ask. Assumed: that these lie in memory. (Made by gen15/qyc.py.)
-/
import Derived.Test.YtcoedohfggeaiaaQyB

namespace Go.Proofs.Ytcoedohfggeaiaa
open Go.RowKit Go.Maps En Qy
set_option maxRecDepth 100000

theorem BoxQ.melt {w : World} {g : Nat} {a : Qy.A} (h : BoxQ w g a) : w.frozen? ⟨g, 0, none⟩ = false ∧ w.frozen? ⟨g, 1, none⟩ = false ∧ w.frozen? ⟨g, 2, none⟩ = false ∧ w.frozen? ⟨g, 3, none⟩ = false ∧ w.frozen? ⟨g, 4, none⟩ = false ∧ w.frozen? ⟨g, 5, none⟩ = false ∧ w.frozen? ⟨g, 6, none⟩ = false :=
  ⟨h.frozen 0, h.frozen 1, h.frozen 2, h.frozen 3, h.frozen 4, h.frozen 5, h.frozen 6⟩
theorem BoxQ.place {w : World} {g : Nat} {a : Qy.A} (h : BoxQ w g a) (t i : Int) : BoxQ ((w.setCell ⟨g, 4, none⟩ (.int .i64 t)).setCell ⟨g, 5, none⟩ (.int .i64 i)) g { a with tk := t, id := i } := by
  have := (h.set 4 (.int .i64 t)).set 5 (.int .i64 i)
  have e : ((askA a).setIfInBounds 4 (.int .i64 t)).setIfInBounds 5 (.int .i64 i) = askA { a with tk := t, id := i } := by
    unfold askA
    simp only [List.setIfInBounds_toArray, List.set_cons_succ, List.set_cons_zero]
  show Blk _ g (askA { a with tk := t, id := i }) _
  rw [← e]
  exact this
theorem BoxQ.over {w : World} {g : Nat} {b : Qy.A} (h : BoxQ w g b) (a : Qy.A) : BoxQ (((((((w.setCell ⟨g, 0, none⟩ (.string (str a.sv))).setCell ⟨g, 1, none⟩ (.int .i64 a.lo)).setCell ⟨g, 2, none⟩ (.int .i64 a.hi)).setCell ⟨g, 3, none⟩ (.int .i64 a.cl)).setCell ⟨g, 4, none⟩ (.int .i64 a.tk)).setCell ⟨g, 5, none⟩ (.int .i64 a.id)).setCell ⟨g, 6, none⟩ (.int .i64 a.lim)) g a := by
  have := ((((((h.set 0 (.string (str a.sv))).set 1 (.int .i64 a.lo)).set 2 (.int .i64 a.hi)).set 3 (.int .i64 a.cl)).set 4 (.int .i64 a.tk)).set 5 (.int .i64 a.id)).set 6 (.int .i64 a.lim)
  have e : (((((((askA b).setIfInBounds 0 (.string (str a.sv))).setIfInBounds 1 (.int .i64 a.lo)).setIfInBounds 2 (.int .i64 a.hi)).setIfInBounds 3 (.int .i64 a.cl)).setIfInBounds 4 (.int .i64 a.tk)).setIfInBounds 5 (.int .i64 a.id)).setIfInBounds 6 (.int .i64 a.lim) = askA a := by
    unfold askA
    simp only [List.setIfInBounds_toArray, List.set_cons_succ, List.set_cons_zero]
  show Blk _ g (askA a) _
  rw [← e]
  exact this
theorem kept7 (w : World) (g : Nat) (a : Qy.A) : Kept [g] w (((((((w.setCell ⟨g, 0, none⟩ (.string (str a.sv))).setCell ⟨g, 1, none⟩ (.int .i64 a.lo)).setCell ⟨g, 2, none⟩ (.int .i64 a.hi)).setCell ⟨g, 3, none⟩ (.int .i64 a.cl)).setCell ⟨g, 4, none⟩ (.int .i64 a.tk)).setCell ⟨g, 5, none⟩ (.int .i64 a.id)).setCell ⟨g, 6, none⟩ (.int .i64 a.lim)) :=
  (((((((Kept.refl [g] w).setCell (by simp) (.string (str a.sv))).setCell (by simp) (.int .i64 a.lo)).setCell (by simp) (.int .i64 a.hi)).setCell (by simp) (.int .i64 a.cl)).setCell (by simp) (.int .i64 a.tk)).setCell (by simp) (.int .i64 a.id)).setCell (by simp) (.int .i64 a.lim)
theorem kept2 (w : World) (g : Nat) (t i : Int) : Kept [g] w ((w.setCell ⟨g, 4, none⟩ (.int .i64 t)).setCell ⟨g, 5, none⟩ (.int .i64 i)) := ((Kept.refl [g] w).setCell (by simp) _).setCell (by simp) _
theorem kept1 (w : World) (g : Nat) (t : Int) : Kept [g] w (w.setCell ⟨g, 4, none⟩ (.int .i64 t)) := (Kept.refl [g] w).setCell (by simp) _

theorem Kept.belowQ {S : List Nat} {B : Nat} {a b c : World} (hb : Below B a b) (h : Kept S b c) (hB : B ≤ b.heap.size ∧ ∀ k ∈ S, B ≤ k) : Below B a c :=
  hb.trans ⟨h.os, h.tape, h.output, h.size, fun i hi => h.block i (by omega) (fun hm => by have := hB.2 i hm; omega)⟩

set_option maxHeartbeats 8000000 in
theorem rnext15_any (A : Option Addr) (n cap : Nat) (ts : List Ent) (qa : Qy.A) (w : World) (h : Ents w A n cap ts) :
    Calls Try.prog 12 #[.slice A n cap, .agg (askA qa)] w fun e w' => e = .returned (.tuple #[.agg (askA (next (ts.map Ent.e) qa)), .bool (more (ts.map Ent.e) qa)]) ∧ Below w.heap.size w w' := by
  obtain ⟨hln, hfew, hle, hcm, hlies, hsv⟩ := h
  unfold maxLen at hcm
  obtain ⟨W3, hW3⟩ : ∃ W3, ((w.alloc (.cells (askA qa) 31)).alloc (.cells (askA Qy.A.zero) 31)).alloc (.cells (askA qa) 31) = W3 := ⟨_, rfl⟩
  have hb : Below w.heap.size w W3 := by rw [← hW3]; exact (((Below.refl _ _).alloc (Nat.le_refl _) _).alloc (by simp) _).alloc (by simp; omega) _
  have ha1 : BoxQ W3 w.heap.size qa := by
    rw [← hW3]
    exact ((BoxQ.new w qa).below ((Below.refl _ _).alloc (Nat.le_refl _) _)).below ((Below.refl _ _).alloc (Nat.le_refl _) _)
  have ha2 : BoxQ W3 (w.heap.size + 1) Qy.A.zero := by
    rw [← hW3]
    have := BoxQ.new (w.alloc (.cells (askA qa) 31)) Qy.A.zero
    rw [World.size_alloc] at this
    exact this.below ((Below.refl _ _).alloc (Nat.le_refl _) _)
  have ha3 : BoxQ W3 (w.heap.size + 1 + 1) qa := by
    rw [← hW3]
    have := BoxQ.new ((w.alloc (.cells (askA qa) 31)).alloc (.cells (askA Qy.A.zero) 31)) qa
    rwa [World.size_alloc, World.size_alloc] at this
  have HLI := Lib.hid hlies
  obtain ⟨M, hM⟩ : ∃ M, ts.map Ent.e = M := ⟨_, rfl⟩
  rw [hM]
  have HML := Lib.hid (show M.length = n by rw [← hM, List.length_map, hln])
  have HN := Lib.hid hln
  have HM := Lib.hid hM
  have HFS0 := Lib.hid (fun (t : Ent) (ht : t ∈ ts) (W : World) (hW : Below w.heap.size w W) => rfits15_any t.e t.A t.e.sv.length t.cap qa W rfl ((hsv t ht).below hW))
  obtain ⟨X2, hX2⟩ : ∃ X2, askA qa = X2 := ⟨_, rfl⟩
  simp only [hX2] at HFS0
  have HX2 := Lib.hid hX2
  obtain ⟨lim, hlim⟩ : ∃ lim, qa.lim = lim := ⟨_, rfl⟩
  have HLIM := Lib.hid hlim
  obtain ⟨B, hB⟩ : ∃ B, w.heap.size = B := ⟨_, rfl⟩
  have HB := Lib.hid hB
  have HB3 := Lib.hid hb
  rw [hB] at ha1 ha2 ha3
  have HA := Lib.hid (And.intro ha1 (And.intro ha2 ha3))
  unfold askA at hW3 ⊢
  have HW3 := Lib.hid (hW3)
  simp only [Qy.A.zero, show str [] = ({ data := #[] } : ByteArray) from rfl] at HW3
  clear hb ha1 ha2 ha3 hM hln hX2 hlim hW3 hlies hsv hB
  go_enter Try.func12, Try.ntmps12
  go_wp2
  rw [HW3.out, HB.out]
  obtain ⟨C, hC⟩ : ∃ C, B + 1 = C := ⟨_, rfl⟩
  rw [hC] at HA ⊢
  obtain ⟨D, hD⟩ : ∃ D, C + 1 = D := ⟨_, rfl⟩
  rw [hD] at HA ⊢
  have HBCD := Lib.hid (show w.heap.size ≤ B ∧ B < C ∧ C < D by have := HB.out; omega)
  have hne1 : B ≠ D := by omega
  have hne2 : C ≠ D := by omega
  clear hC hD
  go_loopw [6, 8] (fun s6 s8 wr => ∃ (k m : Nat) (bt bi : Int), s6 = .int .i64 (m : Int) ∧ s8 = .int .i64 (k : Int) ∧ k ≤ n ∧ m ≤ k ∧ (those (M.take k) qa).length = m ∧ (bt, bi) = place (M.take k) qa ∧ BoxQ wr B qa ∧ BoxQ wr C Qy.A.zero ∧ BoxQ wr D { qa with tk := bt, id := bi } ∧ Below w.heap.size w wr) (fun _ i _ => n - (intOf i).toNat)
  case atStart => exact ⟨0, 0, qa.tk, qa.id, rfl, rfl, Nat.zero_le _, Nat.le_refl _, rfl, by simp [place, told, those], HA.out.1, HA.out.2.1, HA.out.2.2, HB3.out⟩
  case round =>
    obtain ⟨k, m, bt, bi, rfl, rfl, hk, hmk, hml, hpl, hA, hZ, hD, hbr⟩ := hrel
    have HPL := Lib.hid hpl
    have HMM := Lib.hid hml
    have HBA := Lib.hid hA
    have HBZ := Lib.hid hZ
    have HBD := Lib.hid hD
    have HBR := Lib.hid hbr
    clear hpl hml hA hZ hD hbr
    by_cases hlt : k < n
    · have hkM : k < M.length := by rw [HML.out]; exact hlt
      have hkt : k < ts.length := by rw [HN.out]; exact hlt
      obtain ⟨ad, rfl, hadb, hc⟩ := at_ent HLI.out k hkt
      have hte : ts[k].e = M[k] := by have := HM.out; subst this; simp
      have HPT := Lib.hid (place_take M qa k hkM)
      have HMT := Lib.hid (many_take M qa k hkM)
      rw [← hte] at HPT HMT
      have hbd : Below wr.heap.size wr wr.drew := (Below.refl _ _).drew
      have cr := HBR.out
      have LX0 := Lib.hid (fun (W : World) (h : Below wr.heap.size wr W) => run_loadRow W (ad.add (k * 13)) ts[k] (hc W (cr.trans (h.mono cr.size))))
      have HFS1 := Lib.hid (fun (W : World) (h : Below wr.heap.size wr W) => HFS0.out ts[k] (List.getElem_mem hkt) W (cr.trans (h.mono cr.size)))
      have LA := Lib.hid (fun (W : World) (h : Below wr.heap.size wr W) => show (Instr.loadAt 31 (.pointer (some ⟨B, 0, none⟩))).run Try.prog W = .ok (.agg X2) W by rw [← HX2.out]; exact run_loadAsk W B qa (HBA.out.below h))
      have HY0 := Lib.hid (fun (W : World) (h : Below w.heap.size w W) => ent_all (hc W h))
      have hix := fun (W : World) => show (Instr.indexAt 22 (.slice (some ad) n cap) (.int .i64 (k : Int))).run Try.prog W = .ok (.pointer (some (ad.add (k * 13)))) W by go_simp
      clear hc hte
      obtain ⟨x, hx⟩ : ∃ x, ts[k] = x := ⟨_, rfl⟩
      rw [hx] at HPT HMT LX0 HFS1 HY0
      clear hx
      obtain ⟨X1, hX1⟩ : ∃ X1, enA x.e (.slice x.A x.e.sv.length x.cap) = X1 := ⟨_, rfl⟩
      rw [hX1] at LX0 HFS1
      have LX := LX0
      obtain ⟨F, hF⟩ : ∃ F, fits x.e qa = F := ⟨_, rfl⟩
      rw [hF] at HPT HMT HFS1
      have HFS := HFS1
      rw [HMM.out] at HMT
      rw [HMM.out, HLIM.out] at HPT
      clear hX1 hF LX0 HFS1 hkM hkt
      go_wp2
      refine wp_softS (by kernel_rfl) 53 [(16, [0]), (17, [8]), (18, [16, 17]), (19, [18]), (20, [3]), (21, [19, 20])]
        [Fact.is (.slice (some ad) n cap), Fact.is (.int .i64 (k : Int)), Fact.is (.pointer (some (Addr.add ad (k * 13)))), Fact.is (.agg X1), Fact.is (.agg X2), Fact.is (.bool F)]
        (by kernel_rfl) rfl rfl ⟨?s0, ?s1, ?s2, ?s3, ?s4, ?s5, trivial⟩ ?fin
      case s0 =>
        intro ρ W hb hc hf hr
        obtain ⟨r0, -⟩ := hr
        have e0 : ρ (.tmp 0) = .slice (some ad) n cap := r0
        clear r0
        refine under_none rfl ?_
        exact ⟨e0, Below.refl _ _⟩
      case s1 =>
        intro ρ W hb hc hf hr
        obtain ⟨r8, -⟩ := hr
        have e8 : ρ (.tmp 8) = .int .i64 (k : Int) := r8
        clear r8
        refine under_none rfl ?_
        exact ⟨e8, Below.refl _ _⟩
      case s2 =>
        intro ρ W hb hc hf hr
        obtain ⟨r16, r17, -⟩ := hr
        have e16 : ρ (.tmp 16) = .slice (some ad) n cap := r16
        clear r16
        have e17 : ρ (.tmp 17) = .int .i64 (k : Int) := r17
        clear r17
        refine under_none rfl ?_
        exact soft_index13 e16 e17 (by omega) rfl
      case s3 =>
        intro ρ W hb hc hf hr
        obtain ⟨r18, -⟩ := hr
        have e18 : ρ (.tmp 18) = .pointer (some (Addr.add ad (k * 13))) := r18
        clear r18
        refine under_none rfl ?_
        exact soft_load e18 (LX.out W (hbd.trans (hb.mono (by simp)))) rfl
      case s4 =>
        intro ρ W hb hc hf hr
        obtain ⟨r3, -⟩ := hr
        have e3 : ρ (.tmp 3) = .pointer (some ⟨B, 0, none⟩) := r3
        clear r3
        refine under_none rfl ?_
        exact soft_load e3 (LA.out W (hbd.trans (hb.mono (by simp)))) rfl
      case s5 =>
        intro ρ W hb hc hf hr
        obtain ⟨r19, r20, -⟩ := hr
        have e19 : ρ (.tmp 19) = .agg X1 := r19
        clear r19
        have e20 : ρ (.tmp 20) = .agg X2 := r20
        clear r20
        refine under_none rfl ?_
        exact soft_call2 hf e19 e20 (HFS.out W (hbd.trans (hb.mono (by simp)))) rfl (by kernel_rfl) below_is
      case fin =>
        intro a w1 hb hd hsz hk
        have ea := act_puts hd hsz rfl hk
        have k16 : a.tmps.getD 16 undef = .slice (some ad) n cap := hk 16
        have k17 : a.tmps.getD 17 undef = .int .i64 (k : Int) := hk 17
        have k18 : a.tmps.getD 18 undef = .pointer (some (Addr.add ad (k * 13))) := hk 18
        have k19 : a.tmps.getD 19 undef = .agg X1 := hk 19
        have k20 : a.tmps.getD 20 undef = .agg X2 := hk 20
        have k21 : a.tmps.getD 21 undef = .bool F := hk 21
        clear hk hd hsz
        simp only [List.map_cons, List.map_nil, List.foldl_cons, List.foldl_nil, k16, k17, k18, k19, k20, k21] at ea
        clear k16 k17 k18 k19 k20 k21
        simp only [Act.put, List.setIfInBounds_toArray, List.set_cons_succ, List.set_cons_zero] at ea
        subst ea
        have dV := hbd.trans (hb.mono (by simp))
        clear hb hbd LX LA HFS
        have HB2 := Lib.hid (cr.trans (dV.mono cr.size))
        have HA2 := Lib.hid (HBA.out.below dV)
        have HZ2 := Lib.hid (HBZ.out.below dV)
        have HD2 := Lib.hid (HBD.out.below dV)
        clear dV cr HBA HBZ HBD HBR
        rcases F with _ | _
        · rw [if_neg (by simp)] at HPT
          go_wp2
          go_roundw
          case rel => exact ⟨k + 1, m, bt, bi, rfl, by go_num, by omega, by omega, by rw [HMT.out]; rfl, by rw [HPT.out]; exact HPL.out, HA2.out, HZ2.out, HD2.out, HB2.out⟩
          case measure => simp [intOf]; omega
        · obtain ⟨-, -, -, -, -, -, a6⟩ := HA2.out.all
          rw [HLIM.out] at a6
          by_cases hq : (m : Int) < lim
          · have t1 : decide ((m : Int) < lim) = true := by simpa using hq
            rw [if_pos ⟨rfl, hq⟩] at HPT
            obtain ⟨-, -, -, -, d4, d5, -⟩ := HD2.out.all
            obtain ⟨-, -, -, -, m4, m5, -⟩ := HD2.out.melt
            generalize ad.add (k * 13) = q at *
            obtain ⟨-, -, y2, -⟩ := HY0.out w1 HB2.out
            have HKa := Lib.hid (kept1 w1 D x.e.tick)
            obtain ⟨y0, -⟩ := HY0.out _ (Kept.belowQ HB2.out HKa.out (by have := HBCD.out; have := HB2.out.size; simp; omega))
            have HKb := Lib.hid (kept2 w1 D x.e.tick x.e.id)
            have HB5 := Lib.hid (Kept.belowQ HB2.out HKb.out (by have := HBCD.out; have := HB2.out.size; simp; omega))
            have HA5 := Lib.hid (show BoxQ _ B qa from HKb.out.blk HA2.out (by simp; exact hne1))
            have HZ5 := Lib.hid (show BoxQ _ C Qy.A.zero from HKb.out.blk HZ2.out (by simp; exact hne2))
            have HD5 := Lib.hid (HD2.out.place x.e.tick x.e.id)
            simp only at d4 d5
            clear hq hadb HKa HKb HA2 HZ2 HD2
            go_wp2
            go_roundw
            case rel => exact ⟨k + 1, m + 1, x.e.tick, x.e.id, by go_num, by go_num, by omega, by omega, by rw [HMT.out]; rfl, HPT.out.symm, HA5.out, HZ5.out, HD5.out, HB5.out⟩
            case measure => simp [intOf]; omega
          · have t1 : decide ((m : Int) < lim) = false := by simpa using hq
            rw [if_neg (fun h => hq h.2)] at HPT
            go_wp2
            go_roundw
            case rel => exact ⟨k + 1, m + 1, bt, bi, by go_num, by go_num, by omega, by omega, by rw [HMT.out]; rfl, by rw [HPT.out]; exact HPL.out, HA2.out, HZ2.out, HD2.out, HB2.out⟩
            case measure => simp [intOf]; omega
    · obtain rfl : k = n := by omega
      rw [List.take_of_length_le (by rw [HML.out]; omega)] at HMM HPL
      have HMO := Lib.hid (show more M qa = decide (0 < lim ∧ lim < (m : Int)) by unfold more; rw [HMM.out, HLIM.out])
      obtain ⟨-, -, -, -, -, -, a6⟩ := HBA.out.all
      rw [HLIM.out] at a6
      obtain ⟨z0, z1, z2, z3, z4, z5, z6⟩ := HBZ.out.all
      obtain ⟨n0, n1, n2, n3, n4, n5, n6⟩ := HBZ.out.melt
      by_cases hl1 : lim < 1
      · have t1 : decide (lim < 1) = true := by simpa using hl1
        have HMF := Lib.hid (show more M qa = false by rw [HMO.out, decide_eq_false_iff_not]; omega)
        have HNX := Lib.hid (next_zero M qa HMF.out)
        have HK := Lib.hid (Kept.belowQ HBR.out (kept7 wr C Qy.A.zero) (by have := HBCD.out; have := HBR.out.size; simp; omega))
        have HC := Lib.hid (HBZ.out.over Qy.A.zero)
        simp only [Qy.A.zero, show str [] = ({ data := #[] } : ByteArray) from rfl] at z0 z1 z2 z3 z4 z5 z6 HK HC
        clear hl1
        go_wp2
        have HK := HK.out
        have HC := HC.out
        clear z0 z1 z2 z3 z4 z5 z6 n0 n1 n2 n3 n4 n5 n6
        revert HK HC
        generalize World.setCell _ _ _ = wf
        intro HK HC
        obtain ⟨c0, c1, c2, c3, c4, c5, c6⟩ := HC.all
        refine bodyPost_ret (v := .tuple #[.agg #[.string (str []), .int .i64 0, .int .i64 0, .int .i64 0, .int .i64 0, .int .i64 0, .int .i64 0], .bool false]) (w := wf) (by simp [results, Try.results12, go_sem, c0, c1, c2, c3, c4, c5, c6, Result.andThen]) rfl ?_
        rw [HNX.out, HMF.out]
        exact ⟨rfl, HK⟩
      · have t1 : decide (lim < 1) = false := by simpa using hl1
        by_cases hl2 : (m : Int) ≤ lim
        · have t2 : decide ((m : Int) ≤ lim) = true := by simpa using hl2
          have HMF := Lib.hid (show more M qa = false by rw [HMO.out, decide_eq_false_iff_not]; omega)
          have HNX := Lib.hid (next_zero M qa HMF.out)
          have HK := Lib.hid (Kept.belowQ HBR.out (kept7 wr C Qy.A.zero) (by have := HBCD.out; have := HBR.out.size; simp; omega))
          have HC := Lib.hid (HBZ.out.over Qy.A.zero)
          simp only [Qy.A.zero, show str [] = ({ data := #[] } : ByteArray) from rfl] at z0 z1 z2 z3 z4 z5 z6 HK HC
          clear hl1 hl2
          go_wp2
          have HK := HK.out
          have HC := HC.out
          clear z0 z1 z2 z3 z4 z5 z6 n0 n1 n2 n3 n4 n5 n6
          revert HK HC
          generalize World.setCell _ _ _ = wf
          intro HK HC
          obtain ⟨c0, c1, c2, c3, c4, c5, c6⟩ := HC.all
          refine bodyPost_ret (v := .tuple #[.agg #[.string (str []), .int .i64 0, .int .i64 0, .int .i64 0, .int .i64 0, .int .i64 0, .int .i64 0], .bool false]) (w := wf) (by simp [results, Try.results12, go_sem, c0, c1, c2, c3, c4, c5, c6, Result.andThen]) rfl ?_
          rw [HNX.out, HMF.out]
          exact ⟨rfl, HK⟩
        · have t2 : decide ((m : Int) ≤ lim) = false := by simpa using hl2
          have HMF := Lib.hid (show more M qa = true by rw [HMO.out, decide_eq_true_eq]; omega)
          have HNX := Lib.hid (show next M qa = { qa with tk := bt, id := bi } by rw [next_place M qa HMF.out, ← HPL.out])
          obtain ⟨e0, e1, e2, e3, e4, e5, e6⟩ := HBD.out.all
          have HK := Lib.hid (Kept.belowQ HBR.out (kept7 wr C { qa with tk := bt, id := bi }) (by have := HBCD.out; have := HBR.out.size; simp; omega))
          have HC := Lib.hid (HBZ.out.over { qa with tk := bt, id := bi })
          obtain ⟨s, alo, ahi, acl, atk, aid, alim⟩ := qa
          simp only [Qy.A.zero] at *
          clear hl1 hl2
          go_wp2
          have HK := HK.out
          have HC := HC.out
          clear z0 z1 z2 z3 z4 z5 z6 n0 n1 n2 n3 n4 n5 n6 e0 e1 e2 e3 e4 e5 e6
          revert HK HC
          generalize World.setCell _ _ _ = wf
          intro HK HC
          obtain ⟨c0, c1, c2, c3, c4, c5, c6⟩ := HC.all
          simp only at c0 c1 c2 c3 c4 c5 c6
          refine bodyPost_ret (v := .tuple #[.agg #[.string (str s), .int .i64 alo, .int .i64 ahi, .int .i64 acl, .int .i64 bt, .int .i64 bi, .int .i64 alim], .bool true]) (w := wf) (by simp [results, Try.results12, go_sem, c0, c1, c2, c3, c4, c5, c6, Result.andThen]) rfl ?_
          rw [HNX.out, HMF.out]
          exact ⟨rfl, HK⟩
end Go.Proofs.Ytcoedohfggeaiaa

