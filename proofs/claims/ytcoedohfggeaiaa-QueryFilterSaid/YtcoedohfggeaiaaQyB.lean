/-
  Layer 15, the document's answer: Run: what it answers, of any entries and any Ask. Assumed: that these lie in memory. (Made by gen15/qyb.py.)
-/
import Derived.Test.YtcoedohfggeaiaaQyA
import Derived.Test.YtcoedohfggeaiaaRiE

namespace Go.Proofs.Ytcoedohfggeaiaa
open Go.RowKit Go.Maps En Qy
set_option maxRecDepth 100000

/-- entries in a row, with their services -/
structure Ents (w : World) (A : Option Addr) (n cap : Nat) (ts : List Ent) : Prop where
  len : ts.length = n
  few : n ≤ 1000
  le : n ≤ cap
  cap : cap ≤ maxLen
  lies : Lies w A (flatEn ts)
  svs : ∀ t ∈ ts, Svs w t.e.sv t.A t.cap
theorem Ents.below {w w' : World} {A : Option Addr} {n cap : Nat} {ts : List Ent} (h : Ents w A n cap ts) (hb : Below w.heap.size w w') : Ents w' A n cap ts := ⟨h.len, h.few, h.le, h.cap, h.lies.below hb, fun t ht => (h.svs t ht).below hb⟩
theorem run_loadQi (W : World) (a : Addr) (z : Int) (h : W.cell? a = some (.int .i64 z)) : (Instr.loadAt 3 (.pointer (some a))).run Try.prog W = .ok (.int .i64 z) W := by
  go_simp
theorem lss_q (W : World) (a b : Int) (r : Bool) (h : decide (a < b) = r) : (binOp .lss 3 (.int .i64 a) (.int .i64 b)).run Try.prog W = .ok (.bool r) W := by
  subst h; go_simp

set_option maxHeartbeats 8000000 in
theorem rrun15_any (A : Option Addr) (n cap : Nat) (ts : List Ent) (qa : Qy.A) (w : World) (h : Ents w A n cap ts) :
    Calls Try.prog 17 #[.slice A n cap, .agg (askA qa)] w fun e w' => ∃ v, e = .returned v ∧ w'.ownsRow w.heap.size 2 1 v (run (ts.map Ent.e) qa).length (nums (run (ts.map Ent.e) qa)) ∧ Below w.heap.size w w' := by
  obtain ⟨i0, hi, hz0, hz1, hz2⟩ := info_parts infoL
  obtain ⟨hln, hfew, hle, hcm, hlies, hsv⟩ := h
  have hb1 : Below w.heap.size w (w.alloc (.cells (askA qa) 31)) := (Below.refl _ _).alloc (Nat.le_refl _) _
  have hq1 := BoxQ.new w qa
  obtain ⟨W1, hW1⟩ : ∃ W1, w.alloc (.cells (askA qa) 31) = W1 := ⟨_, rfl⟩
  have hz : W1.heap.size = w.heap.size + 1 := by rw [← hW1]; simp
  rw [hW1] at hb1 hq1
  have HLI := Lib.hid (hlies.below hb1)
  have HSV := Lib.hid (fun t (ht : t ∈ ts) => (hsv t ht).below hb1)
  have HB1 := Lib.hid hb1
  obtain ⟨B, hB⟩ : ∃ B, w.heap.size = B := ⟨_, rfl⟩
  have HZ := Lib.hid hz
  obtain ⟨M, hM⟩ : ∃ M, ts.map Ent.e = M := ⟨_, rfl⟩
  rw [hM]
  have HML := Lib.hid (show M.length = n by rw [← hM, List.length_map, hln])
  have HN := Lib.hid hln
  have HQ1 := Lib.hid (fun (W : World) (hW : Below W1.heap.size W1 W) => BoxQ.below hq1 hW)
  have HLQ := Lib.hid (fun (W : World) (hW : Below W1.heap.size W1 W) => (BoxQ.below hq1 hW).all)
  obtain ⟨lim, hlim⟩ : ∃ lim, qa.lim = lim := ⟨_, rfl⟩
  have HM := Lib.hid hM
  have HLIM := Lib.hid hlim
  rw [hlim] at HLQ
  rw [hB] at HQ1 HLQ
  have HB := Lib.hid hB
  unfold maxLen at hcm
  have HFS0 := Lib.hid (fun (t : Ent) (ht : t ∈ ts) (W : World) (hW : Below W1.heap.size W1 W) => rfits15_any t.e t.A t.e.sv.length t.cap qa W rfl ((HSV.out t ht).below hW))
  obtain ⟨X2, hX2⟩ : ∃ X2, askA qa = X2 := ⟨_, rfl⟩
  simp only [hX2] at HFS0
  have HLA := Lib.hid (fun (W : World) (hW : Below W1.heap.size W1 W) => show (Instr.loadAt 31 (.pointer (some ⟨B, 0, none⟩))).run Try.prog W = .ok (.agg X2) W by rw [← hX2]; exact run_loadAsk W B qa (HQ1.out W hW))
  unfold askA at hW1 ⊢
  have HW1 := Lib.hid hW1
  clear hb1 hq1 hW1 hz hB hM hln hlim hX2 hlies hsv HQ1
  go_enter Try.func17, Try.ntmps17
  go_wp2
  rw [HW1.out, HB.out]
  go_loopw [5, 6] (fun s5 s6 wr => ∃ (k m co : Nat) (Ao : Option Addr), s6 = .int .i64 (k : Int) ∧ s5 = .slice Ao m co ∧ k ≤ n ∧ m ≤ k ∧ (run (M.take k) qa).length = m ∧ wr.ownsRow W1.heap.size 2 1 (.slice Ao m co) m (nums (run (M.take k) qa)) ∧ Below W1.heap.size W1 wr) (fun _ i _ => n - (intOf i).toNat)
  case atStart =>
    have h0 : run (M.take 0) qa = [] := by simp [run, told, those]
    exact ⟨0, 0, 0, none, rfl, rfl, Nat.zero_le _, Nat.le_refl _, by rw [h0]; rfl, by rw [h0]; exact World.ownsRow_nil _ _ _ _, Below.refl _ _⟩
  case round =>
    obtain ⟨k, m, co, Ao, rfl, rfl, hk, hmk, hrl, hrow, hbr⟩ := hrel
    have HRL := Lib.hid hrl
    have HROW := Lib.hid hrow
    have HBR := Lib.hid hbr
    clear hrl hrow
    by_cases hlt : k < n
    · have hkM : k < M.length := by rw [HML.out]; exact hlt
      have hkt : k < ts.length := by rw [HN.out]; exact hlt
      obtain ⟨ad, rfl, hadb, hc⟩ := at_ent HLI.out k hkt
      have hte : ts[k].e = M[k] := by have := HM.out; subst this; simp
      have HRT := Lib.hid (run_take M qa k hkM)
      rw [← hte] at HRT
      have hbd : Below wr.heap.size wr wr.drew := (Below.refl _ _).drew
      have cr := HBR.out
      have LX0 := Lib.hid (fun (W : World) (h : Below wr.heap.size wr W) => run_loadRow W (ad.add (k * 13)) ts[k] (hc W (cr.trans (h.mono cr.size))))
      have HFS1 := Lib.hid (fun (W : World) (h : Below wr.heap.size wr W) => HFS0.out ts[k] (List.getElem_mem hkt) W (cr.trans (h.mono cr.size)))
      have LA := Lib.hid (fun (W : World) (h : Below wr.heap.size wr W) => HLA.out W (cr.trans (h.mono cr.size)))
      have LQ := Lib.hid (fun (W : World) (h : Below wr.heap.size wr W) => run_loadQi W ⟨B, 6, none⟩ lim (HLQ.out W (cr.trans (h.mono cr.size))).2.2.2.2.2.2)
      have HY0 := Lib.hid (fun (W : World) (h : Below wr.heap.size wr W) => (ent_all (hc W (cr.trans (h.mono cr.size)))).1)
      have hix := fun (W : World) => show (Instr.indexAt 22 (.slice (some ad) n cap) (.int .i64 (k : Int))).run Try.prog W = .ok (.pointer (some (ad.add (k * 13)))) W by go_simp
      clear hc hte
      obtain ⟨x, hx⟩ : ∃ x, ts[k] = x := ⟨_, rfl⟩
      rw [hx] at HRT LX0 HFS1 HY0
      clear hx
      obtain ⟨X1, hX1⟩ : ∃ X1, enA x.e (.slice x.A x.e.sv.length x.cap) = X1 := ⟨_, rfl⟩
      rw [hX1] at LX0 HFS1
      have LX := LX0
      obtain ⟨F, hF⟩ : ∃ F, fits x.e qa = F := ⟨_, rfl⟩
      rw [hF] at HRT HFS1
      have HFS := HFS1
      rw [HRL.out, HLIM.out] at HRT
      clear hX1 hF LX0 HFS1 hkM hkt hbr
      rcases F with _ | _
      · have HRN := Lib.hid (show run (M.take (k + 1)) qa = run (M.take k) qa by rw [HRT.out, if_neg (by simp)])
        go_wp2
        refine wp_softS (by kernel_rfl) 36 [(13, [0]), (14, [6]), (15, [13, 14]), (16, [15]), (17, [3]), (18, [16, 17]), (19, [18]), (20, [5, 19]), (21, [20, 19]), (22, [3, 19]), (23, [22, 19]), (24, [21, 23, 19]), (25, [19, 24])]
          [Fact.is (.slice (some ad) n cap), Fact.is (.int .i64 (k : Int)), Fact.is (.pointer (some (Addr.add ad (k * 13)))), Fact.is (.agg X1), Fact.is (.agg X2), Fact.is (.bool false), Fact.is (.bool false), Fact.is (undef), Fact.is (undef), Fact.is (undef), Fact.is (undef), Fact.is (undef), Fact.is (.bool false)]
          (by kernel_rfl) rfl rfl ⟨?s0, ?s1, ?s2, ?s3, ?s4, ?s5, ?s6, ?s7, ?s8, ?s9, ?s10, ?s11, ?s12, trivial⟩ ?fin
        case s0 =>
          intro ρ W hb hc hf hr
          obtain ⟨r0, -⟩ := hr
          have e0 : ρ (.tmp 0) = .slice (some ad) n cap := r0
          clear r0
          refine under_none rfl ?_
          exact ⟨e0, Below.refl _ _⟩
        case s1 =>
          intro ρ W hb hc hf hr
          obtain ⟨r6, -⟩ := hr
          have e6 : ρ (.tmp 6) = .int .i64 (k : Int) := r6
          clear r6
          refine under_none rfl ?_
          exact ⟨e6, Below.refl _ _⟩
        case s2 =>
          intro ρ W hb hc hf hr
          obtain ⟨r13, r14, -⟩ := hr
          have e13 : ρ (.tmp 13) = .slice (some ad) n cap := r13
          clear r13
          have e14 : ρ (.tmp 14) = .int .i64 (k : Int) := r14
          clear r14
          refine under_none rfl ?_
          exact soft_index13 e13 e14 (by omega) rfl
        case s3 =>
          intro ρ W hb hc hf hr
          obtain ⟨r15, -⟩ := hr
          have e15 : ρ (.tmp 15) = .pointer (some (Addr.add ad (k * 13))) := r15
          clear r15
          refine under_none rfl ?_
          exact soft_load e15 (LX.out W (hbd.trans (hb.mono (by simp)))) rfl
        case s4 =>
          intro ρ W hb hc hf hr
          obtain ⟨r3, -⟩ := hr
          have e3 : ρ (.tmp 3) = .pointer (some ⟨B, 0, none⟩) := r3
          clear r3
          refine under_none rfl ?_
          exact soft_load e3 (LA.out W (hbd.trans (hb.mono (by simp)))) rfl
        case s5 =>
          intro ρ W hb hc hf hr
          obtain ⟨r16, r17, -⟩ := hr
          have e16 : ρ (.tmp 16) = .agg X1 := r16
          clear r16
          have e17 : ρ (.tmp 17) = .agg X2 := r17
          clear r17
          refine under_none rfl ?_
          exact soft_call2 hf e16 e17 (HFS.out W (hbd.trans (hb.mono (by simp)))) rfl (by kernel_rfl) below_is
        case s6 =>
          intro ρ W hb hc hf hr
          obtain ⟨r18, -⟩ := hr
          have e18 : ρ (.tmp 18) = .bool false := r18
          clear r18
          refine under_none rfl ?_
          exact ⟨e18, Below.refl _ _⟩
        case s7 =>
          intro ρ W hb hc hf hr
          obtain ⟨r5, r19, -⟩ := hr
          have e5 : ρ (.tmp 5) = .slice Ao m co := r5
          clear r5
          have e19 : ρ (.tmp 19) = .bool false := r19
          clear r19
          exact ⟨19, rfl, .inr (.inl ⟨e19, rfl⟩)⟩
        case s8 =>
          intro ρ W hb hc hf hr
          obtain ⟨r20, r19, -⟩ := hr
          have e20 : ρ (.tmp 20) = undef := r20
          clear r20
          have e19 : ρ (.tmp 19) = .bool false := r19
          clear r19
          exact ⟨19, rfl, .inr (.inl ⟨e19, rfl⟩)⟩
        case s9 =>
          intro ρ W hb hc hf hr
          obtain ⟨r3, r19, -⟩ := hr
          have e3 : ρ (.tmp 3) = .pointer (some ⟨B, 0, none⟩) := r3
          clear r3
          have e19 : ρ (.tmp 19) = .bool false := r19
          clear r19
          exact ⟨19, rfl, .inr (.inl ⟨e19, rfl⟩)⟩
        case s10 =>
          intro ρ W hb hc hf hr
          obtain ⟨r22, r19, -⟩ := hr
          have e22 : ρ (.tmp 22) = undef := r22
          clear r22
          have e19 : ρ (.tmp 19) = .bool false := r19
          clear r19
          exact ⟨19, rfl, .inr (.inl ⟨e19, rfl⟩)⟩
        case s11 =>
          intro ρ W hb hc hf hr
          obtain ⟨r21, r23, r19, -⟩ := hr
          have e21 : ρ (.tmp 21) = undef := r21
          clear r21
          have e23 : ρ (.tmp 23) = undef := r23
          clear r23
          have e19 : ρ (.tmp 19) = .bool false := r19
          clear r19
          exact ⟨19, rfl, .inr (.inl ⟨e19, rfl⟩)⟩
        case s12 =>
          intro ρ W hb hc hf hr
          obtain ⟨r19, r24, -⟩ := hr
          have e19 : ρ (.tmp 19) = .bool false := r19
          clear r19
          have e24 : ρ (.tmp 24) = undef := r24
          clear r24
          refine under_none rfl ?_
          simp [execOp, e19, hc, go_sem, softUpon, Fact.is, Below.refl]
        case fin =>
          intro a w1 hb hd hsz hk
          have ea := act_puts hd hsz rfl hk
          have k13 : a.tmps.getD 13 undef = .slice (some ad) n cap := hk 13
          have k14 : a.tmps.getD 14 undef = .int .i64 (k : Int) := hk 14
          have k15 : a.tmps.getD 15 undef = .pointer (some (Addr.add ad (k * 13))) := hk 15
          have k16 : a.tmps.getD 16 undef = .agg X1 := hk 16
          have k17 : a.tmps.getD 17 undef = .agg X2 := hk 17
          have k18 : a.tmps.getD 18 undef = .bool false := hk 18
          have k19 : a.tmps.getD 19 undef = .bool false := hk 19
          have k20 : a.tmps.getD 20 undef = undef := hk 20
          have k21 : a.tmps.getD 21 undef = undef := hk 21
          have k22 : a.tmps.getD 22 undef = undef := hk 22
          have k23 : a.tmps.getD 23 undef = undef := hk 23
          have k24 : a.tmps.getD 24 undef = undef := hk 24
          have k25 : a.tmps.getD 25 undef = .bool false := hk 25
          clear hk hd hsz
          simp only [List.map_cons, List.map_nil, List.foldl_cons, List.foldl_nil, k13, k14, k15, k16, k17, k18, k19, k20, k21, k22, k23, k24, k25] at ea
          clear k13 k14 k15 k16 k17 k18 k19 k20 k21 k22 k23 k24 k25
          simp only [Act.put, List.setIfInBounds_toArray, List.set_cons_succ, List.set_cons_zero] at ea
          subst ea
          have dV := hbd.trans (hb.mono (by simp))
          clear hb
          have HR2 := Lib.hid (row_keep HROW.out dV)
          have HB2 := Lib.hid (cr.trans (dV.mono cr.size))
          go_wp2
          go_roundw
          case rel => exact ⟨k + 1, m, co, Ao, by go_num, rfl, by omega, by omega, by rw [HRN.out, HRL.out], by rw [HRN.out]; exact HR2.out, HB2.out⟩
          case measure => simp [intOf]; omega
      · obtain ⟨T, hT⟩ : ∃ T, decide ((m : Int) < lim) = T := ⟨_, rfl⟩
        have LT := Lib.hid (fun (W : World) => lss_q W (m : Int) lim T hT)
        have HRN := Lib.hid (show run (M.take (k + 1)) qa = if T = true then run (M.take k) qa ++ [x.e.id] else run (M.take k) qa by
          rw [HRT.out, ← hT]
          by_cases hq : (m : Int) < lim
          · rw [if_pos ⟨rfl, hq⟩, if_pos (by simpa using hq)]
          · rw [if_neg (fun h => hq h.2), if_neg (by simpa using hq)])
        clear hT
        go_wp2
        refine wp_softS (by kernel_rfl) 36 [(13, [0]), (14, [6]), (15, [13, 14]), (16, [15]), (17, [3]), (18, [16, 17]), (19, [18]), (20, [5, 19]), (21, [20, 19]), (22, [3, 19]), (23, [22, 19]), (24, [21, 23, 19]), (25, [19, 24])]
          [Fact.is (.slice (some ad) n cap), Fact.is (.int .i64 (k : Int)), Fact.is (.pointer (some (Addr.add ad (k * 13)))), Fact.is (.agg X1), Fact.is (.agg X2), Fact.is (.bool true), Fact.is (.bool true), Fact.is (.slice Ao m co), Fact.is (.int .i64 m), Fact.is (.pointer (some ⟨B, 6, none⟩)), Fact.is (.int .i64 lim), Fact.is (.bool T), Fact.is (.bool T)]
          (by kernel_rfl) rfl rfl ⟨?s0, ?s1, ?s2, ?s3, ?s4, ?s5, ?s6, ?s7, ?s8, ?s9, ?s10, ?s11, ?s12, trivial⟩ ?fin
        case s0 =>
          intro ρ W hb hc hf hr
          obtain ⟨r0, -⟩ := hr
          have e0 : ρ (.tmp 0) = .slice (some ad) n cap := r0
          clear r0
          refine under_none rfl ?_
          exact ⟨e0, Below.refl _ _⟩
        case s1 =>
          intro ρ W hb hc hf hr
          obtain ⟨r6, -⟩ := hr
          have e6 : ρ (.tmp 6) = .int .i64 (k : Int) := r6
          clear r6
          refine under_none rfl ?_
          exact ⟨e6, Below.refl _ _⟩
        case s2 =>
          intro ρ W hb hc hf hr
          obtain ⟨r13, r14, -⟩ := hr
          have e13 : ρ (.tmp 13) = .slice (some ad) n cap := r13
          clear r13
          have e14 : ρ (.tmp 14) = .int .i64 (k : Int) := r14
          clear r14
          refine under_none rfl ?_
          exact soft_index13 e13 e14 (by omega) rfl
        case s3 =>
          intro ρ W hb hc hf hr
          obtain ⟨r15, -⟩ := hr
          have e15 : ρ (.tmp 15) = .pointer (some (Addr.add ad (k * 13))) := r15
          clear r15
          refine under_none rfl ?_
          exact soft_load e15 (LX.out W (hbd.trans (hb.mono (by simp)))) rfl
        case s4 =>
          intro ρ W hb hc hf hr
          obtain ⟨r3, -⟩ := hr
          have e3 : ρ (.tmp 3) = .pointer (some ⟨B, 0, none⟩) := r3
          clear r3
          refine under_none rfl ?_
          exact soft_load e3 (LA.out W (hbd.trans (hb.mono (by simp)))) rfl
        case s5 =>
          intro ρ W hb hc hf hr
          obtain ⟨r16, r17, -⟩ := hr
          have e16 : ρ (.tmp 16) = .agg X1 := r16
          clear r16
          have e17 : ρ (.tmp 17) = .agg X2 := r17
          clear r17
          refine under_none rfl ?_
          exact soft_call2 hf e16 e17 (HFS.out W (hbd.trans (hb.mono (by simp)))) rfl (by kernel_rfl) below_is
        case s6 =>
          intro ρ W hb hc hf hr
          obtain ⟨r18, -⟩ := hr
          have e18 : ρ (.tmp 18) = .bool true := r18
          clear r18
          refine under_none rfl ?_
          exact ⟨e18, Below.refl _ _⟩
        case s7 =>
          intro ρ W hb hc hf hr
          obtain ⟨r5, r19, -⟩ := hr
          have e5 : ρ (.tmp 5) = .slice Ao m co := r5
          clear r5
          have e19 : ρ (.tmp 19) = .bool true := r19
          clear r19
          refine ⟨19, rfl, .inl ⟨e19, ?_⟩⟩
          exact ⟨e5, Below.refl _ _⟩
        case s8 =>
          intro ρ W hb hc hf hr
          obtain ⟨r20, r19, -⟩ := hr
          have e20 : ρ (.tmp 20) = .slice Ao m co := r20
          clear r20
          have e19 : ρ (.tmp 19) = .bool true := r19
          clear r19
          refine ⟨19, rfl, .inl ⟨e19, ?_⟩⟩
          simp [e20, go_sem, softUpon, Fact.is, Below.refl]
        case s9 =>
          intro ρ W hb hc hf hr
          obtain ⟨r3, r19, -⟩ := hr
          have e3 : ρ (.tmp 3) = .pointer (some ⟨B, 0, none⟩) := r3
          clear r3
          have e19 : ρ (.tmp 19) = .bool true := r19
          clear r19
          refine ⟨19, rfl, .inl ⟨e19, ?_⟩⟩
          exact soft_field e3 rfl (fun W => by go_simp)
        case s10 =>
          intro ρ W hb hc hf hr
          obtain ⟨r22, r19, -⟩ := hr
          have e22 : ρ (.tmp 22) = .pointer (some ⟨B, 6, none⟩) := r22
          clear r22
          have e19 : ρ (.tmp 19) = .bool true := r19
          clear r19
          refine ⟨19, rfl, .inl ⟨e19, ?_⟩⟩
          exact soft_load e22 (LQ.out W (hbd.trans (hb.mono (by simp)))) rfl
        case s11 =>
          intro ρ W hb hc hf hr
          obtain ⟨r21, r23, r19, -⟩ := hr
          have e21 : ρ (.tmp 21) = .int .i64 m := r21
          clear r21
          have e23 : ρ (.tmp 23) = .int .i64 lim := r23
          clear r23
          have e19 : ρ (.tmp 19) = .bool true := r19
          clear r19
          refine ⟨19, rfl, .inl ⟨e19, ?_⟩⟩
          exact soft_bin e21 e23 rfl rfl (LT.out W)
        case s12 =>
          intro ρ W hb hc hf hr
          obtain ⟨r19, r24, -⟩ := hr
          have e19 : ρ (.tmp 19) = .bool true := r19
          clear r19
          have e24 : ρ (.tmp 24) = .bool T := r24
          clear r24
          refine under_none rfl ?_
          simp [execOp, e19, e24, go_sem, softUpon, Fact.is, Below.refl]
        case fin =>
          intro a w1 hb hd hsz hk
          have ea := act_puts hd hsz rfl hk
          have k13 : a.tmps.getD 13 undef = .slice (some ad) n cap := hk 13
          have k14 : a.tmps.getD 14 undef = .int .i64 (k : Int) := hk 14
          have k15 : a.tmps.getD 15 undef = .pointer (some (Addr.add ad (k * 13))) := hk 15
          have k16 : a.tmps.getD 16 undef = .agg X1 := hk 16
          have k17 : a.tmps.getD 17 undef = .agg X2 := hk 17
          have k18 : a.tmps.getD 18 undef = .bool true := hk 18
          have k19 : a.tmps.getD 19 undef = .bool true := hk 19
          have k20 : a.tmps.getD 20 undef = .slice Ao m co := hk 20
          have k21 : a.tmps.getD 21 undef = .int .i64 m := hk 21
          have k22 : a.tmps.getD 22 undef = .pointer (some ⟨B, 6, none⟩) := hk 22
          have k23 : a.tmps.getD 23 undef = .int .i64 lim := hk 23
          have k24 : a.tmps.getD 24 undef = .bool T := hk 24
          have k25 : a.tmps.getD 25 undef = .bool T := hk 25
          clear hk hd hsz
          simp only [List.map_cons, List.map_nil, List.foldl_cons, List.foldl_nil, k13, k14, k15, k16, k17, k18, k19, k20, k21, k22, k23, k24, k25] at ea
          clear k13 k14 k15 k16 k17 k18 k19 k20 k21 k22 k23 k24 k25
          simp only [Act.put, List.setIfInBounds_toArray, List.set_cons_succ, List.set_cons_zero] at ea
          subst ea
          have dV := hbd.trans (hb.mono (by simp))
          clear hb
          have HR2 := Lib.hid (row_keep HROW.out dV)
          have HB2 := Lib.hid (cr.trans (dV.mono cr.size))
          have y0 := HY0.out w1 dV
          rcases T with _ | _
          · go_wp2
            go_roundw
            case rel => exact ⟨k + 1, m, co, Ao, by go_num, rfl, by omega, by omega, by rw [HRN.out, if_neg (by simp), HRL.out], by rw [HRN.out, if_neg (by simp)]; exact HR2.out, HB2.out⟩
            case measure => simp [intOf]; omega
          · have HTN := Lib.hid (show nums (run (M.take k) qa) ++ [.int .i64 x.e.id] = nums (run (M.take (k + 1)) qa) by rw [HRN.out, if_pos rfl, nums_append14]; rfl)
            have HLN := Lib.hid (show (run (M.take (k + 1)) qa).length = m + 1 by rw [HRN.out, if_pos rfl, List.length_append, HRL.out]; rfl)
            generalize nums (run (M.take k) qa) = F0 at *
            generalize ad.add (k * 13) = q at *
            go_wp2_with (at_builtin; refine wpList_appK rfl _ _ 38 rfl W1.heap.size 2 i0 (.int .i64 0) 1 8 Try.underlying38 hi hz0 hz1 hz2 rfl (by decide) _ m F0 rfl ?b1 (some ⟨w1.heap.size, 0, none⟩) 1 1 [.int .i64 x.e.id] rfl rfl ?b2 ?b3 ?b4 ?b5 ?b6 ?b7)
            case b1 => exact HR2.out.alloc _
            case b2 => exact Lies.new w1 #[.int .i64 x.e.id] _
            case b3 => simp [Value.oneCell']
            case b4 => unfold maxLen; omega
            case b5 => omega
            case b6 => have := HB2.out.size; simp; omega
            case b7 =>
              intro v3 w3 hown3 hg3 _
              have HB3 := Lib.hid ((HB2.out.alloc HB2.out.size (.cells #[.int .i64 x.e.id] 2)).grown hg3 (Nat.le_trans HB2.out.size (by simp)) (fun g e => by
                rcases HR2.out.2 with ⟨e2, -⟩ | ⟨g', cap, cur, e2, hbg, -⟩
                · rw [e2] at e; cases e
                · rw [e2] at e; injection e with e; rw [← e]; exact hbg))
              rw [HTN.out] at hown3
              obtain ⟨A3, c3, rfl, -⟩ := row_form hown3
              have HO3 := Lib.hid hown3
              clear hown3 hg3
              go_wp2
              go_roundw
              case rel => exact ⟨k + 1, m + 1, c3, A3, by go_num, rfl, by omega, by omega, HLN.out, HO3.out, HB3.out⟩
              case measure => simp [intOf]; omega
    · obtain rfl : k = n := by omega
      have HRE := Lib.hid (show run (M.take k) qa = run M qa by rw [List.take_of_length_le (by rw [HML.out]; omega)])
      have HBE := Lib.hid (HB1.out.trans (HBR.out.mono HB1.out.size))
      clear hbr
      go_wp2
      go_ret
      refine ⟨_, rfl, ?_, by have := HBE.out; rwa [HB.out] at this⟩
      rw [← HRE.out, HRL.out]
      exact own_mono14 HROW.out (by have := HZ.out; have := HB.out; omega)
end Go.Proofs.Ytcoedohfggeaiaa

