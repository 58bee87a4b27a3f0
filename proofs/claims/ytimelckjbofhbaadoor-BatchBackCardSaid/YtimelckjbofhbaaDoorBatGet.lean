/-
  Layer 4: batch.decode and batch.Get: what they answer, of any bytes. Assumed: that the bytes lie in memory, that the program's table of sums holds what its text lays there, and that errors.errorType is what its own text lays.
-/
import Derived.Test.YtimelckjbofhbaaDoorBatB
import Derived.Test.YtimelckjbofhbaaDoorBatA
import Derived.Test.YtimelckjbofhbaaDoorSpanO
namespace Go.Proofs.YtimelckjbofhbaaDoor
open Go.RowKit
set_option maxRecDepth 100000

theorem GivesS.from {w w1 w2 : World} {l : List Plain.Sp} {v : Value} (h : GivesS w1 w2 l v) (hb : Below w.heap.size w w1) : GivesS w w2 l v := by
  obtain ⟨A, cap, e, h1, h2, h3, h4⟩ := h
  exact ⟨A, cap, e, h1, h2, h3, hb.trans (h4.mono hb.size)⟩
theorem hd_small (x : List UInt8) : (Plain.hd x).1 ≤ 256 ∧ (Plain.hd x).2.1 ≤ x.length := by
  have hsm := Plain.get_small (x.drop 2)
  rw [List.length_drop] at hsm
  unfold Plain.hd
  split
  · simp
  rename_i h1
  have h2 : 2 ≤ x.length := by
    have h1' : x.take 2 = [84, 66] := by simpa using h1
    have := congrArg List.length h1'
    rw [List.length_take] at this
    simp at this; omega
  split
  · simp
  split
  · simp
  · simp only; omega

set_option maxHeartbeats 4000000 in
theorem decode_any (A : Option Addr) (n cap : Nat) (b : List UInt8) (w : World) (hH : Handle w) (hT : Tab w) (hn : b.length = n) (hc : n ≤ cap) (_hm : cap ≤ maxLen) (hf : n ≤ 1099511627776) (hA : Lies w A (cells b)) (l : List Plain.Sp) (p c : Nat) (hr : Plain.dec b = (l, p, c)) :
    Calls Tryd.prog 20 #[.slice A n cap] w fun e w' => ∃ v, e = .returned (.tuple #[v, errB p c]) ∧ GivesS w w' l v := by
  unfold Plain.dec at hr
  rw [hn] at hr
  by_cases h7 : n < 7
  · rw [if_pos h7] at hr
    simp only [Prod.mk.injEq] at hr
    obtain ⟨rfl, rfl, rfl⟩ := hr
    clear hH hT hA hn
    go_enter Tryd.func20, Tryd.ntmps20
    go_wp2
    go_returns
    exact ⟨_, by rw [errB_pos 0 11 (by omega)]; rfl, GivesS.nil (Below.refl _ _)⟩
  rw [if_neg h7] at hr
  have HO := Lib.hid (open_walk A cap n b w hn hf hc hA hT)
  have HH := Lib.hid hH
  have HN := Lib.hid hn
  clear hH hT hA hn
  by_cases ho : Crc.opens b
  rotate_left
  · rw [if_neg ho] at hr
    simp only [Prod.mk.injEq] at hr
    obtain ⟨rfl, rfl, rfl⟩ := hr
    have HNO := Lib.hid ho
    clear ho
    go_enter Tryd.func20, Tryd.ntmps20
    go_wp2_with fail
    refine HO.out.mono ?_
    rintro e w1 ⟨d1, h⟩
    rcases h with ⟨h, _⟩ | ⟨_, rfl⟩
    · exact absurd h HNO.out
    go_wp2
    go_returns
    exact ⟨_, by rw [errB_pos 0 21 (by omega)]; rfl, GivesS.nil d1⟩
  rw [if_pos ho] at hr
  have HYO := Lib.hid ho
  clear ho
  unfold Plain.bdec at hr
  have hsm := hd_small (b.take (n - 4))
  obtain ⟨x, hx⟩ : ∃ x, b.take (n - 4) = x := ⟨_, rfl⟩
  rw [hx] at hr hsm
  have hxl : x.length = n - 4 := by rw [← hx, List.length_take, HN.out]; omega
  rw [hxl] at hsm
  have HXL := Lib.hid hxl
  have HX := Lib.hid hx
  obtain ⟨N, hN⟩ : ∃ N, (Plain.hd x).1 = N := ⟨_, rfl⟩
  obtain ⟨a, ha⟩ : ∃ a, (Plain.hd x).2.1 = a := ⟨_, rfl⟩
  obtain ⟨q, hq⟩ : ∃ q, (Plain.hd x).2.2.1 = q := ⟨_, rfl⟩
  obtain ⟨f, hf2⟩ : ∃ f, (Plain.hd x).2.2.2 = f := ⟨_, rfl⟩
  have HHD := Lib.hid (show Plain.hd x = (N, a, q, f) by rw [← hN, ← ha, ← hq, ← hf2])
  rw [hN, ha, hq, hf2] at hr
  rw [hN, ha] at hsm
  have HR := Lib.hid hr
  clear hr hN ha hq hf2 hx hxl
  go_enter Tryd.func20, Tryd.ntmps20
  go_wp2_with fail
  refine HO.out.mono ?_
  rintro e w1 ⟨d1, h⟩
  rcases h with ⟨_, g, cg, rfl, how⟩ | ⟨h, _⟩
  rotate_left
  · exact absurd HYO.out h
  rw [HN.out] at how ⊢
  have hLx : Lies w1 (some ⟨g, 0, none⟩) (cells x) := by
    have := (Lies.own how).take (n - 4)
    rw [cells_take, HX.out] at this
    exact this
  have HLX := Lib.hid hLx
  clear how hLx
  have HT := Lib.hid (takeHead_any (some ⟨g, 0, none⟩) (n - 4) (n - 4) x w1 HXL.out (Nat.le_refl _) (by unfold maxLen; omega) HLX.out N a q f HHD.out)
  go_wp2_with fail
  refine HT.out.mono ?_
  rintro e w2 ⟨rfl, d2⟩
  have c2 := d1.trans (d2.mono d1.size)
  by_cases hf0 : f = 0
  · subst hf0
    have hR := HR.out
    rw [if_neg (by omega)] at hR
    have HTS := Lib.hid (takeSpans_any (some ⟨g, 0, none⟩) (n - 4) (n - 4) x w2 (HH.out.below HH.out.lt c2) HXL.out (Nat.le_refl _) (by unfold maxLen; omega) (by omega) (HLX.out.below d2) N a hsm.1 hsm.2 l p c hR)
    clear hR
    rw [errB_zero]
    go_wp2_with fail
    refine HTS.out.mono ?_
    rintro e w3 ⟨v, rfl, hg⟩
    go_wp2
    go_returns
    exact ⟨_, rfl, hg.from c2⟩
  · have hR := HR.out
    rw [if_pos hf0] at hR
    simp only [Prod.mk.injEq] at hR
    obtain ⟨rfl, rfl, rfl⟩ := hR
    have HEB := Lib.hid (errB_pos q f hf0)
    rw [HEB.out]
    go_wp2
    go_returns
    exact ⟨_, by rw [HEB.out]; rfl, GivesS.nil c2⟩

/-- what Get hands back -/
def GetPost (w : World) (r : List Plain.Sp × Nat × Nat) (e : Ending) (w' : World) : Prop := ∃ v, e = .returned (.tuple #[v, .int .i64 r.2.1, .int .i64 r.2.2]) ∧ GivesS w w' r.1 v

set_option maxHeartbeats 4000000 in
theorem batchGet_any (A : Option Addr) (n cap : Nat) (b : List UInt8) (w : World) (hH : Handle w) (hT : Tab w) (hn : b.length = n) (hc : n ≤ cap) (hm : cap ≤ maxLen) (hf : n ≤ 1099511627776) (hA : Lies w A (cells b)) :
    Calls Tryd.prog 11 #[.slice A n cap] w (GetPost w (Plain.bget b)) := by
  obtain ⟨l, hl⟩ : ∃ l, (Plain.dec b).1 = l := ⟨_, rfl⟩
  obtain ⟨p, hp⟩ : ∃ p, (Plain.dec b).2.1 = p := ⟨_, rfl⟩
  obtain ⟨c, hcc⟩ : ∃ c, (Plain.dec b).2.2 = c := ⟨_, rfl⟩
  have hcode := Plain.dec_code b
  have HD := Lib.hid (decode_any A n cap b w hH hT hn hc hm hf hA l p c (by rw [← hl, ← hp, ← hcc]))
  have hg : Plain.bget b = if c ≠ 0 then ([], p, c) else (l, n, 0) := by unfold Plain.bget; rw [hcc, hl, hp, hn]
  rw [hcc] at hcode
  have HG := Lib.hid hg
  have HH := Lib.hid hH
  clear hl hp hcc hg hH hT hA hn
  generalize Plain.bget b = gb at *
  go_enter Tryd.func11, Tryd.ntmps11
  go_wp2_with fail
  refine HD.out.mono ?_
  rintro e w1 ⟨v, rfl, hgv⟩
  by_cases hc0 : c = 0
  · subst hc0
    rw [errB_zero]
    obtain ⟨Av, capv, rfl, hv1, hv2, hv3, d1⟩ := hgv
    have HV := Lib.hid (hv3.keep (w' := w1.alloc (.cells #[.int .i64 0, .nilIface] 47)) (by simp) fun q hq => World.cell?_alloc_lt _ _ q hq)
    have c1 : Below w.heap.size w (w1.alloc (.cells #[.int .i64 0, .nilIface] 47)) := d1.alloc d1.size _
    clear hv3
    go_wp2_with fail
    generalize w1.alloc (.cells #[.int .i64 0, .nilIface] 47) = W2 at *
    refine (as_nil _ _).mono ?_
    rintro e w2 ⟨rfl, rfl⟩
    go_wp2
    go_returns
    rw [HG.out]
    exact ⟨.slice Av l.length capv, rfl, Av, capv, rfl, hv1, hv2, HV.out, c1⟩
  · rw [errB_pos p c hc0]
    have hgl : gb = ([], p, c) := by rw [HG.out, if_pos hc0]
    obtain ⟨Av, capv, rfl, hv1, hv2, hv3, d1⟩ := hgv
    have hB := Blk.new w1 #[.int .i64 0, .nilIface] 47
    have c1 : Below w.heap.size w (w1.alloc (.cells #[.int .i64 0, .nilIface] 47)) := d1.alloc d1.size _
    have HGL := Lib.hid hgl
    clear hv3 hv1 hv2 hgl HG
    have HAS := Lib.hid (asB_is p c w1.heap.size (.int .i64 0) .nilIface _ (HH.out.below HH.out.lt c1) hB)
    clear hB
    obtain ⟨te, hte⟩ : ∃ te, w1.heap.size = te := ⟨_, rfl⟩
    have hds := d1.size
    rw [hte] at HAS hds
    go_wp2_with fail
    generalize w1.alloc (.cells #[.int .i64 0, .nilIface] 47) = W2 at *
    clear hte d1
    refine HAS.out.mono ?_
    rintro e w2 ⟨rfl, t2, k2⟩
    have c2 : Below w.heap.size w w2 := k2.below c1 (by simp; omega)
    have HE := Lib.hid (fun W : World => errnoB_any p c W (by omega))
    have hbd : Below w2.heap.size w2 w2.drew := (Below.refl _ _).drew
    have HAT := Lib.hid (fun (W : World) (hW : Below w2.heap.size w2 W) => show (Instr.loadAt 3 (.pointer (some ⟨te, 0, none⟩))).run Tryd.prog W = .ok (.int .i64 p) W from by
      have c0 : W.cell? ⟨te, 0, none⟩ = some (.int .i64 p) := (hW.cell (p := ⟨te, 0, none⟩) t2.lt).trans (t2.cell 0)
      go_simp)
    clear HAS t2 k2 HD HH
    go_wp2
    refine wp_softS (by kernel_rfl) 23 [(16, [7]), (17, [16]), (18, [6]), (19, [18]), (2, []), (3, [17]), (4, [19])]
      [Fact.is (.pointer (some ⟨te, 0, none⟩)), Fact.is (.int .i64 p), Fact.is (.iface 47 (.agg #[.int .i64 p, .iface 26 (.int .i64 c)])), Fact.is (.int .i64 c), Fact.is (.slice none 0 0), Fact.is (.int .i64 p), Fact.is (.int .i64 c)]
      (by kernel_rfl) rfl rfl ⟨?s0, ?s1, ?s2, ?s3, ?s4, ?s5, ?s6, trivial⟩ ?fin
    case s0 =>
      intro ρ W hb hc hf hr
      obtain ⟨r7, -⟩ := hr
      have e7 : ρ (.tmp 7) = .pointer (some ⟨te, 0, none⟩) := r7
      clear r7
      refine under_none rfl ?_
      simp [execOp, e7, go_sem, softUpon, Fact.is, Below.refl]
    case s1 =>
      intro ρ W hb hc hf hr
      obtain ⟨r16, -⟩ := hr
      have e16 : ρ (.tmp 16) = .pointer (some ⟨te, 0, none⟩) := r16
      clear r16
      refine under_none rfl ?_
      exact soft_load e16 (HAT.out W (hbd.trans (hb.mono (by simp)))) rfl
    case s2 =>
      intro ρ W hb hc hf hr
      obtain ⟨r6, -⟩ := hr
      have e6 : ρ (.tmp 6) = .iface 47 (.agg #[.int .i64 p, .iface 26 (.int .i64 c)]) := r6
      clear r6
      refine under_none rfl ?_
      exact ⟨e6, Below.refl _ _⟩
    case s3 =>
      intro ρ W hb hc hf hr
      obtain ⟨r18, -⟩ := hr
      have e18 : ρ (.tmp 18) = .iface 47 (.agg #[.int .i64 p, .iface 26 (.int .i64 c)]) := r18
      clear r18
      refine under_none rfl ?_
      exact soft_call1 hf e18 (HE.out W) rfl (by kernel_rfl) below_is
    case s4 =>
      intro ρ W hb hc hf hr
      clear hr
      refine under_none rfl ?_
      exact ⟨hc _, Below.refl _ _⟩
    case s5 =>
      intro ρ W hb hc hf hr
      obtain ⟨r17, -⟩ := hr
      have e17 : ρ (.tmp 17) = .int .i64 p := r17
      clear r17
      refine under_none rfl ?_
      exact ⟨e17, Below.refl _ _⟩
    case s6 =>
      intro ρ W hb hc hf hr
      obtain ⟨r19, -⟩ := hr
      have e19 : ρ (.tmp 19) = .int .i64 c := r19
      clear r19
      refine under_none rfl ?_
      exact ⟨e19, Below.refl _ _⟩
    case fin =>
      intro a w3 hb hd hsz hk
      have ea := act_puts hd hsz rfl hk
      have k16 : a.tmps.getD 16 undef = .pointer (some ⟨te, 0, none⟩) := hk 16
      have k17 : a.tmps.getD 17 undef = .int .i64 p := hk 17
      have k18 : a.tmps.getD 18 undef = .iface 47 (.agg #[.int .i64 p, .iface 26 (.int .i64 c)]) := hk 18
      have k19 : a.tmps.getD 19 undef = .int .i64 c := hk 19
      have k2 : a.tmps.getD 2 undef = .slice none 0 0 := hk 2
      have k3 : a.tmps.getD 3 undef = .int .i64 p := hk 3
      have k4 : a.tmps.getD 4 undef = .int .i64 c := hk 4
      clear hk hd hsz
      simp only [List.map_cons, List.map_nil, List.foldl_cons, List.foldl_nil, k16, k17, k18, k19, k2, k3, k4] at ea
      clear k16 k17 k18 k19 k2 k3 k4
      simp only [Act.put, List.setIfInBounds_toArray, List.set_cons_succ, List.set_cons_zero] at ea
      subst ea
      have c3 : Below w.heap.size w w3 := c2.trans ((hbd.trans (hb.mono (by simp))).mono c2.size)
      go_wp2
      go_returns
      rw [HGL.out]
      exact ⟨.slice none 0 0, rfl, GivesS.nil c3⟩
end Go.Proofs.YtimelckjbofhbaaDoor

