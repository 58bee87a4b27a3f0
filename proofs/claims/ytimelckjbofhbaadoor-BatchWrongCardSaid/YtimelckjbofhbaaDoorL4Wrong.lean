/-
  P4.1, BatchWrong: for all spans the law returns true: with one span that is not right, or more than 256, there are no bytes; else each span's bytes are there, in order. No condition; what the row lists is tied to the program's text.
-/
import Derived.Test.YtimelckjbofhbaaDoorBatHd
namespace Go.Proofs.YtimelckjbofhbaaDoor.batchWrong
open Go.ChangeShapes Go.WideShapes Go.ChangeAt Go.RowKit
set_option maxRecDepth 100000

/-- how many bytes spans put, one behind the other -/
def outs (l : List Plain.Sp) : Nat := (l.map fun x => x.outp.length).sum
theorem outs_succ (l : List Plain.Sp) (k : Nat) (h : k < l.length) : outs (l.take (k + 1)) = outs (l.take k) + l[k].outp.length := by
  unfold outs
  rw [List.take_succ_eq_append_getElem h, List.map_append, List.sum_append]
  simp
theorem outs_le (l : List Plain.Sp) : outs l ≤ 101 * l.length := by
  induction l with
  | nil => simp [outs]
  | cons x l ih =>
    have := x.put_max
    simp only [outs, List.map_cons, List.sum_cons, List.length_cons] at ih ⊢
    omega
theorem outs_wire (l : List Plain.Sp) (h : ∀ x ∈ l, x.right = true) : outs l = (Plain.wire l).length := by
  induction l with
  | nil => rfl
  | cons x l ih =>
    have h1 := ih fun y hy => h y (by simp [hy])
    rw [Plain.wire_cons, List.length_append, ← h1, ← outp_right x (h x (by simp))]
    simp [outs]
theorem all_succ (l : List Plain.Sp) (k : Nat) (h : k < l.length) : (l.take (k + 1)).all Plain.Sp.right = ((l.take k).all Plain.Sp.right && l[k].right) := by
  rw [List.take_succ_eq_append_getElem h, List.all_append]; simp

set_option maxHeartbeats 8000000 in
theorem walk (w : World) (hT : Handle w ∧ Tab w) (A : Option Addr) (cap : Nat) (l : List Plain.Sp) (hl : l.length ≤ cap) (hm : cap ≤ maxLen) (hA : Lies w A (flat l)) (hS : ∀ x ∈ l, x.sv.length ≤ maxLen ∧ x.nm.length ≤ maxLen) :
    Calls Tryd.prog 7 #[.slice A l.length cap] w fun e w' => e = .returned (.bool true) ∧ Below w.heap.size w w' := by
  have HA := Lib.hid hA
  have HT := Lib.hid hT
  have HS := Lib.hid (show Fine l from hS)
  have HBL := Lib.hid (Plain.bput_len l)
  have HBZ := Lib.hid (Plain.bput_no l)
  have HIB := Lib.hid (show Plain.isB l = (decide (l.length ≤ 256) && l.all Plain.Sp.right) from rfl)
  have HOW := Lib.hid (outs_wire l)
  have HOL := Lib.hid (fun k => outs_le (l.take k))
  obtain ⟨n, hn⟩ : ∃ n, l.length = n := ⟨_, rfl⟩
  rw [hn] at hl HBL HIB ⊢
  have HN := Lib.hid hn
  have HM := Lib.hid hm
  unfold maxLen at hm
  clear hA hT hS hn
  go_enter Tryd.func7, Tryd.ntmps7
  go_wp2_with fail
  refine (head_any w HT.out).mono ?_
  rintro e w1 ⟨rfl, c1⟩
  go_wp2_with fail
  refine (great_any A n cap l w1 HN.out hl HM.out (HA.out.below c1)).mono ?_
  rintro e w2 ⟨g, rfl, hg, d2⟩
  have c2 := c1.trans (d2.mono c1.size)
  rcases g with _ | _
  rotate_left
  · go_wp2
    go_ret
    exact ⟨rfl, c2⟩
  have h300 := hg rfl
  clear hg
  by_cases h127 : 127 < n
  · obtain ⟨R0, hR0⟩ : ∃ R0 : Bool, decide ((n : Int) ≤ 256) = R0 := ⟨_, rfl⟩
    have hR1 : decide (n ≤ 256) = R0 := by rw [← hR0]; congr 1; simp only [eq_iff_iff]; omega
    rw [hR1] at HIB
    rw [if_neg (by omega)] at HBL
    clear hR1
    have h127' : decide (127 < (n : Int)) = true := by simp; omega
    go_wp2
    clear hR0
    go_loopw [4, 5, 6] (fun rv nv i wr => ∃ k : Nat, i = .int .i64 k ∧ k ≤ n ∧ rv = .bool (R0 && (l.take k).all Plain.Sp.right) ∧ nv = .int .i64 ((8 + outs (l.take k) : Nat) : Int) ∧ Below w.heap.size w wr) (fun _ _ i _ => n - (intOf i).toNat)
    case atStart => exact ⟨0, rfl, Nat.zero_le _, by simp, by simp [outs], c2⟩
    case round =>
      obtain ⟨k, rfl, hk, rfl, rfl, hbr⟩ := hrel
      have hol := HOL.out k
      have htl : (l.take k).length ≤ 300 := by rw [List.length_take]; omega
      by_cases hlt : k < n
      · have hkl : k < l.length := by rw [HN.out]; exact hlt
        obtain ⟨ad, rfl, hadb, hcl⟩ := at_span HA.out k hkl
        have HC := Lib.hid hcl
        obtain ⟨x0, x1, x2, x3, x4, x5, x6⟩ := hcl wr hbr
        obtain ⟨hxv, hxn⟩ := HS.out l[k] (List.getElem_mem hkl)
        have HOS := Lib.hid (outs_succ l k hkl)
        have HAS := Lib.hid (all_succ l k hkl)
        have hpm := l[k].put_max
        have HPT := Lib.hid (fun (u : World) => rspanPut_any none 0 0 [] l[k] u rfl (by omega) Lies.nil hxv hxn)
        have hR := sp_right l[k]
        rw [← str_size] at hxv hxn
        clear hcl
        generalize l[k].outp = qo at *
        generalize l[k] = x at *
        obtain ⟨R, hRR⟩ : ∃ R, x.right = R := ⟨_, rfl⟩
        rw [hRR] at hR HAS
        have HR := Lib.hid hR
        clear hR hRR
        obtain ⟨xt, xi, xp, xs, xd, xv, xn⟩ := x
        simp only at *
        generalize str xv = XV at *
        generalize str xn = XN at *
        obtain ⟨RK, hRK⟩ : ∃ RK, (R0 && (l.take k).all Plain.Sp.right) = RK := ⟨_, rfl⟩
        have HRK := Lib.hid (show (R0 && (l.take (k + 1)).all Plain.Sp.right) = (RK && R) by rw [HAS.out, ← Bool.and_assoc, hRK])
        rw [hRK]
        clear hRK HAS
        generalize outs (l.take k) = ok at *
        rcases RK with _ | _
        · go_wp2_with fail
          clear x0 x1 x2 x3 x4 x5 x6
          refine (HPT.out wr).mono ?_
          rintro e w4 ⟨v4, rfl, ⟨B4, n4, ho4⟩, d4⟩
          obtain ⟨A4, cap4, rfl, hl4, hm4, hle4, -⟩ := own_form ho4
          rw [cells_length, List.nil_append] at hle4
          subst hle4
          clear ho4
          have c4 := hbr.trans (d4.mono hbr.size)
          go_wp2
          go_roundw
          case rel => exact ⟨k + 1, by go_num, by omega, by rw [HRK.out]; rfl, by rw [HOS.out]; go_num, c4⟩
          case measure => simp [intOf]; omega
        · go_wp2_with fail
          clear x0 x1 x2 x3 x4 x5 x6
          refine (rright_any xt xi xp xs xd XV XN wr R hxv hxn HR.out).mono ?_
          rintro e w3 ⟨rfl, d3⟩
          have c3 := hbr.trans (d3.mono hbr.size)
          obtain ⟨x0, x1, x2, x3, x4, x5, x6⟩ := HC.out w3 c3
          go_wp2_with fail
          clear x0 x1 x2 x3 x4 x5 x6
          refine (HPT.out w3).mono ?_
          rintro e w4 ⟨v4, rfl, ⟨B4, n4, ho4⟩, d4⟩
          obtain ⟨A4, cap4, rfl, hl4, hm4, hle4, -⟩ := own_form ho4
          rw [cells_length, List.nil_append] at hle4
          subst hle4
          clear ho4
          have c4 := c3.trans (d4.mono c3.size)
          go_wp2
          go_roundw
          case rel => exact ⟨k + 1, by go_num, by omega, by rw [HRK.out]; rfl, by rw [HOS.out]; go_num, c4⟩
          case measure => simp [intOf]; omega
      · obtain rfl : k = n := by omega
        have htk : l.take k = l := List.take_of_length_le (by rw [HN.out]; omega)
        rw [htk, ← HIB.out]
        rw [htk] at hol
        have HPU := Lib.hid (batchPut_any A k cap l wr (HT.out.2.below hbr (Nat.le_refl _)) HN.out (by unfold maxLen; omega) (HA.out.below hbr) HS.out)
        have HIB2 := Lib.hid (Plain.isB_iff l)
        obtain ⟨RB, hRB⟩ : ∃ RB, Plain.isB l = RB := ⟨_, rfl⟩
        rw [hRB] at HBL HBZ HIB2 ⊢
        clear hRB htk HIB
        rcases RB with _ | _
        · have HE := Lib.hid (HBZ.out rfl)
          rw [HE.out] at HPU
          go_wp2_with fail
          refine HPU.out.mono ?_
          rintro e w5 ⟨v5, rfl, ho5, d5⟩
          obtain ⟨A5, cap5, rfl, -⟩ := own_form ho5
          clear ho5
          go_wp2
          go_ret
          exact ⟨rfl, hbr.trans (d5.mono hbr.size)⟩
        · have hbl := HBL.out rfl
          rw [← HOW.out (HIB2.out.1 rfl).2] at hbl
          have HBL2 := Lib.hid hbl
          clear hbl
          generalize outs l = ol at *
          go_wp2_with fail
          refine HPU.out.mono ?_
          rintro e w5 ⟨v5, rfl, ho5, d5⟩
          obtain ⟨A5, cap5, rfl, -⟩ := own_form ho5
          rw [HBL2.out]
          clear ho5
          go_wp2
          go_ret
          exact ⟨by simp, hbr.trans (d5.mono hbr.size)⟩
  · obtain ⟨R0, hR0⟩ : ∃ R0 : Bool, decide ((n : Int) ≤ 256) = R0 := ⟨_, rfl⟩
    have hR1 : decide (n ≤ 256) = R0 := by rw [← hR0]; congr 1; simp only [eq_iff_iff]; omega
    rw [hR1] at HIB
    rw [if_pos (by omega)] at HBL
    clear hR1
    go_wp2
    clear hR0
    go_loopw [4, 5, 6] (fun rv nv i wr => ∃ k : Nat, i = .int .i64 k ∧ k ≤ n ∧ rv = .bool (R0 && (l.take k).all Plain.Sp.right) ∧ nv = .int .i64 ((7 + outs (l.take k) : Nat) : Int) ∧ Below w.heap.size w wr) (fun _ _ i _ => n - (intOf i).toNat)
    case atStart => exact ⟨0, rfl, Nat.zero_le _, by simp, by simp [outs], c2⟩
    case round =>
      obtain ⟨k, rfl, hk, rfl, rfl, hbr⟩ := hrel
      have hol := HOL.out k
      have htl : (l.take k).length ≤ 300 := by rw [List.length_take]; omega
      by_cases hlt : k < n
      · have hkl : k < l.length := by rw [HN.out]; exact hlt
        obtain ⟨ad, rfl, hadb, hcl⟩ := at_span HA.out k hkl
        have HC := Lib.hid hcl
        obtain ⟨x0, x1, x2, x3, x4, x5, x6⟩ := hcl wr hbr
        obtain ⟨hxv, hxn⟩ := HS.out l[k] (List.getElem_mem hkl)
        have HOS := Lib.hid (outs_succ l k hkl)
        have HAS := Lib.hid (all_succ l k hkl)
        have hpm := l[k].put_max
        have HPT := Lib.hid (fun (u : World) => rspanPut_any none 0 0 [] l[k] u rfl (by omega) Lies.nil hxv hxn)
        have hR := sp_right l[k]
        rw [← str_size] at hxv hxn
        clear hcl
        generalize l[k].outp = qo at *
        generalize l[k] = x at *
        obtain ⟨R, hRR⟩ : ∃ R, x.right = R := ⟨_, rfl⟩
        rw [hRR] at hR HAS
        have HR := Lib.hid hR
        clear hR hRR
        obtain ⟨xt, xi, xp, xs, xd, xv, xn⟩ := x
        simp only at *
        generalize str xv = XV at *
        generalize str xn = XN at *
        obtain ⟨RK, hRK⟩ : ∃ RK, (R0 && (l.take k).all Plain.Sp.right) = RK := ⟨_, rfl⟩
        have HRK := Lib.hid (show (R0 && (l.take (k + 1)).all Plain.Sp.right) = (RK && R) by rw [HAS.out, ← Bool.and_assoc, hRK])
        rw [hRK]
        clear hRK HAS
        generalize outs (l.take k) = ok at *
        rcases RK with _ | _
        · go_wp2_with fail
          clear x0 x1 x2 x3 x4 x5 x6
          refine (HPT.out wr).mono ?_
          rintro e w4 ⟨v4, rfl, ⟨B4, n4, ho4⟩, d4⟩
          obtain ⟨A4, cap4, rfl, hl4, hm4, hle4, -⟩ := own_form ho4
          rw [cells_length, List.nil_append] at hle4
          subst hle4
          clear ho4
          have c4 := hbr.trans (d4.mono hbr.size)
          go_wp2
          go_roundw
          case rel => exact ⟨k + 1, by go_num, by omega, by rw [HRK.out]; rfl, by rw [HOS.out]; go_num, c4⟩
          case measure => simp [intOf]; omega
        · go_wp2_with fail
          clear x0 x1 x2 x3 x4 x5 x6
          refine (rright_any xt xi xp xs xd XV XN wr R hxv hxn HR.out).mono ?_
          rintro e w3 ⟨rfl, d3⟩
          have c3 := hbr.trans (d3.mono hbr.size)
          obtain ⟨x0, x1, x2, x3, x4, x5, x6⟩ := HC.out w3 c3
          go_wp2_with fail
          clear x0 x1 x2 x3 x4 x5 x6
          refine (HPT.out w3).mono ?_
          rintro e w4 ⟨v4, rfl, ⟨B4, n4, ho4⟩, d4⟩
          obtain ⟨A4, cap4, rfl, hl4, hm4, hle4, -⟩ := own_form ho4
          rw [cells_length, List.nil_append] at hle4
          subst hle4
          clear ho4
          have c4 := c3.trans (d4.mono c3.size)
          go_wp2
          go_roundw
          case rel => exact ⟨k + 1, by go_num, by omega, by rw [HRK.out]; rfl, by rw [HOS.out]; go_num, c4⟩
          case measure => simp [intOf]; omega
      · obtain rfl : k = n := by omega
        have htk : l.take k = l := List.take_of_length_le (by rw [HN.out]; omega)
        rw [htk, ← HIB.out]
        rw [htk] at hol
        have HPU := Lib.hid (batchPut_any A k cap l wr (HT.out.2.below hbr (Nat.le_refl _)) HN.out (by unfold maxLen; omega) (HA.out.below hbr) HS.out)
        have HIB2 := Lib.hid (Plain.isB_iff l)
        obtain ⟨RB, hRB⟩ : ∃ RB, Plain.isB l = RB := ⟨_, rfl⟩
        rw [hRB] at HBL HBZ HIB2 ⊢
        clear hRB htk HIB
        rcases RB with _ | _
        · have HE := Lib.hid (HBZ.out rfl)
          rw [HE.out] at HPU
          go_wp2_with fail
          refine HPU.out.mono ?_
          rintro e w5 ⟨v5, rfl, ho5, d5⟩
          obtain ⟨A5, cap5, rfl, -⟩ := own_form ho5
          clear ho5
          go_wp2
          go_ret
          exact ⟨rfl, hbr.trans (d5.mono hbr.size)⟩
        · have hbl := HBL.out rfl
          rw [← HOW.out (HIB2.out.1 rfl).2] at hbl
          have HBL2 := Lib.hid hbl
          clear hbl
          generalize outs l = ol at *
          go_wp2_with fail
          refine HPU.out.mono ?_
          rintro e w5 ⟨v5, rfl, ho5, d5⟩
          obtain ⟨A5, cap5, rfl, -⟩ := own_form ho5
          rw [HBL2.out]
          clear ho5
          go_wp2
          go_ret
          exact ⟨by simp, hbr.trans (d5.mono hbr.size)⟩


set_option maxRecDepth 100000 in
theorem lifted (os : Os) (started : os.Started) (H : Type) (enc : TypeId × Value → H) :
    ReturnsInHanded {} Tryd.checked os 7 .any (fun w args => (Rows.batchWrongSpec.pre enc Tryd.prog Tryd.f7 [] false w args ∧ laidMetH Tryd.prog laidBoth w) ∧ sizedMet enc Tryd.prog Tryd.f7 (OpenSpec.ofChange Rows.batchWrongSpec) false w args) (Rows.batchWrongSpec.post enc Tryd.prog Tryd.f7 false true false false) := by
  refine returnsInHanded_of_change_and (C := Tryd.checked) (X := fun w _ => laidMetH Tryd.prog laidBoth w) (fun _ _ _ hh h => h.of_heap hh) own started (by kernel_rfl) Tryd.func7
    (ChangeSpec.witness_at (enc := enc) (C := Tryd.checked) (os := os) (X := fun w _ => laidMetH Tryd.prog laidBoth w) false (bothWorld os) #[.slice none 0 0] 8 rfl (by kernel_rfl) (by kernel_rfl) (by kernel_rfl) (by kernel_rfl) (by kernel_rfl) (bothWorld_met os _)) ?_
  intro W base args ds gs before hval0 hW _ _ hL _
  have hval : ∀ (j : Nat) t v, Tryd.f7.params[j]? = some t → args[j]? = some v → Value.okWide Tryd.prog W .any base t v := hval0
  have hfin := fun W' => law_post (enc := enc) (P := Tryd.prog) (f := Tryd.f7) (s := Rows.batchWrongSpec) (tb := 4) (W := W) (W' := W') (args := args) (ds := ds) (gs := gs) (before := before) laidOut rfl (by kernel_rfl) Tryd.underlying4 (by kernel_rfl) (fun xs h => by rw [Tryd.params7] at h; match xs, h with | [_], _ => rfl) hW
  have hlt : ∀ x ∈ before, x.block < W.heap.size := fun x hx => hW.lt x hx
  obtain ⟨p, q, hA0, hV, rfl, hfz, hnd⟩ := hW
  have hA : DataW.TrodAll enc Tryd.prog W 0 (fun _ => true) true Tryd.f7.params.toList args.toList ds p := hA0
  rw [Tryd.params7] at hA hval
  obtain ⟨v0, vs0, d0, ds0, p0, q0, hargs, rfl, rfl, h0, r0⟩ := trodAll_cons hA
  obtain ⟨rfl, rfl, rfl⟩ := trodAll_nil r0
  obtain rfl : args = #[v0] := by cases args; simp_all
  obtain ⟨A0, cap0, l0, rfl, hl0, hm0, hB0, hS0⟩ := open_spans (hval 0 22 v0 rfl rfl) h0 (fun x hx => hlt x (by simp [hx]))
  refine (walk W (of_both hL) A0 cap0 l0 hl0 hm0 hB0 hS0).mono fun e W' ⟨he, hg⟩ => ?_
  subst he
  exact ⟨_, rfl, hfin W' hg⟩

theorem proved : Rows.BatchWrongSaid :=
  OpenClaim.holds_of_wide 7 Tryd.f7 rfl rfl rfl rfl rfl rfl rfl ⟨rfl, rfl, rfl, rfl, rfl⟩ rfl rfl rfl rfl rfl (by kernel_rfl) Tryd.func7 (by kernel_rfl)
    (of_decide_eq_true (by kernel_rfl)) (by unfold Func.isWrapper; first | (rw [if_pos (by decide +kernel)]; kernel_rfl) | (rw [if_neg (by decide +kernel)]; exact ⟨rfl, rfl⟩))
    (fun os started H enc _ => lifted os started H enc)

set_option maxRecDepth 100000 in
theorem card : Rows.BatchWrongCardSaid :=
  Claim7.holds_tied_plain_at .later [] kindsBoth true _ true
    proved (fun _ h => by cases h) (by kernel_rfl) (fun _ h => by cases h) batchWrong_row_tie rfl ⟨rfl, rfl⟩ (by kernel_rfl) rfl
    (fun f fn hf hfn => by
      obtain rfl : f = 7 := Option.some.inj ((show Tryd.prog.funcNamed "turntable/turntablelaw04.BatchWrong" = some 7 by kernel_rfl).symm.trans hf) |>.symm
      obtain rfl : fn = Tryd.f7 := (Option.some.inj (Tryd.func7.symm.trans hfn)).symm
      exact ⟨by kernel_rfl, fun j t ht => by
        rw [Tryd.params7] at ht
        have hm : t ∈ [22] := by simpa using Array.mem_of_getElem? ht
        have hall : ([22].all fun u => !Tryd.prog.wantsStandIn u) = true := by kernel_rfl
        exact (show Tryd.prog.wantsStandIn t = false by simpa using List.all_eq_true.1 hall t hm)⟩)
    (by kernel_rfl)
#print axioms card
end Go.Proofs.YtimelckjbofhbaaDoor.batchWrong
