/-
  Layer 13, the developers' rec: getSealed. Assumed: that the bytes lie in memory, and that a type has its handle.
-/
import Derived.Test.YtdfeccmcefcpbaaDoorRoE
import Derived.Test.YtdfeccmcefcpbaaDoorSpAs

namespace Go.Proofs.YtdfeccmcefcpbaaDoor
open Go.RowKit
set_option maxRecDepth 100000

theorem handle13_below {w w' : World} (h : Handle w) (hb : Below w.heap.size w w') : Handle w' := h.below h.lt hb

/-- getSealed's answer, but for the kind -/
def getS0 (x : List UInt8) : Option Rc.R := (Rc.getS x).map fun q => ⟨0, q.id, q.cls, q.tick, q.pin, q.sp⟩
theorem getS0_nil : getS0 [] = none := rfl
theorem getS0_is {x : List UInt8} (h : x ≠ []) : getS0 x = if (Plain.get (x.drop 1)).2.2 ≠ 0 then none else if (Plain.tget (x.drop (1 + (Plain.get (x.drop 1)).2.1))).2 ≠ 0 then none else
    some ⟨0, ((Plain.tget (x.drop (1 + (Plain.get (x.drop 1)).2.1))).1.headD Plain.Sp.zero).t, (((x.getD 0 0).toNat - if 8 ≤ (x.getD 0 0).toNat then 8 else 0 : Nat) : Int), ((Plain.get (x.drop 1)).1 : Nat), decide (8 ≤ (x.getD 0 0).toNat), (Plain.tget (x.drop (1 + (Plain.get (x.drop 1)).2.1))).1⟩ := by
  unfold getS0 Rc.getS
  rw [if_neg h]
  split
  · rfl
  · split <;> rfl

set_option maxHeartbeats 8000000 in
theorem dget13S_any (A : Option Addr) (n cap : Nat) (x : List UInt8) (w : World) (hH : Handle w) (hn : x.length = n) (hc : n ≤ cap) (hm : cap ≤ maxLen) (hf : n ≤ 1099511627776) (hA : Lies w A (cells x)) :
    Calls Tryd.prog 41 #[.slice A n cap] w (OGives w (getS0 x)) := by
  have hB0 : Below w.heap.size w (w.alloc (.cells #[.int .i64 0, .int .i64 0, .int .i64 0, .int .i64 0, .bool false, .slice none 0 0] 24)) := (Below.refl _ _).alloc (Nat.le_refl _) _
  have HZ0 := Lib.hid (Blk.new w #[.int .i64 0, .int .i64 0, .int .i64 0, .int .i64 0, .bool false, .slice none 0 0] 24)
  have HB0 := Lib.hid hB0
  rcases Nat.eq_zero_or_pos n with h0 | h0
  · subst h0
    obtain rfl : x = [] := List.eq_nil_of_length_eq_zero hn
    have HR := Lib.hid getS0_nil
    clear hB0 hA hn
    go_enter Tryd.func41, Tryd.ntmps41
    go_wp2_with (first | fail | refine wpList_storeR rfl _ _ rfl w.heap.size rfl 0 0 0 0 false none 0 0 rfl _ _ _ _ _ _ HZ0.out ?k9)
    case k9 =>
      intro w6 hb6 hk6
      obtain ⟨c0, c1, c2, c3, c4, c5⟩ := six13 hb6
      have HB6 := Lib.hid (Kept.below HB0.out hk6 (by simp))
      clear hb6 hk6
      go_wp2
      refine bodyPost_ret (v := .tuple #[.agg #[.int .i64 0, .int .i64 0, .int .i64 0, .int .i64 0, .bool false, .slice none 0 0], .bool false]) (by simp [results, Tryd.results41, go_sem, c0, c1, c2, c3, c4, c5, Result.andThen]) rfl ?_
      rw [HR.out]
      exact OGives.nil HB6.out

  have hxn : x ≠ [] := fun h => by rw [h] at hn; simp at hn; omega
  have hV := getS0_is hxn
  obtain ⟨ad, rfl, -⟩ := hA.at_ (k := 0) (by rw [cells_length]; omega)
  obtain ⟨bq, hbq⟩ : ∃ bq, (x.getD 0 0).toNat = bq := ⟨_, rfl⟩
  have hbq256 : bq < 256 := by rw [← hbq]; exact (x.getD 0 0).toNat_lt
  have HX0 := Lib.hid (fun (u : World) (h : Below w.heap.size w u) => show u.cell? ad = some (.int .u8 (bq : Int)) by
    obtain ⟨ad', e, -, h3⟩ := (hA.below h).at_ (k := 0) (by rw [cells_length]; omega)
    injection e with e; subst e
    rw [show ad = ad.add 0 from rfl, h3, ← hbq]
    simp [cells, List.getD_eq_getElem?_getD, List.getElem?_eq_getElem (show 0 < x.length by omega)])
  rw [hbq] at hV
  have hm' := hm
  unfold maxLen at hm'
  have hLd : Lies w (cutA (some ad) cap 1) (cells (x.drop 1)) := by
    have h := hA.drop (k := 1) (cap := cap) (by rw [cells_length]; omega)
    rw [cells_drop] at h
    exact h
  have hsl : ∀ W, (Instr.sliceAt 25 (.slice (some ad) n cap) (some (.int .i64 1)) none none).run Tryd.prog W = .ok (.slice (cutA (some ad) cap 1) (n - 1) (cap - 1)) W := fun W => slice_lo (some ad) n cap 1 W (by omega) hc (by omega)
  have hsm := Plain.get_small (x.drop 1)
  rw [List.length_drop, hn] at hsm
  obtain ⟨X, hX⟩ : ∃ X, (Plain.get (x.drop 1)).1 = X := ⟨_, rfl⟩
  obtain ⟨K, hK⟩ : ∃ K, (Plain.get (x.drop 1)).2.1 = K := ⟨_, rfl⟩
  obtain ⟨C, hC⟩ : ∃ C, (Plain.get (x.drop 1)).2.2 = C := ⟨_, rfl⟩
  generalize hCA : cutA (some ad) cap 1 = CA at *
  have HGT := Lib.hid (fun (W : World) (h : Below w.heap.size w W) => by
    have := get_any CA (cap - 1) (x.drop 1) W (by rw [List.length_drop, hn]; unfold maxLen; omega) (hLd.below h)
    rwa [List.length_drop, hn, hX, hK, hC] at this)
  rw [hX, hK] at hsm
  rw [hX, hK, hC] at hV
  have hCB := Plain.code_cases (x.drop 1)
  rw [hC] at hCB
  have hLe : Lies w (cutA CA (cap - 1) K) (cells (x.drop (1 + K))) := by
    have h := hLd.drop (k := K) (cap := cap - 1) (by rw [cells_length, List.length_drop]; omega)
    rw [cells_drop, List.drop_drop] at h
    exact h
  have hsl2 : ∀ W, (Instr.sliceAt 25 (.slice CA (n - 1) (cap - 1)) (some (.int .i64 (K : Int))) none none).run Tryd.prog W = .ok (.slice (cutA CA (cap - 1) K) (n - 1 - K) (cap - 1 - K)) W := fun W => slice_lo CA (n - 1) (cap - 1) K W (by omega) (by omega) (by unfold maxLen; omega)
  have HTG := Lib.hid (fun (W : World) (h : Below w.heap.size w W) => tget_any (cutA CA (cap - 1) K) (n - 1 - K) (cap - 1 - K) (x.drop (1 + K)) W (handle13_below hH h) (by rw [List.length_drop, hn]; omega) (by omega) (by unfold maxLen; omega) (by omega) (hLe.below h))
  have htf := tget_fine13 (x.drop (1 + K))
  have hti : (Plain.tget (x.drop (1 + K))).2 = 0 → 1 ≤ (Plain.tget (x.drop (1 + K))).1.length := fun h => by
    have := (Plain.tget_back (l := (Plain.tget (x.drop (1 + K))).1) (Prod.ext rfl h)).1
    exact (Plain.isT_len this).1
  have htc := Plain.tget_code (x.drop (1 + K))
  obtain ⟨sp, hsp⟩ : ∃ sp, (Plain.tget (x.drop (1 + K))).1 = sp := ⟨_, rfl⟩
  obtain ⟨D, hD⟩ : ∃ D, (Plain.tget (x.drop (1 + K))).2 = D := ⟨_, rfl⟩
  have HTG := Lib.hid (fun (W : World) (h : Below w.heap.size w W) => (HTG.out W h).mono (fun e w' (hh : TGetPost _ _ e w') => show ∃ (A : Option Addr) (cap : Nat), e = .returned (.tuple #[.slice A sp.length cap, .int .i64 (D : Int)]) ∧ sp.length ≤ cap ∧ cap ≤ maxLen ∧ Lies w' A (flat sp) ∧ Below W.heap.size W w' by
    obtain ⟨v, rfl, A9, cap9, rfl, q1, q2, q3, q4⟩ := hh
    rw [hsp] at q1 q3 ⊢
    rw [hD]
    exact ⟨A9, cap9, rfl, q1, q2, q3, q4⟩))
  rw [hsp, hD] at hV
  rw [hsp] at htf
  rw [hsp, hD] at hti
  rw [hD] at htc
  generalize cutA CA (cap - 1) K = CB at *
  obtain ⟨R, hR⟩ : ∃ R, getS0 x = R := ⟨_, rfl⟩
  rw [hR] at hV ⊢
  have HV := Lib.hid hV
  have HTF := Lib.hid htf
  have x0 := fun z => HX0.out ((w.alloc (.cells #[.int .i64 0, .int .i64 0, .int .i64 0, .int .i64 0, .bool false, .slice none 0 0] 24)).drewN z) (below_many hB0 z)
  have y0 := HX0.out _ hB0
  have dl : ((n : Int) == 0) = false := by rw [beq_eq_false_iff_ne]; omega
  have dq : ∃ b : Bool, decide ((8 : Int) ≤ (bq : Int)) = b ∧ decide (8 ≤ bq) = b := ⟨decide (8 ≤ bq), by by_cases h : 8 ≤ bq <;> simp [h] <;> omega, rfl⟩
  have hcl : decide (8 ≤ bq) = true → wrap64 ((bq : Int) - 8) = (bq : Int) - 8 := fun h => IntWalk.wrap64_in _ (by omega)
  obtain ⟨pn, dq1, dq2⟩ := dq
  have hclv : (((bq - if 8 ≤ bq then 8 else 0 : Nat)) : Int) = if pn then (bq : Int) - 8 else (bq : Int) := by
    rw [← dq2]
    by_cases h : 8 ≤ bq <;> simp [h] <;> omega
  rw [hclv, dq2] at HV
  rw [dq2] at hcl
  have hge : pn = true → 8 ≤ bq := fun h => by rw [h] at dq2; exact of_decide_eq_true dq2
  have HH := Lib.hid hH
  clear hX hK hC hCA hsp hD hR hV htf hB0 hA hn hLd hLe hxn hclv dq2 hm
  cases pn
  · clear hcl hge
    by_cases hc0 : C = 0
    rotate_left
    · have HR := Lib.hid (show R = none by rw [HV.out, if_pos hc0])
      have dC : ((C : Int) != 0) = true := by rw [bne_iff_ne]; omega
      clear hc0 htc hti
      go_enter Tryd.func41, Tryd.ntmps41
      go_wp2
      go_quiet (fail)
      go_wp2_with fail
      refine (HGT.out _ (below_many HB0.out _)).mono ?_
      rintro e w2 ⟨rfl, hb2⟩
      have HB2 := Lib.hid ((below_many HB0.out _).trans (hb2.mono HB0.out.size))
      have HZ2 := Lib.hid (show Blk w2 w.heap.size _ _ from (hb2.block _ HZ0.out.lt).trans HZ0.out)
      clear hb2 x0 y0
      go_wp2_with (first | fail | refine wpList_storeR rfl _ _ rfl w.heap.size rfl 0 0 0 0 false none 0 0 rfl _ _ _ _ _ _ HZ2.out ?k9)
      case k9 =>
        intro w6 hb6 hk6
        obtain ⟨c0, c1, c2, c3, c4, c5⟩ := six13 hb6
        have HB6 := Lib.hid (Kept.below HB2.out hk6 (by simp))
        clear hb6 hk6
        go_wp2
        refine bodyPost_ret (v := .tuple #[.agg #[.int .i64 0, .int .i64 0, .int .i64 0, .int .i64 0, .bool false, .slice none 0 0], .bool false]) (by simp [results, Tryd.results41, go_sem, c0, c1, c2, c3, c4, c5, Result.andThen]) rfl ?_
        rw [HR.out]
        exact OGives.nil HB6.out
    subst hc0
    by_cases hd0 : D = 0
    rotate_left
    · have HR := Lib.hid (show R = none by rw [HV.out, if_neg (by simp), if_pos hd0])
      have dD : ((D : Int) != 0) = true := by rw [bne_iff_ne]; omega
      clear hd0 htc hti
      go_enter Tryd.func41, Tryd.ntmps41
      go_wp2
      go_quiet (fail)
      go_wp2_with fail
      refine (HGT.out _ (below_many HB0.out _)).mono ?_
      rintro e w2 ⟨rfl, hb2⟩
      have HB2 := Lib.hid ((below_many HB0.out _).trans (hb2.mono HB0.out.size))
      have HZ2 := Lib.hid (show Blk w2 w.heap.size _ _ from (hb2.block _ HZ0.out.lt).trans HZ0.out)
      clear hb2 x0 y0
      go_wp2_with fail
      refine (HTG.out w2 HB2.out).mono ?_
      rintro e w3 ⟨A3, cap3, rfl, hl3, hm3, hL3, hb3⟩
      have HB3 := Lib.hid (HB2.out.trans (hb3.mono HB2.out.size))
      have HZ3 := Lib.hid (show Blk w3 w.heap.size _ _ from (hb3.block _ HZ2.out.lt).trans HZ2.out)
      have HL3 := Lib.hid hL3
      clear hb3 hL3
      go_wp2_with (first | fail | refine wpList_storeR rfl _ _ rfl w.heap.size rfl 0 0 0 0 false none 0 0 rfl _ _ _ _ _ _ HZ3.out ?k9)
      case k9 =>
        intro w6 hb6 hk6
        obtain ⟨c0, c1, c2, c3, c4, c5⟩ := six13 hb6
        have HB6 := Lib.hid (Kept.below HB3.out hk6 (by simp))
        clear hb6 hk6
        go_wp2
        refine bodyPost_ret (v := .tuple #[.agg #[.int .i64 0, .int .i64 0, .int .i64 0, .int .i64 0, .bool false, .slice none 0 0], .bool false]) (by simp [results, Tryd.results41, go_sem, c0, c1, c2, c3, c4, c5, Result.andThen]) rfl ?_
        rw [HR.out]
        exact OGives.nil HB6.out
    subst hd0
    have hs1 := hti rfl
    have HR := Lib.hid (show R = some ⟨0, (sp.headD Plain.Sp.zero).t, (bq : Int), (X : Nat), false, sp⟩ by rw [HV.out, if_neg (by simp), if_neg (by simp)]; rfl)
    clear htc hti HV
    go_enter Tryd.func41, Tryd.ntmps41
    go_wp2
    go_quiet (fail)
    go_wp2_with fail
    refine (HGT.out _ (below_many HB0.out _)).mono ?_
    rintro e w2 ⟨rfl, hb2⟩
    have HB2 := Lib.hid ((below_many HB0.out _).trans (hb2.mono HB0.out.size))
    have HZ2 := Lib.hid (show Blk w2 w.heap.size _ _ from (hb2.block _ HZ0.out.lt).trans HZ0.out)
    clear hb2 x0 y0
    go_wp2_with fail
    refine (HTG.out w2 HB2.out).mono ?_
    rintro e w3 ⟨A3, cap3, rfl, hl3, hm3, hL3, hb3⟩
    have HB3 := Lib.hid (HB2.out.trans (hb3.mono HB2.out.size))
    have HZ3 := Lib.hid (show Blk w3 w.heap.size _ _ from (hb3.block _ HZ2.out.lt).trans HZ2.out)
    have HL3 := Lib.hid hL3
    clear hb3 hL3
    obtain ⟨ad3, rfl, -, hcc⟩ := at_span HL3.out 0 (by omega)
    have z0 : w3.cell? ad3 = some (.int .i64 (sp.headD Plain.Sp.zero).t) := by
      rw [head_at (by omega)]
      exact (hcc w3 (Below.refl _ _)).1
    obtain ⟨zt, hzt⟩ : ∃ zt, (sp.headD Plain.Sp.zero).t = zt := ⟨_, rfl⟩
    rw [hzt] at z0 HR
    obtain ⟨m, hm3'⟩ : ∃ m, sp.length = m := ⟨_, rfl⟩
    have HML := Lib.hid hm3'
    rw [hm3'] at hs1 hl3 ⊢
    clear hcc hzt hm3'
    go_wp2_with (first | fail | refine wpList_storeR rfl _ _ rfl w.heap.size rfl 0 zt (bq : Int) (X : Int) false (some ad3) m cap3 rfl _ _ _ _ _ _ HZ3.out ?k9)
    case k9 =>
      intro w6 hb6 hk6
      obtain ⟨c0, c1, c2, c3, c4, c5⟩ := six13 hb6
      have HB6 := Lib.hid (Kept.below HB3.out hk6 (by simp))
      have HL6 := Lib.hid (lies_other13 HL3.out HZ3.out (by simp) hk6)
      clear hb6 hk6 z0
      go_wp2
      refine bodyPost_ret (v := .tuple #[.agg #[.int .i64 0, .int .i64 zt, .int .i64 (bq : Int), .int .i64 (X : Int), .bool false, .slice (some ad3) m cap3], .bool true]) (by simp [results, Tryd.results41, go_sem, c0, c1, c2, c3, c4, c5, Result.andThen]) rfl ?_
      rw [HR.out]
      exact ⟨some ad3, cap3, by rw [← HML.out]; rfl, by rw [← HML.out] at hl3; exact hl3, hm3, HL6.out, HTF.out, HB6.out⟩
  · have hcw := hcl rfl
    have hge8 := hge rfl
    clear hcl hge
    by_cases hc0 : C = 0
    rotate_left
    · have HR := Lib.hid (show R = none by rw [HV.out, if_pos hc0])
      have dC : ((C : Int) != 0) = true := by rw [bne_iff_ne]; omega
      clear hc0 htc hti
      go_enter Tryd.func41, Tryd.ntmps41
      go_wp2
      go_quiet (fail)
      go_wp2_with fail
      refine (HGT.out _ (below_many HB0.out _)).mono ?_
      rintro e w2 ⟨rfl, hb2⟩
      have HB2 := Lib.hid ((below_many HB0.out _).trans (hb2.mono HB0.out.size))
      have HZ2 := Lib.hid (show Blk w2 w.heap.size _ _ from (hb2.block _ HZ0.out.lt).trans HZ0.out)
      clear hb2 x0 y0
      go_wp2_with (first | fail | refine wpList_storeR rfl _ _ rfl w.heap.size rfl 0 0 0 0 false none 0 0 rfl _ _ _ _ _ _ HZ2.out ?k9)
      case k9 =>
        intro w6 hb6 hk6
        obtain ⟨c0, c1, c2, c3, c4, c5⟩ := six13 hb6
        have HB6 := Lib.hid (Kept.below HB2.out hk6 (by simp))
        clear hb6 hk6
        go_wp2
        refine bodyPost_ret (v := .tuple #[.agg #[.int .i64 0, .int .i64 0, .int .i64 0, .int .i64 0, .bool false, .slice none 0 0], .bool false]) (by simp [results, Tryd.results41, go_sem, c0, c1, c2, c3, c4, c5, Result.andThen]) rfl ?_
        rw [HR.out]
        exact OGives.nil HB6.out
    subst hc0
    by_cases hd0 : D = 0
    rotate_left
    · have HR := Lib.hid (show R = none by rw [HV.out, if_neg (by simp), if_pos hd0])
      have dD : ((D : Int) != 0) = true := by rw [bne_iff_ne]; omega
      clear hd0 htc hti
      go_enter Tryd.func41, Tryd.ntmps41
      go_wp2
      go_quiet (fail)
      go_wp2_with fail
      refine (HGT.out _ (below_many HB0.out _)).mono ?_
      rintro e w2 ⟨rfl, hb2⟩
      have HB2 := Lib.hid ((below_many HB0.out _).trans (hb2.mono HB0.out.size))
      have HZ2 := Lib.hid (show Blk w2 w.heap.size _ _ from (hb2.block _ HZ0.out.lt).trans HZ0.out)
      clear hb2 x0 y0
      go_wp2_with fail
      refine (HTG.out w2 HB2.out).mono ?_
      rintro e w3 ⟨A3, cap3, rfl, hl3, hm3, hL3, hb3⟩
      have HB3 := Lib.hid (HB2.out.trans (hb3.mono HB2.out.size))
      have HZ3 := Lib.hid (show Blk w3 w.heap.size _ _ from (hb3.block _ HZ2.out.lt).trans HZ2.out)
      have HL3 := Lib.hid hL3
      clear hb3 hL3
      go_wp2_with (first | fail | refine wpList_storeR rfl _ _ rfl w.heap.size rfl 0 0 0 0 false none 0 0 rfl _ _ _ _ _ _ HZ3.out ?k9)
      case k9 =>
        intro w6 hb6 hk6
        obtain ⟨c0, c1, c2, c3, c4, c5⟩ := six13 hb6
        have HB6 := Lib.hid (Kept.below HB3.out hk6 (by simp))
        clear hb6 hk6
        go_wp2
        refine bodyPost_ret (v := .tuple #[.agg #[.int .i64 0, .int .i64 0, .int .i64 0, .int .i64 0, .bool false, .slice none 0 0], .bool false]) (by simp [results, Tryd.results41, go_sem, c0, c1, c2, c3, c4, c5, Result.andThen]) rfl ?_
        rw [HR.out]
        exact OGives.nil HB6.out
    subst hd0
    have hs1 := hti rfl
    have HR := Lib.hid (show R = some ⟨0, (sp.headD Plain.Sp.zero).t, ((bq : Int) - 8), (X : Nat), true, sp⟩ by rw [HV.out, if_neg (by simp), if_neg (by simp)]; rfl)
    clear htc hti HV
    go_enter Tryd.func41, Tryd.ntmps41
    go_wp2
    go_quiet (fail)
    go_wp2_with fail
    refine (HGT.out _ (below_many HB0.out _)).mono ?_
    rintro e w2 ⟨rfl, hb2⟩
    have HB2 := Lib.hid ((below_many HB0.out _).trans (hb2.mono HB0.out.size))
    have HZ2 := Lib.hid (show Blk w2 w.heap.size _ _ from (hb2.block _ HZ0.out.lt).trans HZ0.out)
    clear hb2 x0 y0
    go_wp2_with fail
    refine (HTG.out w2 HB2.out).mono ?_
    rintro e w3 ⟨A3, cap3, rfl, hl3, hm3, hL3, hb3⟩
    have HB3 := Lib.hid (HB2.out.trans (hb3.mono HB2.out.size))
    have HZ3 := Lib.hid (show Blk w3 w.heap.size _ _ from (hb3.block _ HZ2.out.lt).trans HZ2.out)
    have HL3 := Lib.hid hL3
    clear hb3 hL3
    obtain ⟨ad3, rfl, -, hcc⟩ := at_span HL3.out 0 (by omega)
    have z0 : w3.cell? ad3 = some (.int .i64 (sp.headD Plain.Sp.zero).t) := by
      rw [head_at (by omega)]
      exact (hcc w3 (Below.refl _ _)).1
    obtain ⟨zt, hzt⟩ : ∃ zt, (sp.headD Plain.Sp.zero).t = zt := ⟨_, rfl⟩
    rw [hzt] at z0 HR
    obtain ⟨m, hm3'⟩ : ∃ m, sp.length = m := ⟨_, rfl⟩
    have HML := Lib.hid hm3'
    rw [hm3'] at hs1 hl3 ⊢
    clear hcc hzt hm3'
    go_wp2_with (first | fail | refine wpList_storeR rfl _ _ rfl w.heap.size rfl 0 zt ((bq : Int) - 8) (X : Int) true (some ad3) m cap3 rfl _ _ _ _ _ _ HZ3.out ?k9)
    case k9 =>
      intro w6 hb6 hk6
      obtain ⟨c0, c1, c2, c3, c4, c5⟩ := six13 hb6
      have HB6 := Lib.hid (Kept.below HB3.out hk6 (by simp))
      have HL6 := Lib.hid (lies_other13 HL3.out HZ3.out (by simp) hk6)
      clear hb6 hk6 z0
      go_wp2
      refine bodyPost_ret (v := .tuple #[.agg #[.int .i64 0, .int .i64 zt, .int .i64 ((bq : Int) - 8), .int .i64 (X : Int), .bool true, .slice (some ad3) m cap3], .bool true]) (by simp [results, Tryd.results41, go_sem, c0, c1, c2, c3, c4, c5, Result.andThen]) rfl ?_
      rw [HR.out]
      exact ⟨some ad3, cap3, by rw [← HML.out]; rfl, by rw [← HML.out] at hl3; exact hl3, hm3, HL6.out, HTF.out, HB6.out⟩
end Go.Proofs.YtdfeccmcefcpbaaDoor
