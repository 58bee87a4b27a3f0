/-
  PoolAgain (turntablelaw16): holds for every input. No condition but that the inputs are a Go slice of spans and an int64.
-/
import Derived.Test.YthcchfhkeghkhaaLwP
import Derived.BigRegion
import Derived.BigQuiet
import Derived.Deep.CutRange
import Derived.Test.YthcchfhkeghkhaaPoZ

namespace Go.Proofs.Ythcchfhkeghkhaa.poolAgain
open Go.RowKit Go.Maps Po
set_option maxRecDepth 100000

set_option maxHeartbeats 2000000 in
theorem other_any (A : Option Addr) (n cap : Nat) (l : List Plain.Sp) (i : Int) (w : World) (hn : l.length = n) (hc : n ≤ cap) (_hm : cap ≤ maxLen) (h300 : n ≤ 300) (hA : Lies w A (flat l)) :
    Calls Try.prog 28 #[.slice A n cap, .int .i64 i] w fun e w' => e = .returned (.bool (decide (i ∈ Po.ids l))) ∧ w' = w := by
  have HN := Lib.hid hn
  have HA := Lib.hid hA
  unfold maxLen at _hm
  clear hn hA
  go_enter Try.func28, Try.ntmps28
  go_wp2
  go_loopw [5] (fun s wr => ∃ k : Nat, s = .int .i64 (k : Int) ∧ k ≤ n ∧ wr = w ∧ ∀ x ∈ l.take k, x.t ≠ i) (fun s _ => n - (intOf s).toNat)
  case atStart => exact ⟨0, rfl, Nat.zero_le _, rfl, by simp⟩
  case round =>
    obtain ⟨k, rfl, hk, rfl, hno⟩ := hrel
    have HNO := Lib.hid hno
    clear hno
    by_cases hlt : k < n
    · have hkl : k < l.length := by rw [HN.out]; exact hlt
      obtain ⟨ad, rfl, hadb, hcl⟩ := at_span HA.out k hkl
      obtain ⟨x0, -⟩ := hcl wr (Below.refl _ _)
      have HT := Lib.hid (show l.take (k + 1) = l.take k ++ [l[k]] from List.take_succ_eq_append_getElem hkl)
      have HM := Lib.hid (show l[k] ∈ l from List.getElem_mem hkl)
      obtain ⟨x, hx⟩ : ∃ x, l[k]'hkl = x := ⟨_, rfl⟩
      rw [hx] at x0 HT HM
      clear hcl hx
      by_cases hid : x.t = i
      · have hq : (x.t == i) = true := by simpa using hid
        have HV := Lib.hid (show decide (i ∈ Po.ids l) = true from decide_eq_true ((ids_mem l i).2 ⟨x, HM.out, hid⟩))
        clear hid
        go_wp2_with fail
        go_ret
        rw [HV.out]
        exact ⟨rfl, rfl⟩
      · have hq : (x.t == i) = false := by simpa using hid
        have HV := Lib.hid hid
        clear hid
        go_wp2_with fail
        go_roundw
        case rel =>
          refine ⟨k + 1, by go_num, by omega, by trivial, fun y hy => ?_⟩
          rw [HT.out] at hy
          rcases List.mem_append.1 hy with hy | hy
          · exact HNO.out y hy
          · rw [List.mem_singleton.1 hy]; exact HV.out
        case measure => simp [intOf]; omega
    · obtain rfl : k = n := by omega
      have HV := Lib.hid (show decide (i ∈ Po.ids l) = false from decide_eq_false fun h => by
        obtain ⟨x, hx, e⟩ := (ids_mem l i).1 h
        have := HNO.out x (by rwa [List.take_of_length_le (by rw [HN.out]; omega)])
        exact this e)
      go_wp2
      go_ret
      rw [HV.out]
      exact ⟨rfl, rfl⟩

set_option maxHeartbeats 8000000 in
theorem walkN {IsP : List Nat → World → Nat → List Nat → Int → List Plain.Sp → Prop} (hOk : PoolOk IsP) (w : World) (A : Option Addr) (n cap : Nat) (l : List Plain.Sp) (hn : l.length = n) (hc : n ≤ cap) (hm : cap ≤ maxLen) (hA : Lies w A (flat l)) (hF : Fine l) (i : Int) :
    Calls Try.prog 7 #[.slice A n cap, .int .i64 i] w fun e w' => e = .returned (.bool true) ∧ Below w.heap.size w w' := by
  have HK := Lib.hid hOk
  have HH := Lib.hid (head16_any hOk w)
  have HN := Lib.hid hn
  have HM := Lib.hid hm
  have HA := Lib.hid hA
  have HF := Lib.hid hF
  unfold maxLen at hm
  clear hOk hn hA hF
  go_enter Try.func7, Try.ntmps7
  go_wp2_with fail
  refine HH.out.mono ?_
  rintro e w1 ⟨rfl, d1⟩
  have HB1 := Lib.hid d1
  clear d1 HH
  go_wp2_with fail
  refine (HK.out.new [] 1048576 w1 (by simp)).mono ?_
  rintro e w2 ⟨p, O, rfl, h2, ho2, d2⟩
  have HP2 := Lib.hid h2
  have HO2 := Lib.hid (fun g (hg : g ∈ O) => show w.heap.size ≤ g from Nat.le_trans HB1.out.size (ho2 g hg))
  have HB2 := Lib.hid (HB1.out.trans (d2.mono HB1.out.size))
  clear h2 ho2 d2 HB1
  go_wp2_with fail
  refine (great_any A n cap l w2 HN.out hc HM.out (HA.out.below HB2.out)).mono ?_
  rintro e w3 ⟨g, rfl, hg, d3⟩
  have HP3 := Lib.hid (HK.out.below HP2.out d3)
  have HB3 := Lib.hid (HB2.out.trans (d3.mono HB2.out.size))
  clear d3 HP2 HB2
  rcases g with _ | _
  rotate_left
  · go_wp2
    go_ret
    exact ⟨rfl, HB3.out⟩
  · have h300 := hg rfl
    clear hg
    by_cases h0 : n = 0
    · have t0 : ((n : Int) == 0) = true := by rw [beq_iff_eq]; omega
      go_wp2
      go_ret
      exact ⟨rfl, HB3.out⟩
    · have t0 : ((n : Int) == 0) = false := by rw [beq_eq_false_iff_ne]; omega
      obtain ⟨c, hcc⟩ : ∃ c, codes 1048576 [] l = c := ⟨_, rfl⟩
      have HAD := Lib.hid (HK.out.add_as HP3.out (by simp) A n cap l HN.out hc HM.out (HA.out.below HB3.out) (Off.of HA.out HO2.out) HF.out hcc rfl)
      go_wp2_with fail
      refine HAD.out.mono ?_
      rintro e w4 ⟨rfl, O4, h4, k4, o4⟩
      have HP4 := Lib.hid h4
      have HB4 := Lib.hid (Kept.below HB3.out k4 HO2.out)
      have HO4 := Lib.hid (fun g (hg : g ∈ O4) => show w.heap.size ≤ g from (o4 g hg).elim (HO2.out g) (fun h => Nat.le_trans HB3.out.size h))
      clear h4 k4 o4 HAD HO2 HP3 HB3
      by_cases hc0 : c = 0
      rotate_left
      · have t1 : (c != 0) = true := by simpa using hc0
        clear hc0
        go_wp2
        go_ret
        exact ⟨rfl, HB4.out⟩
      · subst hc0
        have hput : put 1048576 [] l = l := by unfold put; rw [if_pos hcc]; rfl
        rw [hput] at HP4
        have HOK := Lib.hid (HK.out.ok HP4.out)
        obtain ⟨ad, hAe, hadb, hcl⟩ := at_span HA.out 0 (by rw [HN.out]; omega)
        subst hAe
        obtain ⟨x0, -⟩ := hcl w4 HB4.out
        have e0 : ad.add (0 * 7) = ad := by simp [Addr.add]
        rw [e0] at x0
        obtain ⟨t, ht⟩ : ∃ t, (l[0]'(by rw [HN.out]; omega)).t = t := ⟨_, rfl⟩
        rw [ht] at x0
        have HI := Lib.hid (show t ∈ Po.ids l from (ids_mem l t).2 ⟨_, List.getElem_mem _, ht⟩)
        obtain ⟨q, hq⟩ : ∃ q, (Po.part l t).length = q := ⟨_, rfl⟩
        have HQ := Lib.hid hq
        have HQ64 := Lib.hid (show q ≤ 64 by rw [← hq, part_len]; exact HOK.out.few t)
        have HFX := Lib.hid (fine_right (l := Po.part l t) fun x hx => HOK.out.right x (part_mem.1 hx).1)
        clear hcl e0 ht hcc hput hq
        have HG := Lib.hid (HK.out.get_as HP4.out t (decide_eq_true HI.out) rfl HQ.out)
        go_wp2_with fail
        refine HG.out.mono ?_
        rintro e w5 ⟨AX, cX, rfl, hx1, hx2, hxL, hxo, d5⟩
        have HP5 := Lib.hid (HK.out.below HP4.out d5)
        have HX5 := Lib.hid hxL
        have HXO5 := Lib.hid (show Off O4 AX (flat (Po.part l t)) from off_new (HK.out.own HP4.out) hxo)
        have HB5 := Lib.hid (HB4.out.trans (d5.mono HB4.out.size))
        clear hxL hxo d5 HG HP4 HB4 x0
        have HA5 := Lib.hid (HK.out.add_as HP5.out (by simp) AX q cX (Po.part l t) HQ.out hx1 hx2 HX5.out HXO5.out HFX.out (codes_there HOK.out HI.out) (show put 1048576 l (Po.part l t) = l by unfold put; rw [if_neg (by rw [codes_there HOK.out HI.out]; decide)]))
        go_wp2_with fail
        refine HA5.out.mono ?_
        rintro e w6 ⟨rfl, O6, h6, k6, o6⟩
        have HP6 := Lib.hid h6
        have HB6 := Lib.hid (Kept.below HB5.out k6 HO4.out)
        have HO6 := Lib.hid (fun g (hg : g ∈ O6) => show w.heap.size ≤ g from (o6 g hg).elim (HO4.out g) (fun h => Nat.le_trans HB5.out.size h))
        have HX6 := Lib.hid (HX5.out.kept HXO5.out k6)
        have HXO6 := Lib.hid (off_own16 HX5.out HXO5.out o6)
        clear h6 k6 o6 HA5 HP5 HB5 HO4 HX5 HXO5
        have HT6 := Lib.hid (HK.out.take_as HP6.out (by simp) t (decide_eq_true HI.out) rfl)
        go_wp2_with fail
        refine HT6.out.mono ?_
        rintro e w7 ⟨rfl, O7, h7, k7, o7⟩
        have HP7 := Lib.hid h7
        have HB7 := Lib.hid (Kept.below HB6.out k7 HO6.out)
        have HO7 := Lib.hid (fun g (hg : g ∈ O7) => show w.heap.size ≤ g from (o7 g hg).elim (HO6.out g) (fun h => Nat.le_trans HB6.out.size h))
        have HX7 := Lib.hid (HX6.out.kept HXO6.out k7)
        have HXO7 := Lib.hid (off_own16 HX6.out HXO6.out o7)
        clear h7 k7 o7 HT6 HP6 HB6 HO6 HX6 HXO6
        have HG7 := Lib.hid (HK.out.get_as HP7.out t (b := false) (d := []) (n := 0) (decide_eq_false (by rw [ids_drop, List.mem_filter]; simp)) (by rw [part_drop, if_pos rfl]) rfl)
        go_wp2_with fail
        refine HG7.out.mono ?_
        rintro e w8 ⟨AZ, cZ, rfl, -, -, -, -, d8⟩
        have HP8 := Lib.hid (HK.out.below HP7.out d8)
        have HX8 := Lib.hid (HX7.out.below d8)
        have HB8 := Lib.hid (HB7.out.trans (d8.mono HB7.out.size))
        clear d8 HG7 HP7 HB7 HX7
        have HC8 := Lib.hid (codes_back HOK.out (fun l => Int.le_trans (cost_le16 l) (by omega)) HI.out)
        have HA8 := Lib.hid (HK.out.add_as HP8.out (by simp) AX q cX (Po.part l t) HQ.out hx1 hx2 HX8.out HXO7.out HFX.out HC8.out (show put 1048576 (drop l t) (Po.part l t) = drop l t ++ Po.part l t by unfold put; rw [if_pos HC8.out]))
        go_wp2_with fail
        refine HA8.out.mono ?_
        rintro e w9 ⟨rfl, O9, h9, k9, o9⟩
        have HP9 := Lib.hid h9
        have HB9 := Lib.hid (Kept.below HB8.out k9 HO7.out)
        have HO9 := Lib.hid (fun g (hg : g ∈ O9) => show w.heap.size ≤ g from (o9 g hg).elim (HO7.out g) (fun h => Nat.le_trans HB8.out.size h))
        have HX9 := Lib.hid (HX8.out.kept HXO7.out k9)
        clear h9 k9 o9 HA8 HP8 HB8 HO7 HX8 HXO7 HC8
        have HG9 := Lib.hid (HK.out.get_as HP9.out t (b := true) (decide_eq_true (by rw [ids_back]; exact HI.out)) (part_back HOK.out HI.out) HQ.out)
        go_wp2_with fail
        refine HG9.out.mono ?_
        rintro e wa ⟨AY, cY, rfl, hy1, hy2, hyL, -, da⟩
        have HPa := Lib.hid (HK.out.below HP9.out da)
        have HXa := Lib.hid (HX9.out.below da)
        have HYa := Lib.hid hyL
        have HBa := Lib.hid (HB9.out.trans (da.mono HB9.out.size))
        clear da hyL HG9 HP9 HB9 HX9
        go_wp2_with fail
        refine (same_is16 AX AY q cX cY (Po.part l t) wa HQ.out hx1 hy1 hx2 hy2 HXa.out HYa.out).mono ?_
        rintro e wb ⟨rfl, db⟩
        have HPb := Lib.hid (HK.out.below HPa.out db)
        have HBb := Lib.hid (HBa.out.trans (db.mono HBa.out.size))
        clear db HPa HXa HYa HBa
        obtain ⟨b, hb⟩ : ∃ b, decide (i ∈ Po.ids l) = b := ⟨_, rfl⟩
        have HTb := Lib.hid (HK.out.take_as HPb.out (by simp) i (b := b) (by rw [ids_back]; exact hb) rfl)
        have HOT := Lib.hid (fun (W : World) (hW : Below w.heap.size w W) => other_any (some ad) n cap l i W HN.out hc HM.out h300 (HA.out.below hW))
        rw [hb] at HOT
        by_cases hit : i = t
        · have t2 : (i == t) = true := by simpa using hit
          obtain rfl : b = true := by rw [← hb, hit]; exact decide_eq_true HI.out
          clear hit hb
          go_wp2_with fail
          refine HTb.out.mono ?_
          rintro e wc ⟨rfl, Oc, -, kc, -⟩
          have HBc := Lib.hid (Kept.below HBb.out kc HO9.out)
          clear kc
          go_wp2
          go_ret
          exact ⟨rfl, HBc.out⟩
        · have t2 : (i == t) = false := by simpa using hit
          clear hit hb
          go_wp2_with fail
          refine HTb.out.mono ?_
          rintro e wc ⟨rfl, Oc, -, kc, -⟩
          have HBc := Lib.hid (Kept.below HBb.out kc HO9.out)
          clear kc
          go_wp2_with fail
          refine (HOT.out wc HBc.out).mono ?_
          rintro e wd ⟨rfl, rfl⟩
          rcases b with _ | _ <;>
          · go_wp2
            go_ret
            exact ⟨rfl, HBc.out⟩

open Go.ChangeShapes Go.WideShapes Go.ChangeAt

theorem walk (w : World) (A : Option Addr) (cap : Nat) (l : List Plain.Sp) (hl : l.length ≤ cap) (hm : cap ≤ maxLen) (hA : Lies w A (flat l)) (hQ : Fine l) (i : Int) (_ : -9223372036854775808 ≤ i ∧ i ≤ 9223372036854775807) :
    Calls Try.prog 7 #[.slice A l.length cap, .int .i64 i] w fun e w' => e = .returned (.bool true) ∧ Below w.heap.size w w' :=
  walkN poolOk w A l.length cap l rfl hl hm hA hQ i

set_option maxRecDepth 100000 in
theorem lifted (os : Os) (started : os.Started) (H : Type) (enc : TypeId × Value → H) :
    ReturnsInHanded {} Try.checked os 7 .any (Rows.poolAgainSpec.pre6 enc Try.prog Try.f7 Rows.poolAgainRow.domain false) (Rows.poolAgainSpec.post enc Try.prog Try.f7 false true false false) := by
  refine returnsInHanded_of_change (C := Try.checked) own started (by kernel_rfl) Try.func7
    (ChangeSpec.witness6 (enc := enc) (C := Try.checked) false ⟨#[], #[.slice none 0 0, .int .i64 0], []⟩ 8 (by kernel_rfl) (by kernel_rfl) (by kernel_rfl) (by kernel_rfl)) ?_
  intro W base args ds gs before hval0 hW hcnd _
  have hval : ∀ (j : Nat) t v, Try.f7.params[j]? = some t → args[j]? = some v → Value.okWide Try.prog W .any base t v := hval0
  have hfin := fun W' => law_post (enc := enc) (P := Try.prog) (f := Try.f7) (s := Rows.poolAgainSpec) (tb := 4) (W := W) (W' := W') (args := args) (ds := ds) (gs := gs) (before := before) laidOut rfl (by kernel_rfl) Try.underlying4 (by kernel_rfl) (fun xs h => by rw [Try.params7] at h; match xs, h with | [_, _], _ => rfl) hW
  have hlt : ∀ x ∈ before, x.block < W.heap.size := fun x hx => hW.lt x hx
  obtain ⟨p, q, hA0, hV, rfl, hfz, hnd⟩ := hW
  have hA : DataW.TrodAll enc Try.prog W 0 (fun _ => true) true Try.f7.params.toList args.toList ds p := hA0
  rw [Try.params7] at hA hval
  obtain ⟨v0, vs0, d0, ds0, p0, q0, hargs, rfl, rfl, h0, r0⟩ := trodAll_cons hA
  obtain ⟨v1, vs1, d1, ds1, p1, q1, rfl, rfl, rfl, h1, r1⟩ := trodAll_cons r0
  obtain ⟨rfl, rfl, rfl⟩ := trodAll_nil r1
  obtain rfl : args = #[v0, v1] := by cases args; simp_all
  obtain ⟨A0, cap0, l0, rfl, hl0, hm0, hB0, hS0⟩ := open_spans (hval 0 29 v0 rfl rfl) h0 (fun x hx => hlt x (by simp [hx]))
  obtain ⟨a1, rfl, rfl, rfl, w1⟩ := open_int Try.underlying2 (hval 1 2 v1 rfl rfl) h1
  refine (walk W A0 cap0 l0 hl0 hm0 hB0 hS0 a1 (bounds_i64 w1)).mono fun e W' ⟨he, hg⟩ => ?_
  subst he
  exact ⟨_, rfl, hfin W' hg⟩

theorem proved : Rows.PoolAgainSaid :=
  OpenClaim.holds_of_wide 7 Try.f7 rfl rfl rfl rfl rfl rfl rfl ⟨rfl, rfl, rfl, rfl, rfl⟩ rfl rfl rfl rfl rfl (by kernel_rfl) Try.func7 (by kernel_rfl)
    (of_decide_eq_true (by kernel_rfl)) (by unfold Func.isWrapper; first | (rw [if_pos (by decide +kernel)]; kernel_rfl) | (rw [if_neg (by decide +kernel)]; exact ⟨rfl, rfl⟩))
    (fun os started H enc _ => lifted os started H enc)
#print axioms proved
end Go.Proofs.Ythcchfhkeghkhaa.poolAgain
