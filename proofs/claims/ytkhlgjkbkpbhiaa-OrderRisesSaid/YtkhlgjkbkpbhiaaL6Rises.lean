/-
  P6.3, OrderRises: for all items, and all numbers in, more and budget, the law returns true: more that is to come in never has fewer go: those that went go still, and first. No condition.
-/
import Derived.Test.YtkhlgjkbkpbhiaaNum6
namespace Go.Proofs.Ytkhlgjkbkpbhiaa.orderRises
open Go.ChangeShapes Go.WideShapes Go.ChangeAt Go.RowKit
set_option maxRecDepth 100000

theorem vic_more (b : Int) : ∀ (l : List Plain.It) (p q : Int), p ≤ q → ∃ r, Plain.vic b q l = Plain.vic b p l ++ r
  | [], _, _, _ => ⟨[], rfl⟩
  | x :: l, p, q, h => by
    rw [Plain.vic, Plain.vic]
    by_cases h1 : p ≤ b
    · rw [if_pos h1]; exact ⟨_, rfl⟩
    · rw [if_neg h1, if_neg (by omega)]
      obtain ⟨r, hr⟩ := vic_more b l (p - x.cost) (q - x.cost) (by omega)
      exact ⟨r, by rw [hr]; rfl⟩
theorem slice_hiN (W : World) (ad : Addr) (n cap j : Nat) (h1 : j ≤ n) (h2 : n ≤ cap) : (Instr.sliceAt 26 (.slice (some ad) n cap) none (some (.int .i64 (j : Int))) none).run Try.prog W = .ok (.slice (some ad) j cap) W := by
  go_simp
  intro h
  omega

set_option maxHeartbeats 8000000 in
theorem walk (w : World) (A : Option Addr) (cap : Nat) (l : List Plain.It) (_hl : l.length ≤ cap) (_hm : cap ≤ maxLen) (hA : Lies w A (flatI l)) (x : Int) (hx : 0 ≤ x ∧ x ≤ 65535) (m : Int) (hmo : 0 ≤ m ∧ m ≤ 65535) (b : Int) (hb : 0 ≤ b ∧ b ≤ 65535) :
    Calls Try.prog 6 #[.slice A l.length cap, .int .u16 x, .int .u16 m, .int .u16 b] w fun e w' => e = .returned (.bool true) ∧ Below w.heap.size w w' := by
  have HA := Lib.hid hA
  obtain ⟨n, hn⟩ : ∃ n, l.length = n := ⟨_, rfl⟩
  rw [hn]
  have HN := Lib.hid hn
  clear hA hn
  go_enter Try.func6, Try.ntmps6
  go_wp2_with fail
  refine (head_any w).mono ?_
  rintro e w1 ⟨rfl, c1⟩
  by_cases h200 : 200 < n
  · have hz : (200 : Int) < (n : Int) := by omega
    go_wp2
    go_ret
    exact ⟨rfl, c1⟩
  have hz : ¬ (200 : Int) < (n : Int) := by omega
  go_wp2_with fail
  refine (numbered_any A n cap l w1 HN.out (by omega) (HA.out.below c1)).mono ?_
  rintro e w2 ⟨v2, rfl, ho2, d2⟩
  have c2 := c1.trans (d2.mono c1.size)
  have hnl : (Plain.numb l).length = n := by rw [Plain.numb_length, HN.out]
  obtain ⟨A2, cap2, hv2, hl2, hm2, hL2, -, -⟩ := GivesI.own (w := w2) (w' := w2) (l := Plain.numb l) (by rw [hnl]; exact ho2) (Below.refl _ _)
  rw [hnl] at hv2 hl2
  subst hv2
  have HV1 := Lib.hid (victims_any A2 n cap2 (Plain.numb l) x b w2 hnl (by omega) hL2)
  have HV2 := Lib.hid (fun (u : World) (h : Below w2.heap.size w2 u) => victims_any A2 n cap2 (Plain.numb l) (x + m) b u hnl (by omega) (hL2.below h))
  have hcb := Plain.costs_bound (Plain.numb l)
  have hf1 : Plain.fits (Plain.numb l) x b = decide (x + Plain.pins (Plain.numb l) ≤ b) := by unfold Plain.fits; rw [decide_eq_decide]; omega
  have hf2 : Plain.fits (Plain.numb l) (x + m) b = decide (x + m + Plain.pins (Plain.numb l) ≤ b) := by unfold Plain.fits; rw [decide_eq_decide]; omega
  have hpre : x + m + Plain.pins (Plain.numb l) ≤ b → ∃ r, (Plain.gone (Plain.numb l) (x + m) b).map (·.id) = (Plain.gone (Plain.numb l) x b).map (·.id) ++ r := fun h => by
    unfold Plain.gone
    rw [if_pos (by rw [hf2]; exact decide_eq_true h), if_pos (by rw [hf1]; exact decide_eq_true (by omega))]
    obtain ⟨r, hr⟩ := vic_more b (Plain.inOrder (Plain.numb l)) (x + Plain.costs (Plain.numb l)) (x + m + Plain.costs (Plain.numb l)) (by omega)
    exact ⟨r.map (·.id), by rw [hr, List.map_append]⟩
  have hlen1 : ((Plain.gone (Plain.numb l) x b).map (·.id)).length ≤ 9223372036854775807 ∨ True := .inr trivial
  rw [hf1] at HV1
  rw [hf2] at HV2
  have HP := Lib.hid hpre
  generalize (Plain.gone (Plain.numb l) x b).map (·.id) = ga at *
  generalize (Plain.gone (Plain.numb l) (x + m) b).map (·.id) = gb at *
  generalize Plain.pins (Plain.numb l) = PN at *
  generalize Plain.costs (Plain.numb l) = CN at *
  clear hpre hf1 hf2 hlen1 hL2 ho2 d2
  have wx : IntKind.i64.wrap (x + m) = x + m := by rw [IntKind.wrap_i64]; omega
  go_wp2_with fail
  refine HV1.out.mono ?_
  rintro e w3 ⟨va, rfl, A3, cap3, rfl, hl3, hm3, hL3, d3⟩
  have c3 := c2.trans (d3.mono c2.size)
  have HL3 := Lib.hid hL3
  clear hL3
  obtain ⟨na, hna⟩ : ∃ na, ga.length = na := ⟨_, rfl⟩
  rw [hna] at hl3 ⊢
  have HNA := Lib.hid hna
  clear hna
  go_wp2_with fail
  refine (HV2.out _ d3).mono ?_
  rintro e w4 ⟨vb, rfl, A4, cap4, rfl, hl4, hm4, hL4, d4⟩
  have c4 := c3.trans (d4.mono c3.size)
  have HL4 := Lib.hid hL4
  clear hL4
  obtain ⟨nb, hnb⟩ : ∃ nb, gb.length = nb := ⟨_, rfl⟩
  rw [hnb] at hl4 ⊢
  have HNB := Lib.hid hnb
  clear hnb HV1 HV2
  by_cases hit : x + m + PN ≤ b
  rotate_left
  · have q2 : decide (x + m + PN ≤ b) = false := decide_eq_false hit
    simp only [q2]
    go_wp2
    go_ret
    exact ⟨rfl, c4⟩
  have q1 : decide (x + PN ≤ b) = true := decide_eq_true (by omega)
  have q2 : decide (x + m + PN ≤ b) = true := decide_eq_true hit
  simp only [q1, q2]
  obtain ⟨r, hr⟩ := HP.out hit
  have hab : na ≤ nb := by rw [← HNA.out, ← HNB.out, hr, List.length_append]; omega
  have habz : (na : Int) ≤ (nb : Int) := by omega
  have htk : gb.take na = ga := by rw [hr, ← HNA.out, List.take_left']; rfl
  have hL5 : Lies w4 A4 (nums ga) := by
    have := HL4.out.take na
    rwa [show (nums gb).take na = nums (gb.take na) by simp [nums], htk] at this
  have HS := Lib.hid (sameIds_any A3 A4 na na cap3 cap4 ga ga w4 HNA.out HNA.out hl3 (by omega) hm3 hm4 (HL3.out.below d4) hL5)
  rw [decide_eq_true rfl] at HS
  have HSL := Lib.hid (show ∀ W, (Instr.sliceAt 26 (.slice A4 nb cap4) none (some (.int .i64 (na : Int))) none).run Try.prog W = .ok (.slice A4 na cap4) W from fun W => by
    rcases A4 with _ | ad
    · have h0 : nb = 0 := by
        rcases HL4.out with h | ⟨ad, h, _⟩
        · have := congrArg List.length h; rw [nums_length, HNB.out] at this; simpa using this
        · cases h
      obtain rfl : na = 0 := by omega
      subst h0
      go_simp
    · exact slice_hiN W ad nb cap4 na hab hl4)
  have hsl := HSL.out
  clear hr htk hL5 HP HL3 HL4 hit q1 q2
  go_wp2_with fail
  refine HS.out.mono ?_
  rintro e w5 ⟨rfl, d5⟩
  go_wp2
  go_ret
  exact ⟨rfl, c4.trans (d5.mono c4.size)⟩


set_option maxRecDepth 100000 in
theorem lifted (os : Os) (started : os.Started) (H : Type) (enc : TypeId × Value → H) :
    ReturnsInHanded {} Try.checked os 6 .any (Rows.orderRisesSpec.pre6 enc Try.prog Try.f6 Rows.orderRisesRow.domain false) (Rows.orderRisesSpec.post enc Try.prog Try.f6 false true false false) := by
  refine returnsInHanded_of_change (C := Try.checked) own started (by kernel_rfl) Try.func6
    (ChangeSpec.witness6 (enc := enc) (C := Try.checked) false ⟨#[], #[.slice none 0 0, .int .u16 0, .int .u16 0, .int .u16 0], []⟩ 8 (by kernel_rfl) (by kernel_rfl) (by kernel_rfl) (by kernel_rfl)) ?_
  intro W base args ds gs before hval0 hW hcnd _
  have hval : ∀ (j : Nat) t v, Try.f6.params[j]? = some t → args[j]? = some v → Value.okWide Try.prog W .any base t v := hval0
  have hfin := fun W' => law_post (enc := enc) (P := Try.prog) (f := Try.f6) (s := Rows.orderRisesSpec) (tb := 4) (W := W) (W' := W') (args := args) (ds := ds) (gs := gs) (before := before) laidOut rfl (by kernel_rfl) Try.underlying4 (by kernel_rfl) (fun xs h => by rw [Try.params6] at h; match xs, h with | [_, _, _, _], _ => rfl) hW
  have hlt : ∀ x ∈ before, x.block < W.heap.size := fun x hx => hW.lt x hx
  obtain ⟨p, q, hA0, hV, rfl, hfz, hnd⟩ := hW
  have hA : DataW.TrodAll enc Try.prog W 0 (fun _ => true) true Try.f6.params.toList args.toList ds p := hA0
  rw [Try.params6] at hA hval
  obtain ⟨v0, vs0, d0, ds0, p0, q0, hargs, rfl, rfl, h0, r0⟩ := trodAll_cons hA
  obtain ⟨v1, vs1, d1, ds1, p1, q1, rfl, rfl, rfl, h1, r1⟩ := trodAll_cons r0
  obtain ⟨v2, vs2, d2, ds2, p2, q2, rfl, rfl, rfl, h2, r2⟩ := trodAll_cons r1
  obtain ⟨v3, vs3, d3, ds3, p3, q3, rfl, rfl, rfl, h3, r3⟩ := trodAll_cons r2
  obtain ⟨rfl, rfl, rfl⟩ := trodAll_nil r3
  obtain rfl : args = #[v0, v1, v2, v3] := by cases args; simp_all
  obtain ⟨A0, cap0, l0, rfl, hl0, hm0, hB0⟩ := open_items (hval 0 22 v0 rfl rfl) h0 (fun x hx => hlt x (by simp [hx]))
  obtain ⟨a1, rfl, rfl, rfl, w1⟩ := open_int Try.underlying38 (hval 1 38 v1 rfl rfl) h1
  obtain ⟨a2, rfl, rfl, rfl, w2⟩ := open_int Try.underlying38 (hval 2 38 v2 rfl rfl) h2
  obtain ⟨a3, rfl, rfl, rfl, w3⟩ := open_int Try.underlying38 (hval 3 38 v3 rfl rfl) h3
  refine (walk W A0 cap0 l0 hl0 hm0 hB0 a1 (bounds_u16 w1) a2 (bounds_u16 w2) a3 (bounds_u16 w3)).mono fun e W' ⟨he, hg⟩ => ?_
  subst he
  exact ⟨_, rfl, hfin W' hg⟩

theorem proved : Rows.OrderRisesSaid :=
  OpenClaim.holds_of_wide 6 Try.f6 rfl rfl rfl rfl rfl rfl rfl ⟨rfl, rfl, rfl, rfl, rfl⟩ rfl rfl rfl rfl rfl (by kernel_rfl) Try.func6 (by kernel_rfl)
    (of_decide_eq_true (by kernel_rfl)) (by unfold Func.isWrapper; first | (rw [if_pos (by decide +kernel)]; kernel_rfl) | (rw [if_neg (by decide +kernel)]; exact ⟨rfl, rfl⟩))
    (fun os started H enc _ => lifted os started H enc)
#print axioms proved
end Go.Proofs.Ytkhlgjkbkpbhiaa.orderRises
