/-
  P6.1, OrderCosts: for all items and every number more the law returns true: what all cost is what each does; pinned ones cost no more than all; with room for all nothing goes. No condition.
-/
import Derived.Test.YtkhlgjkbkpbhiaaOpI
namespace Go.Proofs.Ytkhlgjkbkpbhiaa.orderCosts
open Go.ChangeShapes Go.WideShapes Go.ChangeAt Go.RowKit
set_option maxRecDepth 100000

theorem vic_none {b left : Int} (h : left ≤ b) (l : List Plain.It) : Plain.vic b left l = [] := by
  cases l with
  | nil => rfl
  | cons x r => rw [Plain.vic, if_pos h]
theorem one_cost (x : Plain.It) : 0 ≤ Plain.costs [x] ∧ Plain.costs [x] ≤ 1048576 ∧ (Plain.pins [x] = 0 ∨ Plain.pins [x] = Plain.costs [x]) := by
  have hc := Plain.costs_snoc [] x
  have hp := Plain.pins_snoc [] x
  simp only [List.nil_append, Plain.costs_nil, Plain.pins_nil, Int.zero_add] at hc hp
  rw [hc, hp]
  cases hr : x.right with
  | false => simp
  | true =>
    have := (Plain.It.right_iff x).1 hr
    cases x.pin <;> simp <;> omega
theorem take_cost (l : List Plain.It) (k : Nat) (hk : k < l.length) : Plain.costs (l.take (k + 1)) = Plain.costs (l.take k) + Plain.costs [l[k]] ∧ Plain.pins (l.take (k + 1)) = Plain.pins (l.take k) + Plain.pins [l[k]] := by
  rw [List.take_succ_eq_append_getElem hk]
  generalize l.take k = a
  generalize l[k] = x
  simp [Plain.costs, Plain.pins]

set_option maxHeartbeats 8000000 in
theorem walk (w : World) (A : Option Addr) (cap : Nat) (l : List Plain.It) (hl : l.length ≤ cap) (_hm : cap ≤ maxLen) (hA : Lies w A (flatI l)) (x : Int) (hx : 0 ≤ x ∧ x ≤ 65535) :
    Calls Try.prog 5 #[.slice A l.length cap, .int .u16 x] w fun e w' => e = .returned (.bool true) ∧ Below w.heap.size w w' := by
  have HA := Lib.hid hA
  obtain ⟨n, hn⟩ : ∃ n, l.length = n := ⟨_, rfl⟩
  rw [hn] at hl ⊢
  have HN := Lib.hid hn
  clear hA hn
  go_enter Try.func5, Try.ntmps5
  go_wp2_with fail
  refine (head_any w).mono ?_
  rintro e w1 ⟨rfl, c1⟩
  by_cases h300 : 300 < n
  · have hz : (300 : Int) < (n : Int) := by omega
    go_wp2
    go_ret
    exact ⟨rfl, c1⟩
  have hz : ¬ (300 : Int) < (n : Int) := by omega
  go_wp2
  go_loopg [6, 7, 8] n (fun kx s6 s7 s8 wr => ∃ (k : Nat) (ca cp : Int), s6 = .int .i64 ca ∧ s7 = .int .i64 cp ∧ s8 = .int .i64 k ∧ k ≤ n ∧ n - k ≤ kx ∧ 0 ≤ cp ∧ cp ≤ ca ∧ ca ≤ 1048576 * k ∧ Aside (Plain.costs (l.take k) = ca ∧ Plain.pins (l.take k) = cp) ∧ Below w.heap.size w wr)
  case atStart => exact ⟨0, 0, 0, rfl, rfl, rfl, Nat.zero_le _, by omega, by omega, by omega, by omega, ⟨rfl, rfl⟩, c1⟩
  case round =>
    clear c1
    obtain ⟨k, ca, cp, rfl, rfl, rfl, hk, hkx, hp0, hpc, hcb, HS, hbr⟩ := hrel
    by_cases hlt : k < n
    · have hltz : (k : Int) < (n : Int) := by omega
      have hkl : k < l.length := by rw [HN.out]; exact hlt
      obtain ⟨ad, rfl, hadb, hc⟩ := at_item HA.out k hkl
      obtain ⟨x0, x1, x2, x3, x4⟩ := hc wr hbr
      have H1 := Lib.hid (take_cost l k hkl)
      have ho := one_cost l[k]
      have HC := Lib.hid (cost_any (some ⟨wr.heap.size, 0, none⟩) 1 1 [l[k]] (wr.alloc (.cells #[.int .i64 l[k].id, .int .i64 l[k].cls, .int .i64 l[k].tick, .int .i64 l[k].cost, .bool l[k].pin] 24)) rfl (by decide) (lies_new5 wr _ _ _ rfl))
      have HB1 := Lib.hid (show Below w.heap.size w (wr.alloc (.cells #[.int .i64 l[k].id, .int .i64 l[k].cls, .int .i64 l[k].tick, .int .i64 l[k].cost, .bool l[k].pin] 24)) from hbr.alloc hbr.size _)
      generalize Plain.costs [l[k]] = n1 at *
      generalize Plain.pins [l[k]] = m1 at *
      clear hc
      generalize l[k] = y at *
      obtain ⟨yi, yc, yt, ys, yp⟩ := y
      simp only at *
      obtain ⟨h0, h2, h3⟩ := ho
      go_wp2_with fail
      refine HC.out.mono ?_
      rintro e w2 ⟨rfl, d2⟩
      have c2 := HB1.out.trans (d2.mono HB1.out.size)
      have wa : IntKind.i64.wrap (ca + n1) = ca + n1 := by rw [IntKind.wrap_i64]; omega
      have wb : IntKind.i64.wrap (cp + m1) = cp + m1 := by rw [IntKind.wrap_i64]; omega
      have hn0 : ¬ n1 < 0 := by omega
      clear x0 x1 x2 x3 x4 d2
      by_cases hm0 : m1 = 0
      · subst hm0
        clear h3
        go_wp2
        go_roundg (n - (k + 1))
        case measure => omega
        case rel => exact ⟨k + 1, ca + n1, cp, by first | rfl | go_num, by first | rfl | go_num | (congr 1; omega), by go_num, by omega, Nat.le_refl _, hp0, by omega, by omega, ⟨by rw [H1.out.1, HS.out.1], by rw [H1.out.2, HS.out.2]; omega⟩, c2⟩
      · obtain rfl : m1 = n1 := by omega
        have hb0 : (m1 == 0) = false := beq_eq_false_iff_ne.2 hm0
        have hb1 : (m1 != 0) = true := by simp [bne, hb0]
        clear h3
        go_wp2
        go_roundg (n - (k + 1))
        case measure => omega
        case rel => exact ⟨k + 1, ca + m1, cp + m1, by first | rfl | go_num, by first | rfl | go_num, by go_num, by omega, Nat.le_refl _, by omega, by omega, by omega, ⟨by rw [H1.out.1, HS.out.1], by rw [H1.out.2, HS.out.2]⟩, c2⟩
    · obtain rfl : k = n := by omega
      have hltz : ¬ (k : Int) < (k : Int) := by omega
      have hall : l.take k = l := List.take_of_length_le (by rw [HN.out]; omega)
      have e1 : Plain.costs l = ca := by have := HS.out.1; rwa [hall] at this
      have e2 : Plain.pins l = cp := by have := HS.out.2; rwa [hall] at this
      have HC := Lib.hid (cost_any A k cap l wr HN.out (by omega) (HA.out.below hbr))
      have HV := Lib.hid (fun (u : World) (h : Below wr.heap.size wr u) => victims_any A k cap l x (ca + x) u HN.out (by omega) ((HA.out.below hbr).below h))
      have hfit : Plain.fits l x (ca + x) = true := by unfold Plain.fits; rw [decide_eq_true_eq, e2]; omega
      have hgone : Plain.gone l x (ca + x) = [] := by
        unfold Plain.gone
        rw [if_pos hfit, e1]
        exact vic_none (by omega) _
      rw [hfit, hgone] at HV
      rw [e1, e2] at HC
      clear e1 e2 hfit hgone hall HS
      have wx : IntKind.i64.wrap (ca + x) = ca + x := by rw [IntKind.wrap_i64]; omega
      go_wp2_with fail
      refine HC.out.mono ?_
      rintro e w2 ⟨rfl, d2⟩
      go_wp2_with fail
      refine (HV.out _ d2).mono ?_
      rintro e w3 ⟨v3, rfl, A3, c3, rfl, hl3, hm3, hL3, d3⟩
      have e3 := (hbr.trans (d2.mono hbr.size))
      have e4 := e3.trans (d3.mono e3.size)
      simp only [List.map_nil, List.length_nil]
      clear hL3 HV HC
      go_wp2
      go_ret
      exact ⟨rfl, e4⟩


set_option maxRecDepth 100000 in
theorem lifted (os : Os) (started : os.Started) (H : Type) (enc : TypeId × Value → H) :
    ReturnsInHanded {} Try.checked os 5 .any (Rows.orderCostsSpec.pre6 enc Try.prog Try.f5 Rows.orderCostsRow.domain false) (Rows.orderCostsSpec.post enc Try.prog Try.f5 false true false false) := by
  refine returnsInHanded_of_change (C := Try.checked) own started (by kernel_rfl) Try.func5
    (ChangeSpec.witness6 (enc := enc) (C := Try.checked) false ⟨#[], #[.slice none 0 0, .int .u16 0], []⟩ 8 (by kernel_rfl) (by kernel_rfl) (by kernel_rfl) (by kernel_rfl)) ?_
  intro W base args ds gs before hval0 hW hcnd _
  have hval : ∀ (j : Nat) t v, Try.f5.params[j]? = some t → args[j]? = some v → Value.okWide Try.prog W .any base t v := hval0
  have hfin := fun W' => law_post (enc := enc) (P := Try.prog) (f := Try.f5) (s := Rows.orderCostsSpec) (tb := 4) (W := W) (W' := W') (args := args) (ds := ds) (gs := gs) (before := before) laidOut rfl (by kernel_rfl) Try.underlying4 (by kernel_rfl) (fun xs h => by rw [Try.params5] at h; match xs, h with | [_, _], _ => rfl) hW
  have hlt : ∀ x ∈ before, x.block < W.heap.size := fun x hx => hW.lt x hx
  obtain ⟨p, q, hA0, hV, rfl, hfz, hnd⟩ := hW
  have hA : DataW.TrodAll enc Try.prog W 0 (fun _ => true) true Try.f5.params.toList args.toList ds p := hA0
  rw [Try.params5] at hA hval
  obtain ⟨v0, vs0, d0, ds0, p0, q0, hargs, rfl, rfl, h0, r0⟩ := trodAll_cons hA
  obtain ⟨v1, vs1, d1, ds1, p1, q1, rfl, rfl, rfl, h1, r1⟩ := trodAll_cons r0
  obtain ⟨rfl, rfl, rfl⟩ := trodAll_nil r1
  obtain rfl : args = #[v0, v1] := by cases args; simp_all
  obtain ⟨A0, cap0, l0, rfl, hl0, hm0, hB0⟩ := open_items (hval 0 22 v0 rfl rfl) h0 (fun x hx => hlt x (by simp [hx]))
  obtain ⟨a1, rfl, rfl, rfl, w1⟩ := open_int Try.underlying38 (hval 1 38 v1 rfl rfl) h1
  refine (walk W A0 cap0 l0 hl0 hm0 hB0 a1 (bounds_u16 w1)).mono fun e W' ⟨he, hg⟩ => ?_
  subst he
  exact ⟨_, rfl, hfin W' hg⟩

theorem proved : Rows.OrderCostsSaid :=
  OpenClaim.holds_of_wide 5 Try.f5 rfl rfl rfl rfl rfl rfl rfl ⟨rfl, rfl, rfl, rfl, rfl⟩ rfl rfl rfl rfl rfl (by kernel_rfl) Try.func5 (by kernel_rfl)
    (of_decide_eq_true (by kernel_rfl)) (by unfold Func.isWrapper; first | (rw [if_pos (by decide +kernel)]; kernel_rfl) | (rw [if_neg (by decide +kernel)]; exact ⟨rfl, rfl⟩))
    (fun os started H enc _ => lifted os started H enc)
#print axioms proved
end Go.Proofs.Ytkhlgjkbkpbhiaa.orderCosts
