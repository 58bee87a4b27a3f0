/-
  turntableref06: what Victims answers, of any items, of what is to come in, and of a budget. Assumed: that the items lie in memory, and that there are at most 300.
-/
import Derived.Test.YtkhlgjkbkpbhiaaRs6

namespace Go.Proofs.Ytkhlgjkbkpbhiaa
open Go.RowKit
set_option maxRecDepth 100000

theorem vic_room {b left : Int} (h : left ≤ b) (l : List Plain.It) : Plain.vic b left l = [] := by
  cases l with
  | nil => rfl
  | cons x r => rw [Plain.vic, if_pos h]

set_option maxHeartbeats 8000000 in
theorem rvictims_any (A : Option Addr) (n cap : Nat) (l : List Plain.It) (x b : Int) (w : World) (hn : l.length = n) (hm : n ≤ 300) (hA : Lies w A (flatI l)) :
    Calls Try.prog 10 #[.slice A n cap, .int .i64 x, .int .i64 b] w fun e w' => ∃ v, e = .returned (.tuple #[v, .bool (Plain.fits l x b)]) ∧ GivesN w w' ((Plain.gone l x b).map (·.id)) v := by
  obtain ⟨i0, hi, hz0, hz1, hz2⟩ := info_parts infoL
  have HC := Lib.hid (rcost_any A n cap l w hn (by omega) hA)
  have HS := Lib.hid (fun (u : World) (h : Below w.heap.size w u) => rsort_any A n cap l u hn hm (hA.below h))
  have hcb := Plain.costs_bound l
  rw [hn] at hcb
  have hio := Plain.inOrder_length l
  have hir : ∀ y ∈ Plain.inOrder l, 0 ≤ y.cost ∧ y.cost ≤ 1048576 := fun y hy => ((Plain.It.right_iff y).1 (Plain.inOrder_right hy).2.1).2.2.2
  have hft : Plain.fits l x b = decide ((0 ≤ x ∧ x ≤ 1099511627776) ∧ (0 ≤ b ∧ b ≤ 1099511627776) ∧ x + Plain.pins l ≤ b) := rfl
  have hgo : Plain.gone l x b = if Plain.fits l x b then Plain.vic b (x + Plain.costs l) (Plain.inOrder l) else [] := rfl
  generalize Plain.gone l x b = GO at *
  generalize Plain.fits l x b = FT at *
  generalize Plain.costs l = CL at *
  generalize Plain.pins l = PL at *
  generalize Plain.inOrder l = IO at *
  have HG := Lib.hid hgo
  have HIR := Lib.hid hir
  clear hgo hA hir
  by_cases hF : (0 ≤ x ∧ x ≤ 1099511627776) ∧ (0 ≤ b ∧ b ≤ 1099511627776) ∧ x + PL ≤ b
  rotate_left
  · obtain rfl : FT = false := by rw [hft]; exact decide_eq_false hF
    obtain rfl : GO = [] := by rw [HG.out]; rfl
    clear hft
    by_cases g0 : x < 0
    · skip
      go_enter Try.func10, Try.ntmps10
      go_wp2_with fail
      refine HC.out.mono ?_
      rintro e w1 ⟨rfl, c1⟩
      go_wp2
      go_returns
      exact ⟨_, rfl, GivesN.nil c1⟩
    by_cases g1 : 1099511627776 < x
    · skip
      go_enter Try.func10, Try.ntmps10
      go_wp2_with fail
      refine HC.out.mono ?_
      rintro e w1 ⟨rfl, c1⟩
      go_wp2
      go_returns
      exact ⟨_, rfl, GivesN.nil c1⟩
    by_cases g2 : b < 0
    · skip
      go_enter Try.func10, Try.ntmps10
      go_wp2_with fail
      refine HC.out.mono ?_
      rintro e w1 ⟨rfl, c1⟩
      go_wp2
      go_returns
      exact ⟨_, rfl, GivesN.nil c1⟩
    by_cases g3 : 1099511627776 < b
    · skip
      go_enter Try.func10, Try.ntmps10
      go_wp2_with fail
      refine HC.out.mono ?_
      rintro e w1 ⟨rfl, c1⟩
      go_wp2
      go_returns
      exact ⟨_, rfl, GivesN.nil c1⟩
    have g4 : b < x + PL := by omega
    have wq : IntKind.i64.wrap (x + PL) = x + PL := by rw [IntKind.wrap_i64]; omega
    go_enter Try.func10, Try.ntmps10
    go_wp2_with fail
    refine HC.out.mono ?_
    rintro e w1 ⟨rfl, c1⟩
    go_wp2
    go_returns
    exact ⟨_, rfl, GivesN.nil c1⟩
  obtain rfl : FT = true := by rw [hft]; exact decide_eq_true hF
  have HG2 := Lib.hid (show GO = Plain.vic b (x + CL) IO by rw [HG.out]; rfl)
  clear hft HG
  obtain ⟨h1, h2, h3⟩ := hF
  have g0 : ¬ x < 0 := by omega
  have g1 : ¬ 1099511627776 < x := by omega
  have g2 : ¬ b < 0 := by omega
  have g3 : ¬ 1099511627776 < b := by omega
  have g4 : ¬ b < x + PL := by omega
  have wq : IntKind.i64.wrap (x + PL) = x + PL := by rw [IntKind.wrap_i64]; omega
  obtain ⟨q, hq⟩ : ∃ q, IO.length = q := ⟨_, rfl⟩
  rw [hq] at hio
  have HQ := Lib.hid hq
  clear hq
  have hq3 : q ≤ 300 := by omega
  go_enter Try.func10, Try.ntmps10
  go_wp2_with fail
  refine HC.out.mono ?_
  rintro e w1 ⟨rfl, c1⟩
  go_wp2_with fail
  refine (HS.out _ c1).mono ?_
  rintro e w2 ⟨v2, rfl, A2, cap2, rfl, hl2, hm2, hL2, d2, -⟩
  rw [HQ.out] at hl2 ⊢
  have c2 := c1.trans (d2.mono c1.size)
  have HL2 := Lib.hid hL2
  clear hL2 d2 HS HC g0 g1 g2 g3 g4 wq
  unfold maxLen at hm2
  go_wp2
  go_loopg [8, 11, 12] q (fun kx s8 s11 s12 wr => ∃ (k : Nat) (al : Int), s8 = .int .i64 al ∧ s12 = .int .i64 k ∧ k ≤ q ∧ q - k ≤ kx ∧ CL - 1048576 * k ≤ al ∧ al ≤ CL ∧ Aside (Plain.vic b (x + CL) IO = IO.take k ++ Plain.vic b (x + al) (IO.drop k)) ∧ Aside (wr.ownsRow w2.heap.size 2 1 s11 k (nums ((IO.take k).map (·.id)))) ∧ Below w2.heap.size w2 wr)
  case atStart => exact ⟨0, CL, rfl, rfl, Nat.zero_le _, by omega, by omega, Int.le_refl _, by show _ = _; simp, World.ownsRow_nil _ _ _ _, Below.refl _ _⟩
  case round =>
    obtain ⟨k, al, rfl, rfl, hk, hkx, ha1, ha2, HV, HO, hbr⟩ := hrel
    have wa : IntKind.i64.wrap (x + al) = x + al := by rw [IntKind.wrap_i64]; omega
    by_cases hlt : k < q ∧ b < x + al
    · obtain ⟨hlt, hgt⟩ := hlt
      have hltz : (k : Int) < (q : Int) := by omega
      have hkl : k < IO.length := by rw [HQ.out]; exact hlt
      obtain ⟨ad, rfl, hadb, hc⟩ := at_item HL2.out k hkl
      obtain ⟨x0, x1, x2, x3, x4⟩ := hc wr hbr
      have HC5 := Lib.hid (fun (u : World) (h : Below w2.heap.size w2 u) => (hc u h).2.2.2.1)
      have hyr := HIR.out IO[k] (List.getElem_mem hkl)
      have HV2 := Lib.hid (show Plain.vic b (x + CL) IO = IO.take (k + 1) ++ Plain.vic b (x + (al - IO[k].cost)) (IO.drop (k + 1)) by
        rw [HV.out, List.drop_eq_getElem_cons hkl, Plain.vic, if_neg (by omega), List.take_succ_eq_append_getElem hkl, List.append_assoc]
        rw [show x + al - IO[k].cost = x + (al - IO[k].cost) by omega]
        rfl)
      have HNU := Lib.hid (show nums ((IO.take k).map (·.id)) ++ [.int .i64 IO[k].id] = nums ((IO.take (k + 1)).map (·.id)) by rw [List.take_succ_eq_append_getElem hkl, List.map_append, List.map_singleton, nums_snoc])
      clear hc HV
      obtain ⟨nk, hnk⟩ : ∃ nk, nums ((IO.take k).map (·.id)) = nk := ⟨_, rfl⟩
      rw [hnk] at HNU HO
      clear hnk
      generalize IO[k] = y at *
      obtain ⟨yi, yc, yt, ys, yp⟩ := y
      simp only at *
      have wsub : IntKind.i64.wrap (al - ys) = al - ys := by rw [IntKind.wrap_i64]; omega
      have hszr := hbr.size
      go_wp2_with (at_builtin; refine wpList_appK rfl _ _ 26 rfl w2.heap.size 2 i0 (.int .i64 0) 1 8 Try.underlying26 hi hz0 hz1 hz2 rfl (by decide) _ k nk rfl ?b1 (some ⟨wr.heap.size, 0, none⟩) 1 1 [.int .i64 yi] rfl rfl ?b2 ?b3 ?b4 ?b5 ?b6 ?b7)
      case b1 => exact HO.out.alloc _
      case b2 => exact lies_new5 wr _ _ _ rfl
      case b3 => simp [Value.oneCell']
      case b4 => unfold maxLen; omega
      case b5 => omega
      case b6 => simp; omega
      case b7 =>
        intro v5 w5 hown5 hgrow _
        have f5 : Below w2.heap.size w2 w5 := (hbr.alloc hbr.size _).grown hgrow (by simp; omega) (fun g hg => (HO.out.lt g hg).1)
        rw [HNU.out] at hown5
        have HO5 := Lib.hid hown5
        have y3 : w5.cell? ⟨(ad.add (k * 5)).block, (ad.add (k * 5)).off + 3, none⟩ = some (.int .i64 ys) := HC5.out w5 f5
        clear hown5 hgrow x0 x1 x2 x3 x4
        go_wp2
        go_roundg (q - (k + 1))
        case measure => omega
        case rel => exact ⟨k + 1, al - ys, by first | rfl | go_num, by go_num, by omega, Nat.le_refl _, by omega, by omega, HV2.out, HO5.out, f5⟩
    · have hend : Plain.vic b (x + CL) IO = IO.take k := by
        rw [HV.out]
        by_cases h5 : k < q
        · rw [vic_room (by omega), List.append_nil]
        · rw [List.drop_eq_nil_of_le (by rw [HQ.out]; omega), Plain.vic, List.append_nil]
      have hlen : ((IO.take k).map (·.id)).length = k := by rw [List.length_map, List.length_take, HQ.out]; omega
      have HEN := Lib.hid hend
      have ho : wr.ownsRow w2.heap.size 2 1 u11 ((IO.take k).map (·.id)).length (nums ((IO.take k).map (·.id))) := by rw [hlen]; exact HO.out
      have HGN := Lib.hid (GivesN.own (w := w) (w' := wr) ho (c2.trans (hbr.mono c2.size)))
      clear ho hend hlen HV
      by_cases h5 : k < q
      · have hltz : (k : Int) < (q : Int) := by omega
        have hgt : ¬ b < x + al := by omega
        go_wp2
        go_returns
        exact ⟨_, rfl, by rw [HG2.out, HEN.out]; exact HGN.out⟩
      · have hltz : ¬ (k : Int) < (q : Int) := by omega
        go_wp2
        go_returns
        exact ⟨_, rfl, by rw [HG2.out, HEN.out]; exact HGN.out⟩
end Go.Proofs.Ytkhlgjkbkpbhiaa
