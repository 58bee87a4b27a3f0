/-
  Layer 6: order.Cost and order.Sort: what they answer, of any items. Assumed: that the items lie in memory, and that there are at most a thousand.
-/
import Derived.Test.YtkhlgjkbkpbhiaaCmp

namespace Go.Proofs.Ytkhlgjkbkpbhiaa
open Go.RowKit
set_option maxRecDepth 100000

theorem infoIt : (Try.prog.info? 24).map (fun i => (i.zero, i.size, i.bytes)) = some (some (.agg #[.int .i64 0, .int .i64 0, .int .i64 0, .int .i64 0, .bool false]), 5, 40) := by kernel_rfl

/-- the k-th item's cells, as the walk spells them -/
theorem at_item {w : World} {A : Option Addr} {l : List Plain.It} (h : Lies w A (flatI l)) (k : Nat) (hk : k < l.length) :
    ∃ ad, A = some ad ∧ ad.block < w.heap.size ∧ ∀ u, Below w.heap.size w u → u.cell? (ad.add (k * 5)) = some (.int .i64 l[k].id) ∧ u.cell? ⟨(ad.add (k * 5)).block, (ad.add (k * 5)).off + 1, none⟩ = some (.int .i64 l[k].cls) ∧ u.cell? ⟨(ad.add (k * 5)).block, (ad.add (k * 5)).off + 2, none⟩ = some (.int .i64 l[k].tick) ∧ u.cell? ⟨(ad.add (k * 5)).block, (ad.add (k * 5)).off + 3, none⟩ = some (.int .i64 l[k].cost) ∧ u.cell? ⟨(ad.add (k * 5)).block, (ad.add (k * 5)).off + 4, none⟩ = some (.bool l[k].pin) := by
  obtain ⟨ad, rfl, hadb, -⟩ := h.at_ (k := k * 5) (by rw [flatI_length]; omega)
  refine ⟨ad, rfl, hadb, ?_⟩
  have hc2 : ∀ j u, (itCells l[k])[j]? = some u → w.cell? ((ad.add (k * 5)).add j) = some u := fun j u hu => by
    have hj : j < 5 := by
      rcases Nat.lt_or_ge j 5 with h | h
      · exact h
      · rw [List.getElem?_eq_none (by rw [itCells_length]; exact h)] at hu; cases hu
    have hf := flatI_at l k j l[k] (List.getElem?_eq_getElem hk) hj
    rw [hu] at hf
    rw [addr_add]
    rcases h with h | ⟨ad', e, _, hc⟩
    · rw [h] at hf; simp at hf
    · injection e with e; subst e; exact hc _ _ hf
  have hpb : (ad.add (k * 5)).block < w.heap.size := by rw [addr_block]; exact hadb
  exact fun u hu => ⟨(hu.cell hpb).trans (hc2 0 _ rfl), (hu.cell (p := ⟨(ad.add (k * 5)).block, (ad.add (k * 5)).off + 1, none⟩) hpb).trans (hc2 1 _ rfl), (hu.cell (p := ⟨(ad.add (k * 5)).block, (ad.add (k * 5)).off + 2, none⟩) hpb).trans (hc2 2 _ rfl), (hu.cell (p := ⟨(ad.add (k * 5)).block, (ad.add (k * 5)).off + 3, none⟩) hpb).trans (hc2 3 _ rfl), (hu.cell (p := ⟨(ad.add (k * 5)).block, (ad.add (k * 5)).off + 4, none⟩) hpb).trans (hc2 4 _ rfl)⟩
theorem lies_new5 (w : World) (cs : Array Value) (t : TypeId) (l : List Value) (h : cs.toList = l) : Lies (w.alloc (.cells cs t)) (some ⟨w.heap.size, 0, none⟩) l := by
  rw [← h]; exact Lies.new w cs t

/-- memory of items, if there is any -/
def TypedI (w : World) (A : Option Addr) : Prop := A = none ∨ ∃ g cs m, A = some ⟨g, 0, none⟩ ∧ w.heap[g]? = some (.cells cs 24 m)
/-- a slice of items that was handed back -/
def GivesI (w w' : World) (xs : List Plain.It) (v : Value) : Prop := ∃ A cap, v = .slice A xs.length cap ∧ xs.length ≤ cap ∧ cap ≤ maxLen ∧ Lies w' A (flatI xs) ∧ Below w.heap.size w w' ∧ TypedI w' A
theorem GivesI.own {w w' : World} {l : List Plain.It} {v : Value} {B : Nat} (ho : w'.ownsRow B 24 5 v l.length (flatI l)) (h : Below w.heap.size w w') : GivesI w w' l v := by
  rcases ho.2 with ⟨rfl, h0⟩ | ⟨g, cap, cur, rfl, hb, hg, h1, h2, h3⟩
  · have : l = [] := List.eq_nil_of_length_eq_zero h0
    subst this
    exact ⟨none, 0, rfl, Nat.le_refl _, Nat.zero_le _, .inl rfl, h, .inl rfl⟩
  · exact ⟨_, cap, rfl, h1, h2, .inr ⟨_, rfl, (ho.lt g rfl).2, ho.cells (g := g) rfl⟩, h, .inr ⟨g, cur, _, rfl, hg⟩⟩

set_option maxHeartbeats 4000000 in
theorem cost_any (A : Option Addr) (n cap : Nat) (l : List Plain.It) (w : World) (hn : l.length = n) (hm : n ≤ 1000) (hA : Lies w A (flatI l)) :
    Calls Try.prog 11 #[.slice A n cap] w fun e w' => e = .returned (.tuple #[.int .i64 (Plain.costs l), .int .i64 (Plain.pins l)]) ∧ Below w.heap.size w w' := by
  have HA := Lib.hid hA
  have HN := Lib.hid hn
  have HE := Lib.hid (show Plain.costs (l.take n) = Plain.costs l ∧ Plain.pins (l.take n) = Plain.pins l by rw [List.take_of_length_le (by omega)]; exact ⟨rfl, rfl⟩)
  generalize Plain.costs l = CL at *
  generalize Plain.pins l = PL at *
  clear hA hn
  go_enter Try.func11, Try.ntmps11
  go_wp2
  go_loopg [4, 5, 10] n (fun kx s4 s5 s10 wr => ∃ (k : Nat) (ca cp : Int), s4 = .int .i64 ca ∧ s5 = .int .i64 cp ∧ s10 = .int .i64 k ∧ k ≤ n ∧ n - k ≤ kx ∧ 0 ≤ cp ∧ cp ≤ ca ∧ ca ≤ 1048576 * k ∧ Aside (Plain.costs (l.take k) = ca ∧ Plain.pins (l.take k) = cp) ∧ Below w.heap.size w wr)
  case atStart => exact ⟨0, 0, 0, rfl, rfl, rfl, Nat.zero_le _, by omega, by omega, by omega, by omega, ⟨rfl, rfl⟩, Below.refl _ _⟩
  case round =>
    obtain ⟨k, ca, cp, rfl, rfl, rfl, hk, hkx, hp0, hpc, hcb, HS, hbr⟩ := hrel
    by_cases hlt : k < n
    · have hltz : (k : Int) < (n : Int) := by omega
      have hkl : k < l.length := by rw [HN.out]; exact hlt
      obtain ⟨ad, rfl, hadb, hc⟩ := at_item HA.out k hkl
      obtain ⟨x0, x1, x2, x3, x4⟩ := hc wr hbr
      have hs1 : Plain.costs (l.take (k + 1)) = ca + if l[k].right then l[k].cost else 0 := by rw [List.take_succ_eq_append_getElem hkl, Plain.costs_snoc, HS.out.1]
      have hs2 : Plain.pins (l.take (k + 1)) = cp + if l[k].right && l[k].pin then l[k].cost else 0 := by rw [List.take_succ_eq_append_getElem hkl, Plain.pins_snoc, HS.out.2]
      have H1 := Lib.hid hs1
      have H2 := Lib.hid hs2
      have HR := Lib.hid (fun (W : World) => right_any l[k] W)
      have hrb := Plain.It.right_iff l[k]
      obtain ⟨R, hR⟩ : ∃ R, l[k].right = R := ⟨_, rfl⟩
      rw [hR] at H1 H2 HR hrb
      clear hc hs1 hs2 hR HS
      generalize l[k] = x at *
      obtain ⟨xi, xc, xt, xs, xp⟩ := x
      simp only [itV] at *
      have hcost : R = true → 0 ≤ xs ∧ xs ≤ 1048576 := fun h => ⟨(hrb.1 h).2.2.2.1, (hrb.1 h).2.2.2.2⟩
      clear hrb
      have bx := Blk.new wr #[.int .i64 xi, .int .i64 xc, .int .i64 xt, .int .i64 xs, .bool xp] 24
      have hb1 : Below w.heap.size w (wr.alloc (.cells #[.int .i64 xi, .int .i64 xc, .int .i64 xt, .int .i64 xs, .bool xp] 24)) := hbr.alloc hbr.size _
      have HB1 := Lib.hid hb1
      clear hb1
      go_wp2_with fail
      refine (HR.out _).mono ?_
      rintro e w1 ⟨rfl, d1⟩
      have b1 := (Kept.of d1 []).blk bx (by simp)
      have z3 : w1.cell? ⟨wr.heap.size, 3, none⟩ = some (.int .i64 xs) := b1.cell 3
      have z4 : w1.cell? ⟨wr.heap.size, 4, none⟩ = some (.bool xp) := b1.cell 4
      have HB2 := Lib.hid (HB1.out.trans (d1.mono HB1.out.size))
      clear bx b1 d1 x0 x1 x2 x3 x4
      rcases R with _ | _
      · go_wp2
        go_roundg (n - (k + 1))
        case measure => omega
        case rel => exact ⟨k + 1, ca, cp, rfl, rfl, by go_num, by omega, Nat.le_refl _, hp0, hpc, by omega, ⟨by rw [H1.out]; simp, by rw [H2.out]; simp⟩, HB2.out⟩
      · have hq := hcost rfl
        have wa : IntKind.i64.wrap (ca + xs) = ca + xs := by rw [IntKind.wrap_i64]; omega
        have wb : IntKind.i64.wrap (cp + xs) = cp + xs := by rw [IntKind.wrap_i64]; omega
        rcases xp with _ | _
        · go_wp2
          go_roundg (n - (k + 1))
          case measure => omega
          case rel => exact ⟨k + 1, ca + xs, cp, by first | rfl | go_num, rfl, by go_num, by omega, Nat.le_refl _, hp0, by omega, by omega, ⟨by rw [H1.out]; simp, by rw [H2.out]; simp⟩, HB2.out⟩
        · go_wp2
          go_roundg (n - (k + 1))
          case measure => omega
          case rel => exact ⟨k + 1, ca + xs, cp + xs, by first | rfl | go_num, by first | rfl | go_num, by go_num, by omega, Nat.le_refl _, by omega, by omega, by omega, ⟨by rw [H1.out]; simp, by rw [H2.out]; simp⟩, HB2.out⟩
    · obtain rfl : k = n := by omega
      have hltz : ¬ (k : Int) < (k : Int) := by omega
      go_wp2
      go_returns
      exact ⟨by rw [← HE.out.1, ← HE.out.2, HS.out.1, HS.out.2]; rfl, hbr⟩

theorem mayGo_take (l : List Plain.It) (k : Nat) (hk : k < l.length) : Plain.mayGo (l.take (k + 1)) = Plain.mayGo (l.take k) ++ if l[k].right && !l[k].pin then [l[k]] else [] := by
  unfold Plain.mayGo
  rw [List.take_succ_eq_append_getElem hk, List.filter_append, List.filter_cons, List.filter_nil]

set_option maxHeartbeats 4000000 in
theorem osort_any (A : Option Addr) (n cap : Nat) (l : List Plain.It) (w : World) (hn : l.length = n) (hm : n ≤ 1000) (hA : Lies w A (flatI l)) :
    Calls Try.prog 18 #[.slice A n cap] w fun e w' => ∃ v, e = .returned v ∧ GivesI w w' (Plain.inOrder l) v := by
  obtain ⟨i0, hi, hz0, hz1, hz2⟩ := info_parts infoIt
  have HA := Lib.hid hA
  have HN := Lib.hid hn
  have HE := Lib.hid (show Plain.mayGo (l.take n) = Plain.mayGo l by rw [List.take_of_length_le (by omega)])
  have HI := Lib.hid (show Plain.inOrder l = Plain.srt Plain.ilt (Plain.mayGo l) from rfl)
  have HML := Lib.hid (show (Plain.mayGo l).length ≤ n by rw [← hn]; exact List.length_filter_le _ _)
  generalize Plain.inOrder l = IO at *
  generalize Plain.mayGo l = MG at *
  clear hA hn
  go_enter Try.func18, Try.ntmps18
  go_wp2
  go_loopg [3, 8] n (fun kx s3 s8 wr => ∃ (k : Nat) (M : List Plain.It), s8 = .int .i64 k ∧ k ≤ n ∧ n - k ≤ kx ∧ M.length ≤ k ∧ Aside (Plain.mayGo (l.take k) = M) ∧ Aside (wr.ownsRow w.heap.size 24 5 s3 M.length (flatI M)) ∧ Below w.heap.size w wr)
  case atStart => exact ⟨0, [], rfl, Nat.zero_le _, by omega, Nat.le_refl _, rfl, World.ownsRow_nil _ _ _ _, Below.refl _ _⟩
  case round =>
    obtain ⟨k, M, rfl, hk, hkx, hMk, HS, HO, hbr⟩ := hrel
    by_cases hlt : k < n
    · have hltz : (k : Int) < (n : Int) := by omega
      have hkl : k < l.length := by rw [HN.out]; exact hlt
      obtain ⟨ad, rfl, hadb, hc⟩ := at_item HA.out k hkl
      obtain ⟨x0, x1, x2, x3, x4⟩ := hc wr hbr
      have hs1 := mayGo_take l k hkl
      rw [HS.out] at hs1
      have H1 := Lib.hid hs1
      have HR := Lib.hid (fun (W : World) => right_any l[k] W)
      obtain ⟨R, hR⟩ : ∃ R, l[k].right = R := ⟨_, rfl⟩
      rw [hR] at H1 HR
      have HFL := Lib.hid (show flatI M ++ itCells l[k] = flatI (M ++ [l[k]]) by rw [flatI_append]; rfl)
      clear hc hs1 hR HS
      generalize l[k] = x at *
      obtain ⟨xi, xc, xt, xs, xp⟩ := x
      simp only [itV, itCells] at *
      have bx := Blk.new wr #[.int .i64 xi, .int .i64 xc, .int .i64 xt, .int .i64 xs, .bool xp] 24
      have HB1 := Lib.hid (show Below w.heap.size w (wr.alloc (.cells #[.int .i64 xi, .int .i64 xc, .int .i64 xt, .int .i64 xs, .bool xp] 24)) from hbr.alloc hbr.size _)
      have HO1 := Lib.hid (HO.out.alloc (.cells #[.int .i64 xi, .int .i64 xc, .int .i64 xt, .int .i64 xs, .bool xp] 24))
      go_wp2_with fail
      refine (HR.out _).mono ?_
      rintro e w1 ⟨rfl, d1⟩
      have b1 := (Kept.of d1 []).blk bx (by simp)
      have z0 : w1.cell? ⟨wr.heap.size, 0, none⟩ = some (.int .i64 xi) := b1.cell 0
      have z1 : w1.cell? ⟨wr.heap.size, 1, none⟩ = some (.int .i64 xc) := b1.cell 1
      have z2 : w1.cell? ⟨wr.heap.size, 2, none⟩ = some (.int .i64 xt) := b1.cell 2
      have z3 : w1.cell? ⟨wr.heap.size, 3, none⟩ = some (.int .i64 xs) := b1.cell 3
      have z4 : w1.cell? ⟨wr.heap.size, 4, none⟩ = some (.bool xp) := b1.cell 4
      have hb2 := HB1.out.trans (d1.mono HB1.out.size)
      have HO2 := Lib.hid (row_keep HO1.out d1)
      clear bx b1 d1 x0 x1 x2 x3 x4 HO HO1
      rcases R with _ | _
      · go_wp2
        go_roundg (n - (k + 1))
        case measure => omega
        case rel => exact ⟨k + 1, M, by go_num, by omega, Nat.le_refl _, by omega, by show _ = _; rw [H1.out]; simp, HO2.out, hb2⟩
      rcases xp with _ | _
      rotate_left
      · go_wp2
        go_roundg (n - (k + 1))
        case measure => omega
        case rel => exact ⟨k + 1, M, by go_num, by omega, Nat.le_refl _, by omega, by show _ = _; rw [H1.out]; simp, HO2.out, hb2⟩
      have hszr := hb2.size
      go_wp2_with (at_builtin; refine wpList_appK rfl _ _ 22 rfl w.heap.size 24 i0 (.agg #[.int .i64 0, .int .i64 0, .int .i64 0, .int .i64 0, .bool false]) 5 40 Try.underlying22 hi hz0 hz1 hz2 rfl (by decide) _ M.length (flatI M) rfl ?b1 (some ⟨w1.heap.size, 0, none⟩) 1 1 [.int .i64 xi, .int .i64 xc, .int .i64 xt, .int .i64 xs, .bool false] rfl rfl ?b2 ?b3 ?b4 ?b5 ?b6 ?b7)
      case b1 => exact HO2.out.alloc _
      case b2 => exact lies_new5 w1 _ _ _ rfl
      case b3 => simp [Value.oneCell']
      case b4 => unfold maxLen; omega
      case b5 => omega
      case b6 => simp; omega
      case b7 =>
        intro v5 w5 hown5 hgrow _
        have f5 : Below w.heap.size w w5 := (hb2.alloc hb2.size _).grown hgrow (by simp; omega) (fun g hg => (HO2.out.lt g hg).1)
        rw [HFL.out] at hown5
        have HO5 := Lib.hid hown5
        clear hown5 hgrow
        go_wp2
        go_roundg (n - (k + 1))
        case measure => omega
        case rel => exact ⟨k + 1, M ++ [⟨xi, xc, xt, xs, false⟩], by go_num, by omega, Nat.le_refl _, by simp; omega, by show _ = _; rw [H1.out]; simp, by rw [List.length_append]; exact HO5.out, f5⟩
    · obtain rfl : k = n := by omega
      have hltz : ¬ (k : Int) < (k : Int) := by omega
      obtain rfl : M = MG := by rw [← HS.out, HE.out]
      have ho := HO.out
      rcases ho.2 with ⟨rfl, h0⟩ | ⟨g, cap1, cur, rfl, hbg, hgh, hl1, hm1, hcs, htk⟩
      · have hM : M = [] := List.eq_nil_of_length_eq_zero h0
        subst hM
        have HZ := Lib.hid (fun (W : World) => sortNone_any none 0 W)
        clear ho HO h0
        go_wp2_with fail
        refine (HZ.out _).mono ?_
        rintro e w1 ⟨rfl, rfl⟩
        go_wp2
        go_returns
        exact ⟨_, rfl, by rw [HI.out]; exact ⟨none, 0, rfl, Nat.le_refl _, Nat.zero_le _, .inl rfl, hbr, .inl rfl⟩⟩
      · have hg1 : g < wr.heap.size := (ho.lt g rfl).2
        have HSF := Lib.hid (sortStable_any g cap1 M.length M wr rfl hg1 (fun j hj => by
          have hc := ho.cells (g := g) rfl j _ (List.getElem?_eq_getElem hj)
          have e2 : (⟨g, 0, none⟩ : Addr).add j = ⟨g, j, none⟩ := by unfold Addr.add; split <;> simp_all
          rw [e2] at hc
          refine ⟨by rw [hc]; simp [hj], ?_⟩
          simp [World.frozen?, hgh]) (by omega))
        have HSL := Lib.hid (show (Plain.srt Plain.ilt M).length = M.length from Plain.srt_length M)
        rw [← HI.out] at HSF HSL
        have HGH := Lib.hid hgh
        clear ho hgh hcs htk HO HS HE
        go_wp2_with fail
        refine HSF.out.mono ?_
        rintro e w2 ⟨rfl, hL, hT, hB⟩
        obtain ⟨cs', hT2⟩ := hT _ _ _ HGH.out
        have d2 := hB w.heap.size hbg
        have HL := Lib.hid hL
        have HT := Lib.hid hT2
        clear hL hB HSF hT hT2
        go_wp2
        go_returns
        exact ⟨_, rfl, some ⟨g, 0, none⟩, cap1, by rw [HSL.out]; rfl, by rw [HSL.out]; exact hl1, hm1, HL.out, hbr.trans d2, .inr ⟨g, cs', _, rfl, HT.out⟩⟩
end Go.Proofs.Ytkhlgjkbkpbhiaa
