/-
  Layer 14: turntableref14.Same, the law's One: what they answer, of any entries. Assumed: that these lie in memory.
-/
import Derived.Test.YtepfbpljkhchbaaEnI
import Derived.Deep.Slices
import Derived.Deep.Fields

namespace Go.Proofs.Ytepfbpljkhchbaa
open Go.RowKit Go.Maps En
set_option maxRecDepth 100000

theorem undrew14 {a b : World} (h : Below a.drew.heap.size a.drew b) : Below a.heap.size a b := ⟨h.os, h.tape, h.output, h.size, h.block⟩
/-- the k-th entry's cells, in every later world -/
theorem at_ent {w : World} {A : Option Addr} {l : List Ent} (h : Lies w A (flatEn l)) (k : Nat) (hk : k < l.length) :
    ∃ ad, A = some ad ∧ ad.block < w.heap.size ∧ ∀ u, Below w.heap.size w u → ∀ j c, (entCs l[k])[j]? = some c → u.cell? ((ad.add (k * 13)).add j) = some c := by
  obtain ⟨ad, rfl, hadb, -⟩ := h.at_ (k := k * 13) (by rw [flatEn_length]; omega)
  refine ⟨ad, rfl, hadb, fun u hu j c hc => ?_⟩
  have hj : j < 13 := by
    rcases Nat.lt_or_ge j 13 with h | h
    · exact h
    · rw [List.getElem?_eq_none (by rw [entCs_length]; exact h)] at hc; cases hc
  have hf := flatEn_at l k j l[k] (List.getElem?_eq_getElem hk) hj
  rw [hc] at hf
  rw [addr_add]
  rcases h with h | ⟨ad', e, _, hcl⟩
  · rw [h] at hf; simp at hf
  · injection e with e; subst e
    exact (hu.cell (by rw [addr_block]; exact hadb)).trans (hcl _ _ hf)
/-- an entry in a row, read whole -/
theorem run_loadRow (w : World) (q : Addr) (t : Ent) (h : ∀ j c, (entCs t)[j]? = some c → w.cell? (q.add j) = some c) : (Instr.loadAt 35 (.pointer (some q))).run Try.prog w = .ok (.agg (enA t.e (.slice t.A t.e.sv.length t.cap))) w := by
  have c0 : w.cell? q = some (.int .i64 t.e.id) := by have := h 0 _ rfl; simpa [Addr.add] using this
  have key : ∀ j c, 0 < j → (entCs t)[j]? = some c → w.cell? ⟨q.block, q.off + j, none⟩ = some c := fun j c hj hc => by
    have := h j c hc
    obtain ⟨b, o, sp⟩ := q
    cases sp with
    | none => simpa [Addr.add, Nat.ne_of_gt hj] using this
    | some n =>
      simp only [World.cell?] at c0
      split at c0 <;> simp at c0
  have c1 := key 1 _ (by omega) rfl
  have c2 := key 2 _ (by omega) rfl
  have c3 := key 3 _ (by omega) rfl
  have c4 := key 4 _ (by omega) rfl
  have c5 := key 5 _ (by omega) rfl
  have c6 := key 6 _ (by omega) rfl
  have c7 := key 7 _ (by omega) rfl
  have c8 := key 8 _ (by omega) rfl
  have c9 := key 9 _ (by omega) rfl
  have c10 := key 10 _ (by omega) rfl
  have c11 := key 11 _ (by omega) rfl
  have c12 := key 12 _ (by omega) rfl
  clear key h
  unfold enA
  go_simp

set_option maxHeartbeats 4000000 in
theorem same14_any (A B : Option Addr) (n m ca cb : Nat) (la lb : List Ent) (w : World) (hn : la.length = n) (hm : lb.length = m) (hca : n ≤ ca) (hcb : m ≤ cb) (_hma : ca ≤ maxLen) (_hmb : cb ≤ maxLen) (hA : Lies w A (flatEn la)) (hB : Lies w B (flatEn lb))
    (ha : ∀ t ∈ la, Svs w t.e.sv t.A t.cap) (hb : ∀ t ∈ lb, Svs w t.e.sv t.A t.cap) :
    Calls Try.prog 31 #[.slice A n ca, .slice B m cb] w fun e w' => e = .returned (.bool (decide (la.map Ent.e = lb.map Ent.e))) ∧ Below w.heap.size w w' := by
  unfold maxLen at _hma _hmb
  by_cases hnm : n = m
  rotate_left
  · have HE := Lib.hid (show decide (la.map Ent.e = lb.map Ent.e) = false by rw [decide_eq_false_iff_not]; intro h; have := congrArg List.length h; simp at this; omega)
    clear hn hm hA hB ha hb
    go_enter Try.func31, Try.ntmps31
    go_wp2
    go_ret
    exact ⟨by rw [HE.out]; rfl, Below.refl _ _⟩
  subst hnm
  have HNA := Lib.hid hn
  have HNB := Lib.hid hm
  have HA := Lib.hid hA
  have HB := Lib.hid hB
  have HSA := Lib.hid ha
  have HSB := Lib.hid hb
  clear hn hm hA hB ha hb
  go_enter Try.func31, Try.ntmps31
  go_wp2
  go_loopw [5] (fun i wr => ∃ k : Nat, i = .int .i64 k ∧ k ≤ n ∧ (la.map Ent.e).take k = (lb.map Ent.e).take k ∧ Below w.heap.size w wr) (fun i _ => n - (intOf i).toNat)
  case atStart => exact ⟨0, rfl, Nat.zero_le _, by simp, Below.refl _ _⟩
  case round =>
    obtain ⟨k, rfl, hkn, htk, hbr⟩ := hrel
    have HTK := Lib.hid htk
    have HBR := Lib.hid hbr
    clear htk hbr
    by_cases hlt : k < n
    · have hka : k < la.length := by rw [HNA.out]; exact hlt
      have hkb : k < lb.length := by rw [HNB.out]; exact hlt
      obtain ⟨ad, rfl, hadb, hcl⟩ := at_ent HA.out k hka
      obtain ⟨bd, rfl, hbdb, hclb⟩ := at_ent HB.out k hkb
      have LA := Lib.hid (fun (W : World) (h : Below wr.heap.size wr W) => run_loadRow W (ad.add (k * 13)) la[k] (hcl W (HBR.out.trans (h.mono HBR.out.size))))
      have LB := Lib.hid (fun (W : World) (h : Below wr.heap.size wr W) => run_loadRow W (bd.add (k * 13)) lb[k] (hclb W (HBR.out.trans (h.mono HBR.out.size))))
      have HXA := Lib.hid (fun (W : World) => show (Instr.indexAt 51 (.slice (some ad) n ca) (.int .i64 (k : Int))).run Try.prog W = .ok (.pointer (some (ad.add (k * 13)))) W by go_simp)
      have HXB := Lib.hid (fun (W : World) => show (Instr.indexAt 51 (.slice (some bd) n cb) (.int .i64 (k : Int))).run Try.prog W = .ok (.pointer (some (bd.add (k * 13)))) W by go_simp)
      have HSM := Lib.hid (fun (W : World) (h : Below wr.heap.size wr W) => sameE_any la[k].e lb[k].e la[k].A lb[k].A _ _ la[k].cap lb[k].cap W rfl rfl ((HSA.out _ (List.getElem_mem hka)).below (HBR.out.trans (h.mono HBR.out.size))) ((HSB.out _ (List.getElem_mem hkb)).below (HBR.out.trans (h.mono HBR.out.size))))
      have HT1 := Lib.hid (show la[k].e = lb[k].e → (la.map Ent.e).take (k + 1) = (lb.map Ent.e).take (k + 1) by
        intro h
        rw [List.take_succ_eq_append_getElem (by simpa using hka), List.take_succ_eq_append_getElem (by simpa using hkb), HTK.out]
        simp [h])
      have HT2 := Lib.hid (show la[k].e ≠ lb[k].e → la.map Ent.e ≠ lb.map Ent.e by
        intro h h2
        have e1 : (la.map Ent.e)[k]? = some la[k].e := by simp [hka]
        have e2 : (lb.map Ent.e)[k]? = some lb[k].e := by simp [hkb]
        rw [h2, e2] at e1
        exact h (by injection e1 with e1; exact e1.symm))
      obtain ⟨D, hD⟩ : ∃ D, decide (la[k].e = lb[k].e) = D := ⟨_, rfl⟩
      rw [hD] at HSM
      have HXY := Lib.hid (show D = true → la[k].e = lb[k].e from fun h => by rw [h] at hD; exact of_decide_eq_true hD)
      have HXN := Lib.hid (show D = false → la[k].e ≠ lb[k].e from fun h => by rw [h] at hD; exact of_decide_eq_false hD)
      clear hcl hclb hD
      generalize enA la[k].e _ = AX at *
      generalize enA lb[k].e _ = BX at *
      go_wp2
      refine wp_softS (by kernel_rfl) 27 [(17, [0]), (18, [5]), (19, [17, 18]), (20, [19]), (21, [1]), (22, [5]), (23, [21, 22]), (24, [23]), (25, [20, 24]), (26, [25])]
        [Fact.is (.slice (some ad) n ca), Fact.is (.int .i64 (k : Int)), Fact.is (.pointer (some (ad.add (k * 13)))), Fact.is (.agg AX), Fact.is (.slice (some bd) n cb), Fact.is (.int .i64 (k : Int)), Fact.is (.pointer (some (bd.add (k * 13)))), Fact.is (.agg BX), Fact.is (.bool D), Fact.is (.bool (!D))]
        (by kernel_rfl) rfl rfl ⟨?s0, ?s1, ?s2, ?s3, ?s4, ?s5, ?s6, ?s7, ?s8, ?s9, trivial⟩ ?fin
      case s0 =>
        intro ρ W hb hc hf hr
        obtain ⟨r0, -⟩ := hr
        have e0 : ρ (.tmp 0) = .slice (some ad) n ca := r0
        clear r0
        refine under_none rfl ?_
        exact ⟨e0, Below.refl _ _⟩
      case s1 =>
        intro ρ W hb hc hf hr
        obtain ⟨r5, -⟩ := hr
        have e5 : ρ (.tmp 5) = .int .i64 (k : Int) := r5
        clear r5
        refine under_none rfl ?_
        exact ⟨e5, Below.refl _ _⟩
      case s2 =>
        intro ρ W hb hc hf hr
        obtain ⟨r17, r18, -⟩ := hr
        have e17 : ρ (.tmp 17) = .slice (some ad) n ca := r17
        clear r17
        have e18 : ρ (.tmp 18) = .int .i64 (k : Int) := r18
        clear r18
        refine under_none rfl ?_
        exact soft_index e17 e18 (HXA.out W) rfl
      case s3 =>
        intro ρ W hb hc hf hr
        obtain ⟨r19, -⟩ := hr
        have e19 : ρ (.tmp 19) = .pointer (some (ad.add (k * 13))) := r19
        clear r19
        refine under_none rfl ?_
        exact soft_load e19 (LA.out W (undrew14 hb)) rfl
      case s4 =>
        intro ρ W hb hc hf hr
        obtain ⟨r1, -⟩ := hr
        have e1 : ρ (.tmp 1) = .slice (some bd) n cb := r1
        clear r1
        refine under_none rfl ?_
        exact ⟨e1, Below.refl _ _⟩
      case s5 =>
        intro ρ W hb hc hf hr
        obtain ⟨r5, -⟩ := hr
        have e5 : ρ (.tmp 5) = .int .i64 (k : Int) := r5
        clear r5
        refine under_none rfl ?_
        exact ⟨e5, Below.refl _ _⟩
      case s6 =>
        intro ρ W hb hc hf hr
        obtain ⟨r21, r22, -⟩ := hr
        have e21 : ρ (.tmp 21) = .slice (some bd) n cb := r21
        clear r21
        have e22 : ρ (.tmp 22) = .int .i64 (k : Int) := r22
        clear r22
        refine under_none rfl ?_
        exact soft_index e21 e22 (HXB.out W) rfl
      case s7 =>
        intro ρ W hb hc hf hr
        obtain ⟨r23, -⟩ := hr
        have e23 : ρ (.tmp 23) = .pointer (some (bd.add (k * 13))) := r23
        clear r23
        refine under_none rfl ?_
        exact soft_load e23 (LB.out W (undrew14 hb)) rfl
      case s8 =>
        intro ρ W hb hc hf hr
        obtain ⟨r20, r24, -⟩ := hr
        have e20 : ρ (.tmp 20) = .agg AX := r20
        clear r20
        have e24 : ρ (.tmp 24) = .agg BX := r24
        clear r24
        refine under_none rfl ?_
        exact soft_call2 hf e20 e24 (HSM.out W (undrew14 hb)) rfl (by kernel_rfl) below_is
      case s9 =>
        intro ρ W hb hc hf hr
        obtain ⟨r25, -⟩ := hr
        have e25 : ρ (.tmp 25) = .bool D := r25
        clear r25
        refine under_none rfl ?_
        simp [execOp, e25, go_sem, softUpon, Fact.is, Below.refl]
      case fin =>
        intro a w1 hb hd hsz hk
        have ea := act_puts hd hsz rfl hk
        have k17 : a.tmps.getD 17 undef = .slice (some ad) n ca := hk 17
        have k18 : a.tmps.getD 18 undef = .int .i64 (k : Int) := hk 18
        have k19 : a.tmps.getD 19 undef = .pointer (some (ad.add (k * 13))) := hk 19
        have k20 : a.tmps.getD 20 undef = .agg AX := hk 20
        have k21 : a.tmps.getD 21 undef = .slice (some bd) n cb := hk 21
        have k22 : a.tmps.getD 22 undef = .int .i64 (k : Int) := hk 22
        have k23 : a.tmps.getD 23 undef = .pointer (some (bd.add (k * 13))) := hk 23
        have k24 : a.tmps.getD 24 undef = .agg BX := hk 24
        have k25 : a.tmps.getD 25 undef = .bool D := hk 25
        have k26 : a.tmps.getD 26 undef = .bool (!D) := hk 26
        clear hk hd hsz
        simp only [List.map_cons, List.map_nil, List.foldl_cons, List.foldl_nil, k17, k18, k19, k20, k21, k22, k23, k24, k25, k26] at ea
        clear k17 k18 k19 k20 k21 k22 k23 k24 k25 k26
        simp only [Act.put, List.setIfInBounds_toArray, List.set_cons_succ, List.set_cons_zero] at ea
        subst ea
        have HB1 := Lib.hid (HBR.out.trans ((undrew14 hb).mono HBR.out.size))
        clear hb
        rcases D with _ | _
        · have HF := Lib.hid (show decide (la.map Ent.e = lb.map Ent.e) = false by rw [decide_eq_false_iff_not]; exact HT2.out (HXN.out rfl))
          go_wp2
          go_ret
          exact ⟨by rw [HF.out]; rfl, HB1.out⟩
        · have HT := Lib.hid (HT1.out (HXY.out rfl))
          go_wp2
          go_roundw
          case rel => exact ⟨k + 1, by go_num, by omega, HT.out, HB1.out⟩
          case measure => simp [intOf]; omega
    · obtain rfl : k = n := by omega
      have HF := Lib.hid (show decide (la.map Ent.e = lb.map Ent.e) = true by
        have := HTK.out
        rw [List.take_of_length_le (by simp; rw [HNA.out]; omega), List.take_of_length_le (by simp; rw [HNB.out]; omega)] at this
        simp [this])
      go_wp2
      go_ret
      exact ⟨by rw [HF.out]; rfl, HBR.out⟩

/-- the law's One -/
def one14 (i t s a : Int) : E := ⟨i, 0, t, 20, false, i, 0, 0, 1, [[119, 101, 98]], s, a, 20⟩
theorem one14_any (i t s a : Int) (w : World) : Calls Try.prog 37 #[.int .i64 i, .int .i64 t, .int .i64 s, .int .i64 a] w fun e w' => ∃ g, e = .returned (.agg (enA (one14 i t s a) (.slice (some ⟨g, 0, none⟩) 1 1))) ∧ w.heap.size ≤ g ∧ Svs w' [[119, 101, 98]] (some ⟨g, 0, none⟩) 1 ∧ Below w.heap.size w w' := by
  go_enter Try.func37, Try.ntmps37
  go_wp2_with fail
  have hb := ((BoxE.new w (one14 i t s a) (.slice (some ⟨w.heap.size + 1, 0, none⟩) 1 1)).below ((Below.refl _ _).alloc (Nat.le_refl _) (.cells #[.string ⟨#[119, 101, 98]⟩] 9)))
  have hL : Lies ((w.alloc (.cells (enA (one14 i t s a) (.slice (some ⟨w.heap.size + 1, 0, none⟩) 1 1)) 35)).alloc (.cells #[.string ⟨#[119, 101, 98]⟩] 9)) (some ⟨w.heap.size + 1, 0, none⟩) (strs [[119, 101, 98]]) := by
    have := Lies.new (w.alloc (.cells (enA (one14 i t s a) (.slice (some ⟨w.heap.size + 1, 0, none⟩) 1 1)) 35)) #[.string ⟨#[119, 101, 98]⟩] 9
    rw [World.size_alloc] at this
    exact this
  have hB : Below w.heap.size w ((w.alloc (.cells (enA (one14 i t s a) (.slice (some ⟨w.heap.size + 1, 0, none⟩) 1 1)) 35)).alloc (.cells #[.string ⟨#[119, 101, 98]⟩] 9)) := ((Below.refl _ _).alloc (Nat.le_refl _) _).alloc (by simp) _
  unfold enA at *
  simp only [one14] at *
  revert hb hL hB
  generalize World.alloc _ _ = wf
  intro hb hL hB
  obtain ⟨y0, y1, y2, y3, y4, y5, y6, y7, y8, y9, y10, y11, y12⟩ := BoxE.all (x := one14 i t s a) hb
  simp only [one14] at y0 y1 y2 y3 y4 y5 y6 y7 y8 y9 y10 y11 y12
  refine bodyPost_ret (v := .agg #[.int .i64 i, .int .i64 0, .int .i64 t, .int .i64 20, .bool false, .int .i64 i, .int .i64 0, .int .i64 0, .int .i64 1, .slice (some ⟨w.heap.size + 1, 0, none⟩) 1 1, .int .i64 s, .int .i64 a, .int .i64 20]) (w := wf) (by simp [results, Try.results37, go_sem, y0, y1, y2, y3, y4, y5, y6, y7, y8, y9, y10, y11, y12]) rfl ?_
  exact ⟨w.heap.size + 1, rfl, by omega, ⟨by simp, by simp, by unfold maxLen; omega, hL⟩, hB⟩
end Go.Proofs.Ytepfbpljkhchbaa

