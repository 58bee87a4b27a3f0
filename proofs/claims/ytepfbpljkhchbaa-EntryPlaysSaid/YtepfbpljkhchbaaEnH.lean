/-
  Layer 14: entry.sorted: the entries that fit, sorted, as pointers: what it answers, of any index, whatever order the map is told in. Assumed: that the index lies in memory; the sorting (its contract is taken in).
-/
import Derived.Test.YtepfbpljkhchbaaEnG

namespace Go.Proofs.Ytepfbpljkhchbaa
open Go.RowKit Go.Maps En
set_option maxRecDepth 100000

def ptrs (p : Int → Nat) (l : List E) : List Value := l.map fun e => .pointer (some ⟨p e.id, 0, none⟩)
theorem ptrs_length (p : Int → Nat) (l : List E) : (ptrs p l).length = l.length := by simp [ptrs]
theorem ptrs_snoc (p : Int → Nat) (l : List E) (e : E) : ptrs p (l ++ [e]) = ptrs p l ++ [.pointer (some ⟨p e.id, 0, none⟩)] := by simp [ptrs]
theorem ptrs_one (p : Int → Nat) (l : List E) : ∀ u ∈ ptrs p l, u.oneCell' = true := by
  intro u hu
  obtain ⟨s, _, rfl⟩ := List.mem_map.1 hu
  rfl
theorem Uq.nodup {m : List E} (h : Uq m) : m.Nodup := (List.pairwise_map.1 h).imp fun h e => h (by rw [e])
/-- those that have come -/
def come (left : Lit → Bool) (m : List E) : List E := m.filter fun e => !left (.int .i64 e.id)
theorem come_step {m : List E} (hu : Uq m) {left : Lit → Bool} {e0 : E} (h0 : e0 ∈ m) (hl : left (.int .i64 e0.id) = true) : (come (fun z => left z && !z.sameKey (.int .i64 e0.id)) m).Perm (come left m ++ [e0]) := by
  unfold come
  have hn := Uq.nodup hu
  rw [List.perm_ext_iff_of_nodup (hn.sublist List.filter_sublist)]
  · intro e
    rw [List.mem_append, List.mem_filter, List.mem_filter, List.mem_singleton]
    by_cases he : e.id = e0.id
    · have hk : (Lit.int .i64 e.id).sameKey (.int .i64 e0.id) = true := by rw [he]; exact WideAt.sameKey_self trivial
      simp only [hk, Bool.not_true, Bool.and_false, Bool.not_false, and_true]
      constructor
      · exact fun h => .inr (hu.inj h h0 he)
      · rintro (⟨h, -⟩ | rfl)
        · exact h
        · exact h0
    · have hk : (Lit.int .i64 e.id).sameKey (.int .i64 e0.id) = false := sameKey_ne (by intro h; injection h with _ h; exact he h)
      simp only [hk, Bool.not_false, Bool.and_true]
      constructor
      · exact fun h => .inl h
      · rintro (h | rfl)
        · exact h
        · exact absurd rfl he
  · rw [List.nodup_append]
    refine ⟨hn.sublist List.filter_sublist, by simp, fun a ha b hb e => ?_⟩
    rw [List.mem_singleton.1 hb] at e
    subst e
    rw [List.mem_filter, hl] at ha
    simp at ha
theorem come_start {m : List E} {left : Lit → Bool} (h : ∀ e ∈ m, left (.int .i64 e.id) = true) : come left m = [] := by
  unfold come
  rw [List.filter_eq_nil_iff]
  intro e he
  rw [h e he]; simp
theorem come_end {m : List E} {left : Lit → Bool} (h : ∀ k, left k = false) : come left m = m := by
  unfold come
  rw [List.filter_eq_self]
  intro e he
  rw [h]; rfl

/-- pointers to entries that were handed back, in new memory -/
def GivesP (w w' : World) (p : Int → Nat) (l : List E) (v : Value) : Prop := ∃ A cap, v = .slice A l.length cap ∧ l.length ≤ cap ∧ Lies w' A (ptrs p l) ∧ Below w.heap.size w w'

section
variable {R : List Nat} {w : World} {x b : Nat} {p : Int → Nat} {m : List E}
set_option maxHeartbeats 8000000 in
theorem sorted14_any (h : IsIdx R w x b p m) (fn fn2 : Nat) (bd : Array Value) (q : E → Bool) (lt' : E → E → Bool) (eg : ∀ args w, (callFunc fn args).run Try.prog w = .ok (.enter fn args) w)
    (hf : ∀ W, Below w.heap.size w W → ∀ y ∈ m, ∀ s, BoxE W (p y.id) y s → Calls Try.prog fn (#[.pointer (some ⟨p y.id, 0, none⟩)] ++ bd) W fun e w' => e = .returned (.bool (q y)) ∧ Below W.heap.size W w')
    (hs : ∀ W v (L : List E), Below w.heap.size w W → L.Perm (m.filter q) → W.ownsRow w.heap.size 65 1 v L.length (ptrs p L) → Calls Try.prog 60 #[v, .func (.func fn2) #[] #[]] W fun e w' => e = .returned (.tuple #[]) ∧ ∃ A cap M, v = .slice A L.length cap ∧ L.length ≤ cap ∧ M.Perm L ∧ M.Pairwise (fun a b => lt' b a = false) ∧ Lies w' A (ptrs p M) ∧ Below w.heap.size W w') :
    Calls Try.prog 49 #[.pointer (some ⟨x, 0, none⟩), .func (.func fn) #[] bd, .func (.func fn2) #[] #[]] w fun e w' => ∃ v M, e = .returned v ∧ M.Perm (m.filter q) ∧ M.Pairwise (fun a b => lt' b a = false) ∧ GivesP w w' p M v := by
  obtain ⟨i0, hi, hz0, hz1, hz2⟩ := info_parts infoPE
  have c0 : w.cell? ⟨x, 0, none⟩ = some (.map (some b)) := h.box.cell 0
  obtain ⟨D, hmp, hH⟩ := h.map
  have HH := Lib.hid hH
  have HI := Lib.hid h
  have HF := Lib.hid hf
  have HSO := Lib.hid hs
  have HBL := Lib.hid h.blt
  have hfew := h.few
  clear h hf hs hH
  go_enter Try.func49, Try.ntmps49
  go_wp2_with (first
    | (at_range; refine wpList_range_own _ rfl _ 60 rfl 2 65 keyedL Try.underlying60 ptrElem b m.length D rfl hmp ?_; intro w0 hrg0 hg0 hs0)
    | go_in)
  go_frame
  have hB0 : Below w.heap.size w w0 := (Below.refl _ _).grown hg0 (Nat.le_refl _) (fun j e => by cases e)
  have HB0 := Lib.hid hB0
  go_loopw [7, 9] (fun s7 s9 wr => ∃ (left : Lit → Bool) (cnt : Nat) (L : List E), wr.ranges Try.prog 2 ptrElem b w.heap.size m.length D left cnt ∧ wr.ownsRow w.heap.size 65 1 s7 L.length (ptrs p L) ∧ L.Perm ((come left m).filter q) ∧ Below w.heap.size w wr) (fun _ _ wr => wr.rangeLeft b w.heap.size)
  case atStart =>
    refine ⟨_, _, [], hrg0, World.ownsRow_nil _ _ _ _, ?_, hB0⟩
    rw [come_start fun e he => (HH.out.has _).2 ⟨e, he, rfl⟩]
    exact .refl _
  case round =>
    obtain ⟨left, cnt, L, hrg, hrow, hperm, hBr⟩ := hrel
    have HRG := Lib.hid hrg
    have HROW := Lib.hid hrow
    have HP := Lib.hid hperm
    have HBR := Lib.hid hBr
    clear hrow hperm hBr
    go_wp2_with (first
      | (at_next; refine wpList_next_ranges _ rfl _ rfl 2 keyedL ptrElem (Value.int .i64) Value.pointer (fun key kl hk => by obtain ⟨x, hx, _⟩ := Maps.keyOf_int_inv Try.underlying2 hk; exact ⟨x, hx⟩) (fun v y hv => ptrElem_inv hv) b w.heap.size m.length _ _ _ rfl hrg ?_ ?_)
      | go_in)
    · intro hc0 hl0
      clear hrg
      have HL0 := Lib.hid hl0
      clear hl0
      have HPE := Lib.hid (show L.Perm (m.filter q) by
        have := HP.out
        rwa [come_end HL0.out] at this)
      have HS := Lib.hid (HSO.out wr u7 L HBR.out HPE.out HROW.out)
      go_wp2_with fail
      refine HS.out.mono ?_
      rintro e w5 ⟨rfl, A, cap, M, rfl, hlc, hpm, hpw, hlies, hb5⟩
      have HG := Lib.hid (show GivesP w w5 p M (.slice A L.length cap) from ⟨A, cap, by rw [hpm.length_eq], by rw [hpm.length_eq]; exact hlc, hlies, HBR.out.trans hb5⟩)
      have HPM := Lib.hid (hpm.trans HPE.out)
      have HPW := Lib.hid hpw
      clear hlc hpm hpw hlies hb5 HS
      go_wp2
      go_ret
      exact ⟨_, M, rfl, HPM.out, HPW.out, HG.out⟩
    · intro xk c kl yv ps w1 cnt1 hwx hlk hRv hat hrg1 hlt hg1 hs1 hen
      have hhas : Maps.has D kl = true := has_true_of_atKey hat
      obtain ⟨e0, he0, rfl⟩ := (HH.out.has kl).1 hhas
      have hxk : xk = e0.id := by
        obtain ⟨z, hz, hz2, -⟩ := Maps.keyOf_int_inv Try.underlying2 hwx
        injection hz with _ hz
        injection hz2 with _ hz2
        rw [hz, hz2]
      subst hxk
      have hy0 := HH.out.at_ e0 he0 .nil
      rw [hat .nil] at hy0
      subst hy0
      obtain ⟨hc, -⟩ := ptrElem_held hRv
      injection hc with hc
      subst hc
      have hB1 : Below w.heap.size w w1 := HBR.out.grown hg1 HBR.out.size (fun j e => by injection e with e; omega)
      have hne : u7.ownBlock ≠ some w.heap.size := by
        obtain ⟨es, clock, since, seen, c0, h1, h2, h3, h4, h5, -⟩ := HRG.out
        rcases HROW.out.2 with ⟨rfl, -⟩ | ⟨g, cap, cur, rfl, hbg, hgh, -⟩
        · simp [Value.ownBlock]
        · simp only [Value.ownBlock]
          intro e
          injection e with e
          rw [← e, hgh] at h5
          cases h5
      have hneb : u7.ownBlock ≠ some b := by
        rcases HROW.out.2 with ⟨rfl, -⟩ | ⟨g, cap, cur, rfl, hbg, -⟩
        · simp [Value.ownBlock]
        · simp only [Value.ownBlock]
          intro e
          injection e with e
          have := HBL.out
          omega
      have HNE := Lib.hid (And.intro hne hneb)
      have hrow1 : w1.ownsRow w.heap.size 65 1 u7 L.length (ptrs p L) := HROW.out.kept hg1 (.inr hne)
      obtain ⟨A, cap, hE, -, -⟩ := HI.out.ent e0 he0
      have hE1 := BoxE.below hE hB1
      have HFT := Lib.hid (HF.out w1 hB1 e0 he0 _ hE1)
      have HROW1 := Lib.hid hrow1
      have HB1 := Lib.hid hB1
      have HRG1 := Lib.hid hrg1
      have HLT := Lib.hid hlt
      have HLK := Lib.hid hlk
      have HE0 := Lib.hid he0
      clear hrow1 hB1 hrg1 hE hE1 hg1 hs1 hlt hhas hat hwx hRv hlk he0 hrg HROW hne hneb
      go_wp2_with fail
      refine HFT.out.mono ?_
      rintro e w2 ⟨rfl, d2⟩
      have HRG2 := Lib.hid (HRG1.out.kept (row := none) ⟨d2.os, d2.tape, d2.output, d2.size, fun k hk _ => d2.block k hk⟩ (by simp) (by simp))
      have HROW2 := Lib.hid (row_keep HROW1.out d2)
      have HB2 := Lib.hid (HB1.out.trans (d2.mono HB1.out.size))
      have HST := Lib.hid (come_step HI.out.ok.uq HE0.out HLK.out)
      clear d2 HFT
      rcases hq : q e0 with _ | _
      · go_wp2
        go_roundw
        case rel =>
          refine ⟨_, _, L, HRG2.out, HROW2.out, ?_, HB2.out⟩
          refine HP.out.trans ?_
          have := (HST.out.filter q)
          rw [List.filter_append] at this
          simp only [List.filter_cons, hq, List.filter_nil, Bool.false_eq_true, if_false, List.append_nil] at this
          exact this.symm
        case measure =>
          rw [HRG2.out.left_eq, HRG.out.left_eq]
          exact HLT.out
      · have HLL := Lib.hid (show L.length ≤ 1000 by
          rw [HP.out.length_eq]
          exact Nat.le_trans (List.length_filter_le ..) (Nat.le_trans (List.length_filter_le ..) hfew))
        go_wp2_with (at_builtin; refine wpList_appK rfl _ _ 76 rfl w.heap.size 65 i0 (.pointer none) 1 8 Try.underlying76 hi hz0 hz1 hz2 rfl (by decide) _ L.length (ptrs p L) rfl ?b1 (some ⟨w2.heap.size, 0, none⟩) 1 1 [.pointer (some ⟨p e0.id, 0, none⟩)] rfl rfl ?b2 ?b3 ?b4 ?b5 ?b6 ?b7)
        case b1 => exact HROW2.out.alloc _
        case b2 => exact Lies.new w2 #[.pointer (some ⟨p e0.id, 0, none⟩)] _
        case b3 => simp [Value.oneCell']
        case b4 => have := HLL.out; unfold maxLen; omega
        case b5 => have := HLL.out; omega
        case b6 => have := HB2.out.size; simp; omega
        case b7 =>
          intro v3 w3 hown3 hg3 _
          have HRG3 := Lib.hid ((HRG2.out.alloc (.cells #[.pointer (some ⟨p e0.id, 0, none⟩)] 65)).kept hg3 HNE.out.2.symm HNE.out.1.symm)
          have HB3 := Lib.hid ((HB2.out.alloc HB2.out.size (.cells #[.pointer (some ⟨p e0.id, 0, none⟩)] 65)).grown hg3 (Nat.le_trans HB2.out.size (by simp)) (fun g e => by
            rcases HROW2.out.2 with ⟨e2, -⟩ | ⟨g', cap, cur, e2, hbg, -⟩
            · rw [e2] at e; cases e
            · rw [e2] at e; injection e with e; rw [← e]; exact hbg))
          have HO3 := Lib.hid hown3
          clear hown3 hg3
          go_wp2
          go_roundw
          case rel =>
            refine ⟨_, _, L ++ [e0], HRG3.out, ?_, ?_, HB3.out⟩
            · rw [List.length_append, ptrs_snoc]; exact HO3.out
            · have := (HST.out.filter q)
              rw [List.filter_append] at this
              simp only [List.filter_cons, hq, List.filter_nil, if_true] at this
              exact (HP.out.append_right [e0]).trans this.symm
          case measure =>
            rw [HRG3.out.left_eq, HRG.out.left_eq]
            exact HLT.out
end
end Go.Proofs.Ytepfbpljkhchbaa
