/-
  Layer 13, the developers' rec: change and shapes: the shape of each kind, and where what they capture lies. Nothing is assumed.
-/
import Derived.Test.YtdfeccmcefcpbaaDoorRoA
import Derived.Maps.OwnSet
import Derived.Laws.EntriesVeiled

namespace Go.Proofs.YtdfeccmcefcpbaaDoor
open Go.RowKit Go.Maps
set_option maxRecDepth 100000

/-- the shape of a change -/
def chgV (gm gn gc : Nat) : Value := .agg #[.func (.func 55) #[] #[.pointer (some ⟨gm, 0, none⟩)], .func (.func 56) #[] #[.pointer (some ⟨gc, 0, none⟩)], .func (.func 57) #[] #[.pointer (some ⟨gn, 0, none⟩), .pointer (some ⟨gc, 0, none⟩)]]
/-- .. of Sealed -/
def sealV : Value := .agg #[.func (.func 39) #[] #[], .func (.func 40) #[] #[], .func (.func 41) #[] #[]]
/-- no shape -/
def noV : Value := .agg #[.nilFunc, .nilFunc, .nilFunc]

theorem blk_past {w : World} {g : Nat} {cs : Array Value} {t : TypeId} (h : Blk w g cs t) (o : Obj) : Blk (w.alloc o) g cs t := by
  have hl := h.lt
  unfold Blk
  rw [Below.heap_alloc _ _ _ hl]
  exact h
theorem blk_now {w : World} {g : Nat} {cs : Array Value} {t : TypeId} (h : g = w.heap.size) : Blk (w.alloc (.cells cs t)) g cs t := h ▸ Blk.new w cs t

set_option maxHeartbeats 2000000 in
theorem change13_any (c : Bool) (w : World) :
    Calls Tryd.prog 42 #[.bool c] w fun e w' => ∃ gm gn gc, e = .returned (chgV gm gn gc) ∧ Cap13 w' gm gn gc c ∧ Below w.heap.size w w' := by
  have hmf : ∀ (fn : Fn) (first cap : Array Value) (w : World), (Instr.makeFunc fn first cap).run Tryd.prog w = .ok (.func fn first cap) w := fun _ _ _ _ => rfl
  cases c
  all_goals
    go_enter Tryd.func42, Tryd.ntmps42
    go_wp2
    go_returns
    exact ⟨_, _, _, rfl, ⟨blk_past (blk_now (by simp)) _, blk_now (by simp), blk_past (blk_past (blk_past (blk_now rfl) _) _) _⟩, by go_grown⟩

/-! the map of shapes -/
/-- whatever lies in it is read as itself -/
def anyElem (v : Value) : Option (DataW Value × List MemPlace) := some (.held v, [])
theorem keyed13 : Keyed Tryd.prog 3 := int_keyed Tryd.underlying3
theorem zero13 (w : World) : (zeroValue 48).run Tryd.prog w = .ok noV w := by kernel_rfl
theorem map_put13 {W : World} {b n : Nat} {D : DataW Value} (h : W.ownsMap Tryd.prog 3 anyElem b n D) (hn : n < 100) (k : Int) (hk : 0 ≤ k ∧ k ≤ 100) (v : Value) :
    ∃ w', (Instr.mapUpdate 50 (.map (some b)) (.int .i64 k) v).run Tryd.prog W = .ok () w' ∧ w'.ownsMap Tryd.prog 3 anyElem b (n + 1) (D.put (.int .i64 k) (.held v)) ∧ W.grownBy w' (some b) :=
  h.update keyed13 Tryd.underlying50 (by unfold maxLen; omega) (keyOf_int_mk Tryd.underlying3 (WalkArith.wf_i64 (by omega))) (d := .held v) (ps := []) rfl

theorem look13 {w : World} {b n : Nat} {D : DataW Value} (h : w.ownsMap Tryd.prog 3 anyElem b n D) (k : Int) :
    ∃ v, (Instr.lookup 50 (.map (some b)) (.int .i64 k) true).run Tryd.prog w = .ok (.tuple #[v, .bool ((Lit.int .i64 k).wf && Maps.has D (.int .i64 k))]) w ∧
      ((Lit.int .i64 k).wf = true → DataW.held v = D.atKey (.int .i64 k) (.held noV)) ∧ ((Lit.int .i64 k).wf = false → v = noV) := by
  cases hw : (Lit.int .i64 k).wf with
  | true =>
    obtain ⟨v, ps, h1, h2⟩ := h.look_ok keyed13 Tryd.underlying50 (zero13 w) (zd := .held noV) (zp := []) rfl (keyOf_int_mk Tryd.underlying3 hw)
    refine ⟨v, by rw [h1, Bool.true_and], fun _ => ?_, fun e => by cases e⟩
    unfold anyElem at h2
    injection h2 with h2
    exact congrArg Prod.fst h2
  | false =>
    obtain ⟨es, clock, hb, F, -, -⟩ := h
    have hks : ∀ x ∈ es.toList, MapKept.IsKey (.int .i64) x.key ∧ x.key ≠ .int .i64 k := fun x hx => by
      obtain ⟨l, hl⟩ := F.keys x hx
      have hu : Tryd.prog.underlying 3 = some (.int .i64) := Tryd.underlying3
      rw [show keyOf Tryd.prog 3 x.key = mapKey Tryd.prog 3 x.key by simp [keyOf, hu]] at hl
      cases hk : x.key <;> rw [hk] at hl <;> simp [mapKey, hu] at hl
      obtain ⟨⟨h1, h2⟩, -⟩ := hl
      subst h1
      refine ⟨rfl, fun e => ?_⟩
      injection e with e1 e2
      subst e2
      rw [hw] at h2
      cases h2
    have hx : MapKept.IsKey (.int .i64) (.int .i64 k) := rfl
    rcases MapKept.findNow_spec hx es.toList 0 (fun x hx => (hks x hx).1) with ⟨h1, h2⟩ | ⟨j, e0, h1, h2, h3⟩
    · have f1 := MapKept.run_findKey (P := Tryd.prog) (w := w) Tryd.underlying3 h1
      have f2 : ∀ em, (Instr.checkKey em 10000 3 (.int .i64 k)).run Tryd.prog w = .ok () w := fun em => MapKept.run_checkKey (P := Tryd.prog) (w := w) Tryd.underlying3 hx em 9999
      have ht := Tryd.underlying50
      refine ⟨noV, ?_, (fun e => by cases e), fun _ => rfl⟩
      rw [Bool.false_and]
      simp [Instr.lookup, run_underlying ht, MapKept.run_getObj_map hb, f1, f2, zero13 w, Result.andThen]
    · exact absurd h3 (hks e0 (List.mem_of_getElem? h2)).2

/-! the five shapes -/
def D5 (v2 v3 v4 v5 : Value) : DataW Value := (((((DataW.map []).put (.int .i64 1) (.held sealV)).put (.int .i64 2) (.held v2)).put (.int .i64 3) (.held v3)).put (.int .i64 4) (.held v4)).put (.int .i64 5) (.held v5)
theorem kl13 (k : Int) : WideAt.IsKeyLit (.int .i64 k) := trivial
theorem ne13 {a b : Int} (h : a ≠ b) : Lit.int .i64 a ≠ .int .i64 b := fun e => h (by injection e)
section
variable (v2 v3 v4 v5 : Value)
theorem D5_at1 (z : DataW Value) : (D5 v2 v3 v4 v5).atKey (.int .i64 1) z = .held sealV := by
  unfold D5
  rw [atKey_put_other (ne13 (by decide)), atKey_put_other (ne13 (by decide)), atKey_put_other (ne13 (by decide)), atKey_put_other (ne13 (by decide)), atKey_put_same isMap_empty (kl13 _)]
theorem D5_at2 (z : DataW Value) : (D5 v2 v3 v4 v5).atKey (.int .i64 2) z = .held v2 := by
  unfold D5
  rw [atKey_put_other (ne13 (by decide)), atKey_put_other (ne13 (by decide)), atKey_put_other (ne13 (by decide)), atKey_put_same (isMap_empty.put _ _) (kl13 _)]
theorem D5_at3 (z : DataW Value) : (D5 v2 v3 v4 v5).atKey (.int .i64 3) z = .held v3 := by
  unfold D5
  rw [atKey_put_other (ne13 (by decide)), atKey_put_other (ne13 (by decide)), atKey_put_same ((isMap_empty.put _ _).put _ _) (kl13 _)]
theorem D5_at4 (z : DataW Value) : (D5 v2 v3 v4 v5).atKey (.int .i64 4) z = .held v4 := by
  unfold D5
  rw [atKey_put_other (ne13 (by decide)), atKey_put_same (((isMap_empty.put _ _).put _ _).put _ _) (kl13 _)]
theorem D5_at5 (z : DataW Value) : (D5 v2 v3 v4 v5).atKey (.int .i64 5) z = .held v5 := by
  unfold D5
  rw [atKey_put_same ((((isMap_empty.put _ _).put _ _).put _ _).put _ _) (kl13 _)]
theorem D5_has (k : Int) : Maps.has (D5 v2 v3 v4 v5) (.int .i64 k) = decide (1 ≤ k ∧ k ≤ 5) := by
  unfold D5
  by_cases h5 : k = 5
  · subst h5; rw [has_put_same ((((isMap_empty.put _ _).put _ _).put _ _).put _ _) (kl13 _)]; rfl
  rw [has_put_other (ne13 h5)]
  by_cases h4 : k = 4
  · subst h4; rw [has_put_same (((isMap_empty.put _ _).put _ _).put _ _) (kl13 _)]; rfl
  rw [has_put_other (ne13 h4)]
  by_cases h3 : k = 3
  · subst h3; rw [has_put_same ((isMap_empty.put _ _).put _ _) (kl13 _)]; rfl
  rw [has_put_other (ne13 h3)]
  by_cases h2 : k = 2
  · subst h2; rw [has_put_same (isMap_empty.put _ _) (kl13 _)]; rfl
  rw [has_put_other (ne13 h2)]
  by_cases h1 : k = 1
  · subst h1; rw [has_put_same isMap_empty (kl13 _)]; rfl
  rw [has_put_other (ne13 h1)]
  symm
  rw [show Maps.has (DataW.map [] : DataW Value) (.int .i64 k) = false from rfl, decide_eq_false_iff_not]
  omega
end

/-- block b is the map of all shapes -/
def Shp (w : World) (b : Nat) : Prop := ∃ m2 n2 c2 m3 n3 c3 m4 n4 c4 m5 n5 c5, w.ownsMap Tryd.prog 3 anyElem b 5 (D5 (chgV m2 n2 c2) (chgV m3 n3 c3) (chgV m4 n4 c4) (chgV m5 n5 c5)) ∧
  Cap13 w m2 n2 c2 false ∧ Cap13 w m3 n3 c3 false ∧ Cap13 w m4 n4 c4 true ∧ Cap13 w m5 n5 c5 false
theorem ownsMap_below13 {w w' : World} {b n : Nat} {D : DataW Value} (h : w.ownsMap Tryd.prog 3 anyElem b n D) (k : Below w.heap.size w w') : w'.ownsMap Tryd.prog 3 anyElem b n D := by
  have hl := h.lt
  obtain ⟨es, clock, hb, r⟩ := h
  exact ⟨es, clock, (k.block b hl).trans hb, r⟩
theorem Shp.below {w w' : World} {b : Nat} (h : Shp w b) (k : Below w.heap.size w w') : Shp w' b := by
  obtain ⟨m2, n2, c2, m3, n3, c3, m4, n4, c4, m5, n5, c5, h0, h2, h3, h4, h5⟩ := h
  exact ⟨m2, n2, c2, m3, n3, c3, m4, n4, c4, m5, n5, c5, ownsMap_below13 h0 k, h2.below k, h3.below k, h4.below k, h5.below k⟩
theorem wf13 {k : Int} (h : (Lit.int .i64 k).wf = false) : ¬ (1 ≤ k ∧ k ≤ 5) := fun e => by rw [WalkArith.wf_i64 (by omega)] at h; cases h
/-- what is found in it -/
theorem Shp.look {w : World} {b : Nat} (h : Shp w b) (k : Int) :
    ∃ v, (Instr.lookup 50 (.map (some b)) (.int .i64 k) true).run Tryd.prog w = .ok (.tuple #[v, .bool (decide (1 ≤ k ∧ k ≤ 5))]) w ∧
      (k = 1 → v = sealV) ∧ (2 ≤ k ∧ k ≤ 5 → ∃ gm gn gc, v = chgV gm gn gc ∧ Cap13 w gm gn gc (decide (k = 4))) ∧ (¬ (1 ≤ k ∧ k ≤ 5) → v = noV) := by
  obtain ⟨m2, n2, c2, m3, n3, c3, m4, n4, c4, m5, n5, c5, h0, h2, h3, h4, h5⟩ := h
  obtain ⟨v, r1, r2, r3⟩ := look13 h0 k
  rw [D5_has] at r1
  cases hw : (Lit.int .i64 k).wf with
  | false =>
    have hk := wf13 hw
    rw [hw, Bool.false_and] at r1
    refine ⟨v, by rw [r1, decide_eq_false hk], fun e => by omega, fun e => by omega, fun _ => r3 hw⟩
  | true =>
    rw [hw, Bool.true_and] at r1
    have r2 := r2 hw
    refine ⟨v, r1, fun e => ?_, fun e => ?_, fun e => ?_⟩
    · subst e
      rw [D5_at1] at r2
      injection r2
    · have hk : k = 2 ∨ k = 3 ∨ k = 4 ∨ k = 5 := by omega
      rcases hk with rfl | rfl | rfl | rfl
      · rw [D5_at2] at r2; injection r2 with r2; exact ⟨_, _, _, r2, h2⟩
      · rw [D5_at3] at r2; injection r2 with r2; exact ⟨_, _, _, r2, h3⟩
      · rw [D5_at4] at r2; injection r2 with r2; exact ⟨_, _, _, r2, h4⟩
      · rw [D5_at5] at r2; injection r2 with r2; exact ⟨_, _, _, r2, h5⟩
    · have hh : Maps.has (D5 (chgV m2 n2 c2) (chgV m3 n3 c3) (chgV m4 n4 c4) (chgV m5 n5 c5)) (.int .i64 k) = false := by rw [D5_has]; exact decide_eq_false e
      rw [atKey_of_not_has hh] at r2
      injection r2

theorem below_of_grown13 {w a b : World} {g : Nat} (h : Below w.heap.size w a) (k : a.grownBy b (some g)) (hg : w.heap.size ≤ g) : Below w.heap.size w b :=
  h.grown k h.size (fun j hj => by cases hj; exact hg)
theorem cap_grown13 {w w' : World} {b n gm gn gc : Nat} {c : Bool} {D : DataW Value} (h : Cap13 w gm gn gc c) (k : w.grownBy w' (some b)) (hm : w.ownsMap Tryd.prog 3 anyElem b n D) : Cap13 w' gm gn gc c := by
  obtain ⟨es, clock, hb, -⟩ := hm
  have hne : ∀ {g : Nat} {cs : Array Value} {t : TypeId}, Blk w g cs t → Blk w' g cs t := fun {g cs t} hg => by
    have hg' := hg
    unfold Blk at hg' ⊢
    rw [k.block g hg.lt (by intro e; cases e; rw [hb] at hg'; cases hg')]
    exact hg'
  exact ⟨hne h.1, hne h.2.1, hne h.2.2⟩

set_option maxHeartbeats 2000000 in
theorem shapes13_any (w : World) : Calls Tryd.prog 24 #[] w fun e w' => ∃ b, e = .returned (.map (some b)) ∧ Shp w' b ∧ Below w.heap.size w w' := by
  have hmm := @run_makeMap Tryd.prog
  have hB0 : Below w.heap.size w (w.alloc (.map #[] 0)) := (Below.refl _ _).alloc (Nat.le_refl _) _
  obtain ⟨w1, q1, o1, g1⟩ := map_put13 (World.ownsMap_made w Tryd.prog 3 anyElem) (by omega) 1 (by omega) sealV
  have HO1 := Lib.hid o1
  have HB1 := Lib.hid (below_of_grown13 hB0 g1 (Nat.le_refl _))
  have HC2 := Lib.hid (change13_any false w1)
  unfold sealV at q1
  clear o1 g1 hB0
  go_enter Tryd.func24, Tryd.ntmps24
  go_wp2_with fail
  refine HC2.out.mono ?_
  rintro e w2 ⟨m2, n2, c2, rfl, k2, b2⟩
  obtain ⟨w3, q3, o3, g3⟩ := map_put13 (ownsMap_below13 HO1.out b2) (by omega) 2 (by omega) (chgV m2 n2 c2)
  have HO3 := Lib.hid o3
  have HB3 := Lib.hid (below_of_grown13 (HB1.out.trans (b2.mono HB1.out.size)) g3 (Nat.le_refl _))
  have HK2 := Lib.hid (cap_grown13 k2 g3 (ownsMap_below13 HO1.out b2))
  have HC3 := Lib.hid (change13_any false w3)
  clear q1 k2 b2 o3 g3
  go_wp2_with fail
  refine HC3.out.mono ?_
  rintro e w4 ⟨m3, n3, c3, rfl, k3, b3⟩
  obtain ⟨w5, q5, o5, g5⟩ := map_put13 (ownsMap_below13 HO3.out b3) (by omega) 3 (by omega) (chgV m3 n3 c3)
  have HO5 := Lib.hid o5
  have HB5 := Lib.hid (below_of_grown13 (HB3.out.trans (b3.mono HB3.out.size)) g5 (Nat.le_refl _))
  have HK2b := Lib.hid (cap_grown13 (HK2.out.below b3) g5 (ownsMap_below13 HO3.out b3))
  have HK3 := Lib.hid (cap_grown13 k3 g5 (ownsMap_below13 HO3.out b3))
  have HC4 := Lib.hid (change13_any true w5)
  clear q3 k3 b3 o5 g5
  go_wp2_with fail
  refine HC4.out.mono ?_
  rintro e w6 ⟨m4, n4, c4, rfl, k4, b4⟩
  obtain ⟨w7, q7, o7, g7⟩ := map_put13 (ownsMap_below13 HO5.out b4) (by omega) 4 (by omega) (chgV m4 n4 c4)
  have HO7 := Lib.hid o7
  have HB7 := Lib.hid (below_of_grown13 (HB5.out.trans (b4.mono HB5.out.size)) g7 (Nat.le_refl _))
  have HK2c := Lib.hid (cap_grown13 (HK2b.out.below b4) g7 (ownsMap_below13 HO5.out b4))
  have HK3b := Lib.hid (cap_grown13 (HK3.out.below b4) g7 (ownsMap_below13 HO5.out b4))
  have HK4 := Lib.hid (cap_grown13 k4 g7 (ownsMap_below13 HO5.out b4))
  have HC5 := Lib.hid (change13_any false w7)
  clear q5 k4 b4 o7 g7
  go_wp2_with fail
  refine HC5.out.mono ?_
  rintro e w8 ⟨m5, n5, c5, rfl, k5, b5⟩
  obtain ⟨w9, q9, o9, g9⟩ := map_put13 (ownsMap_below13 HO7.out b5) (by omega) 5 (by omega) (chgV m5 n5 c5)
  have HSH := Lib.hid (show Shp w9 w.heap.size from ⟨m2, n2, c2, m3, n3, c3, m4, n4, c4, m5, n5, c5, o9, cap_grown13 (HK2c.out.below b5) g9 (ownsMap_below13 HO7.out b5), cap_grown13 (HK3b.out.below b5) g9 (ownsMap_below13 HO7.out b5), cap_grown13 (HK4.out.below b5) g9 (ownsMap_below13 HO7.out b5), cap_grown13 k5 g9 (ownsMap_below13 HO7.out b5)⟩)
  have HB9 := Lib.hid (below_of_grown13 (HB7.out.trans (b5.mono HB7.out.size)) g9 (Nat.le_refl _))
  clear q7 k5 b5 o9 g9
  go_wp2
  go_ret
  exact ⟨_, rfl, HSH.out, HB9.out⟩
end Go.Proofs.YtdfeccmcefcpbaaDoor
