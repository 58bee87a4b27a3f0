/-
  PoA: Layer 16, the developers' pool: how it lies in memory: a box with what a trace may cost, and a map from numbers to rows of spans; looking up, counting, laying in and striking out. Nothing is assumed.
  PoB: Layer 16, the developers' pool: New, Many, Get, Take, and the library's maps.Clone at the pool's map: what they answer, of any pool. Assumed: that the pool lies in memory; slices.Clone (its contract is taken in).
  PoC: Layer 16, the developers' pool: Ids: the keys of the map, in whatever order they come, sorted by the library. Assumed: that the pool lies in memory; slices.Sort (its contract is taken in).
  PoD: Layer 16, the developers' pool: slices.ContainsFunc with gather's question, slices.Concat of two rows of spans, trace.Sort once more (in memory of its own), rec.Cost: what they answer. Assumed: that the spans lie in memory.
  PoE: Layer 16, the developers' pool: slices.Grow of none and slices.Concat of two rows of spans: what they answer. Assumed: that the spans lie in memory.
  PoF: Layer 16, the developers' pool: trace.Sort once more (what it hands back lies in memory of its own), rec.Cost, slices.Sort at numbers: what they answer. The library's sorting is met by the shelf's contracts. Nothing is assumed but that the spans lie in memory.
  PoG: Layer 16, the developers' pool: gather: what it answers, of any map of rows and any span. Assumed: that the map lies in memory, and that what is gathered is as a pool's may be.
  PoH: Layer 16, the developers' pool: Add: all or none, of any pool and any spans; and so the contracts of package pool. Nothing is assumed.
-/
import Derived.Test.YthcchfhkeghkhaaPoK
import Derived.Carry
import Derived.BigRegion
import Derived.Shelf.SlMaps.Clone
import Derived.Lib.SliceRun
import Derived.Test.YthcchfhkeghkhaaTrA
import Derived.Test.YthcchfhkeghkhaaRpO
import Derived.WalkKit
import Derived.Lib.AppendZeros
import Derived.LoopN
import Derived.Test.YthcchfhkeghkhaaTrS
import Derived.Test.YthcchfhkeghkhaaTrP
import Derived.Test.YthcchfhkeghkhaaNuC
import Derived.Test.YthcchfhkeghkhaaMath16
import Derived.Shelf.SortM.Plain
import Derived.Shelf.SortM.SortNone
import Derived.Shelf.Abstract
import Derived.Deep.RegionWith

namespace Go.Proofs.Ythcchfhkeghkhaa
open Go.RowKit Go.Maps Po
set_option maxRecDepth 100000

/-- how an element of the map reads: as itself -/
def slElem (v : Value) : Option (DataW Value × List MemPlace) := match v with
  | .slice _ _ _ => some (.held v, [])
  | _ => none
def mkSl (c : Option Addr × Nat × Nat) : Value := .slice c.1 c.2.1 c.2.2
theorem slElem_mk (A : Option Addr) (n cap : Nat) : slElem (.slice A n cap) = some (.held (.slice A n cap), []) := rfl
theorem slElem_inv {v : Value} {z : DataW Value × List MemPlace} (h : slElem v = some z) : (∃ c, v = mkSl c) ∧ z = (.held v, []) := by
  cases v <;> simp [slElem] at h
  exact ⟨⟨(_, _, _), rfl⟩, h.symm⟩
theorem keyed16 : Keyed Try.prog 2 := int_keyed Try.underlying2
theorem key16 {i : Int} (h : -9223372036854775808 ≤ i ∧ i ≤ 9223372036854775807) : keyOf Try.prog 2 (.int .i64 i) = some (.int .i64 i) := keyOf_int_mk Try.underlying2 (WalkArith.wf_i64 h)
theorem zeroSl (w : World) : (zeroValue 29).run Try.prog w = .ok (.slice none 0 0) w := by kernel_rfl

/-- what the map holds: at each of these numbers that row -/
structure HeldG (D : DataW Value) (q : Int → Value) (I : List Int) : Prop where
  has : ∀ k, Maps.has D k = true ↔ ∃ i ∈ I, k = .int .i64 i
  at_ : ∀ i ∈ I, ∀ z, D.atKey (.int .i64 i) z = .held (q i)
  size : Maps.size D = I.length
theorem HeldG.get {D : DataW Value} {q : Int → Value} {I : List Int} (h : HeldG D q I) (i : Int) : Maps.has D (.int .i64 i) = decide (i ∈ I) := by
  rw [Bool.eq_iff_iff, h.has, decide_eq_true_eq]
  constructor
  · rintro ⟨j, hj, e⟩
    injection e with _ e
    rw [e]; exact hj
  · exact fun hi => ⟨i, hi, rfl⟩
theorem HeldG.nil (q : Int → Value) : HeldG (.map []) q [] := ⟨fun k => by simp [has_eq], by simp, rfl⟩
theorem HeldG.put {D : DataW Value} {q : Int → Value} {I : List Int} (h : HeldG D q I) (ht : Tidy D) (i : Int) (v : Value) : HeldG (D.put (.int .i64 i) (.held v)) (fun j => if j = i then v else q j) (insU i I) := by
  have hm : IsMap D := ht.isMap
  have hk : WideAt.IsKeyLit (.int .i64 i) := trivial
  refine ⟨fun k => ?_, fun j hj z => ?_, ?_⟩
  · by_cases e1 : k = .int .i64 i
    · subst e1
      rw [has_put_same hm hk]
      simp only [true_iff]
      exact ⟨i, (insU_mem _ _ _).2 (.inl rfl), rfl⟩
    · rw [has_put_other e1, h.has]
      constructor
      · rintro ⟨x, hx, rfl⟩
        exact ⟨x, (insU_mem _ _ _).2 (.inr hx), rfl⟩
      · rintro ⟨x, hx, rfl⟩
        rcases (insU_mem _ _ _).1 hx with rfl | hx
        · exact absurd rfl e1
        · exact ⟨x, hx, rfl⟩
  · by_cases e : j = i
    · subst e
      rw [atKey_put_same hm hk, if_pos rfl]
    · rw [atKey_put_other (fun e2 => e (by injection e2)), if_neg e]
      rcases (insU_mem _ _ _).1 hj with hx | hx
      · exact absurd hx e
      · exact h.at_ j hx z
  · rw [size_put ht, h.get, h.size, insU_len]
    split <;> simp_all
theorem filter_len16 {I : List Int} (hn : I.Nodup) (i : Int) : (I.filter fun j => decide (j ≠ i)).length = I.length - if i ∈ I then 1 else 0 := by
  induction I with
  | nil => simp
  | cons a l ih =>
    rw [List.nodup_cons] at hn
    rw [List.filter_cons]
    by_cases e : a = i
    · subst e
      rw [if_neg (by simp)]
      have : (l.filter fun j => decide (j ≠ a)) = l := List.filter_eq_self.2 fun j hj => decide_eq_true fun e => hn.1 (by rw [← e]; exact hj)
      rw [this]; simp
    · have hi := ih hn.2
      have e' : ¬ i = a := fun h => e h.symm
      rw [if_pos (decide_eq_true e), List.length_cons, hi]
      by_cases hm : i ∈ l
      · have : 0 < l.length := List.length_pos_of_mem hm
        simp [hm]; omega
      · simp [hm, e']
theorem up_nodup {I : List Int} (h : Up I) : I.Nodup := h.imp fun {a b} h e => by omega
theorem HeldG.del {D : DataW Value} {q : Int → Value} {I : List Int} (h : HeldG D q I) (hn : I.Nodup) (ht : Tidy D) (i : Int) : HeldG (D.del (.int .i64 i)) q (I.filter fun j => decide (j ≠ i)) := by
  refine ⟨fun k => ?_, fun j hj z => ?_, ?_⟩
  · by_cases e1 : k = .int .i64 i
    · subst e1
      rw [has_del_same]
      simp only [Bool.false_eq_true, false_iff]
      rintro ⟨x, hx, e2⟩
      injection e2 with _ e2
      exact of_decide_eq_true (List.mem_filter.1 hx).2 e2.symm
    · rw [has_del_other e1, h.has]
      constructor
      · rintro ⟨x, hx, rfl⟩
        exact ⟨x, List.mem_filter.2 ⟨hx, decide_eq_true fun e2 => e1 (by rw [e2])⟩, rfl⟩
      · rintro ⟨x, hx, rfl⟩
        exact ⟨x, (List.mem_filter.1 hx).1, rfl⟩
  · obtain ⟨h1, h2⟩ := List.mem_filter.1 hj
    rw [atKey_del_other (fun e2 => of_decide_eq_true h2 (by injection e2))]
    exact h.at_ j h1 z
  · have h2 := size_del (k := .int .i64 i) ht
    rw [h.get, h.size] at h2
    rw [filter_len16 hn]
    by_cases hm : i ∈ I <;> simp [hm] at h2 ⊢ <;> omega
theorem HeldG.more {D : DataW Value} {q q' : Int → Value} {I : List Int} (h : HeldG D q I) (e : ∀ i ∈ I, q' i = q i) : HeldG D q' I := ⟨h.has, fun i hi z => by rw [e i hi]; exact h.at_ i hi z, h.size⟩

/-- a map of rows at b, that reads as what is gathered; its rows lie off it, and off the blocks R -/
structure IsM (R : List Nat) (w : World) (b : Nat) (q : Int → Value) (G : List Plain.Sp) : Prop where
  map : ∃ D, w.ownsMap Try.prog 2 slElem b (ids G).length D ∧ HeldG D q (ids G)
  row : ∀ i ∈ ids G, ∃ A cap, q i = .slice A (Po.part G i).length cap ∧ (Po.part G i).length ≤ cap ∧ cap ≤ maxLen ∧ Lies w A (flat (Po.part G i)) ∧ Off (b :: R) A (flat (Po.part G i))
theorem IsM.lt {R : List Nat} {w : World} {b : Nat} {q : Int → Value} {G : List Plain.Sp} (h : IsM R w b q G) : b < w.heap.size := by
  obtain ⟨D, hD, -⟩ := h.map
  exact hD.lt
theorem IsM.keep {R S : List Nat} {w w' : World} {b : Nat} {q : Int → Value} {G : List Plain.Sp} (h : IsM R w b q G) (k : Kept S w w') (hS : ∀ s ∈ S, s ∈ R ∨ w.heap.size ≤ s) (hb : b ∉ R) : IsM R w' b q G := by
  have hbS : b ∉ S := fun hs => (hS b hs).elim hb fun h5 => by have := h.lt; omega
  refine ⟨?_, fun i hi => ?_⟩
  · obtain ⟨D, hD, hH⟩ := h.map
    exact ⟨D, ownsMap_block hD (k.block b hD.lt hbS), hH⟩
  · obtain ⟨A, cap, h1, h2, h3, h4, h5⟩ := h.row i hi
    exact ⟨A, cap, h1, h2, h3, h4.kept (off_own16 h4 h5 fun s hs => (hS s hs).imp (List.mem_cons_of_mem _) id) k, h5⟩
theorem IsM.below {R : List Nat} {w w' : World} {b : Nat} {q : Int → Value} {G : List Plain.Sp} (h : IsM R w b q G) (k : Below w.heap.size w w') : IsM R w' b q G := by
  refine ⟨?_, fun i hi => ?_⟩
  · obtain ⟨D, hD, hH⟩ := h.map
    exact ⟨D, ownsMap_block hD (k.block b hD.lt), hH⟩
  · obtain ⟨A, cap, h1, h2, h3, h4, h5⟩ := h.row i hi
    exact ⟨A, cap, h1, h2, h3, h4.below k, h5⟩
theorem IsM.more {R S : List Nat} {w : World} {b : Nat} {q : Int → Value} {G : List Plain.Sp} (h : IsM R w b q G) (hS : ∀ s ∈ S, s ∈ R ∨ w.heap.size ≤ s) : IsM S w b q G := by
  refine ⟨h.map, fun i hi => ?_⟩
  obtain ⟨A, cap, h1, h2, h3, h4, h5⟩ := h.row i hi
  refine ⟨A, cap, h1, h2, h3, h4, off_own16 h4 h5 fun s hs => ?_⟩
  rcases List.mem_cons.1 hs with rfl | hs
  · exact .inl (List.mem_cons_self ..)
  · exact (hS s hs).imp (List.mem_cons_of_mem _) id
/-- a copy of the map, in a new block -/
theorem IsM.copy {R : List Nat} {w w' : World} {b c : Nat} {q : Int → Value} {G : List Plain.Sp} (h : IsM R w b q G) (k : Below w.heap.size w w') (hc : w.heap.size ≤ c) (hm : ∀ D, w.ownsMap Try.prog 2 slElem b (ids G).length D → w'.ownsMap Try.prog 2 slElem c (ids G).length D) : IsM (b :: R) w' c q G := by
  refine ⟨?_, fun i hi => ?_⟩
  · obtain ⟨D, hD, hH⟩ := h.map
    exact ⟨D, hm D hD, hH⟩
  · obtain ⟨A, cap, h1, h2, h3, h4, h5⟩ := h.row i hi
    exact ⟨A, cap, h1, h2, h3, h4.below k, off_own16 h4 h5 fun s hs => by
      rcases List.mem_cons.1 hs with rfl | hs
      · exact .inr hc
      · exact .inl hs⟩

section
variable {R : List Nat} {w : World} {b : Nat} {q : Int → Value} {G : List Plain.Sp}
theorem i64_wf16 {n : Int} (h : (Lit.int .i64 n).wf = true) : -9223372036854775808 ≤ n ∧ n ≤ 9223372036854775807 := by
  simp [Lit.wf, IntKind.min, IntKind.max, IntKind.signed, IntKind.bits] at h
  omega
theorem ids_i64 (hG : ∀ x ∈ G, x.right = true) {i : Int} (hi : i ∈ ids G) : -9223372036854775808 ≤ i ∧ i ≤ 9223372036854775807 := by
  obtain ⟨x, hx, rfl⟩ := (ids_mem G i).1 hi
  have := (Plain.Sp.right_iff x).1 (hG x hx)
  omega
/-- a number out of its kind is found nowhere -/
theorem find_wild {es : Array MapEntry} {clock : Nat} (F : WideElems.Fit Try.prog 2 slElem es clock) {i : Int} (hi : ¬ (-9223372036854775808 ≤ i ∧ i ≤ 9223372036854775807)) (w : World) :
    (Instr.findKey 2 (.int .i64 i) es.toList).run Try.prog w = .ok none w ∧ ∀ em, (Instr.checkKey em 10000 2 (.int .i64 i)).run Try.prog w = .ok () w := by
  have hK : MapKept.IsKey (.int .i64) (.int .i64 i) := rfl
  refine ⟨?_, fun em => MapKept.run_checkKey Try.underlying2 hK em 9999⟩
  have hks : ∀ y ∈ es.toList, MapKept.IsKey (.int .i64) y.key := fun y hy => by
    obtain ⟨l, hl⟩ := F.keys y hy
    obtain ⟨x, hx, -, -⟩ := Maps.keyOf_int_inv Try.underlying2 hl
    rw [hx]; rfl
  rcases MapKept.findNow_spec hK es.toList 0 hks with ⟨h1, h2⟩ | ⟨j, e0, h1, h2, h3⟩
  · exact MapKept.run_findKey Try.underlying2 h1
  · obtain ⟨l, hl⟩ := F.keys e0 (List.mem_of_getElem? h2)
    obtain ⟨x, hx, -, hw⟩ := Maps.keyOf_int_inv Try.underlying2 hl
    rw [hx] at h3
    injection h3 with _ h3
    subst h3
    exact absurd (i64_wf16 hw) hi
theorem IsM.look (h : IsM R w b q G) (hG : ∀ x ∈ G, x.right = true) (i : Int) : (Instr.lookup 53 (.map (some b)) (.int .i64 i) true).run Try.prog w = .ok (.tuple #[if i ∈ ids G then q i else .slice none 0 0, .bool (decide (i ∈ ids G))]) w := by
  obtain ⟨D, hD, hH⟩ := h.map
  by_cases hi : -9223372036854775808 ≤ i ∧ i ≤ 9223372036854775807
  · obtain ⟨v, ps, hr, hv⟩ := hD.look_ok keyed16 Try.underlying53 (zeroSl w) (slElem_mk none 0 0) (key16 hi)
    rw [hr, hH.get]
    obtain ⟨-, e⟩ := slElem_inv hv
    injection e with e _
    by_cases hm : i ∈ ids G
    · rw [hH.at_ i hm] at e
      injection e with e
      rw [if_pos hm, e]
    · have hh : Maps.has D (.int .i64 i) = false := by rw [hH.get]; exact decide_eq_false hm
      rw [atKey_of_not_has hh] at e
      injection e with e
      rw [if_neg hm, e]
  · have hm : i ∉ ids G := fun hm => hi (ids_i64 hG hm)
    obtain ⟨es, clock, hb, F, -, -⟩ := hD
    obtain ⟨h1, h2⟩ := find_wild F hi w
    rw [if_neg hm, decide_eq_false hm]
    simp [Instr.lookup, run_underlying Try.underlying53, MapKept.run_getObj_map hb, h2, h1, Result.andThen]
theorem IsM.len (h : IsM R w b q G) (ty : TypeId) : (Builtin.len_ #[53] ty #[.map (some b)]).run Try.prog w = .ok (.int .i64 ((ids G).length : Int)) w := by
  obtain ⟨D, hD, hH⟩ := h.map
  rw [hD.len Try.underlying53, hH.size]
theorem kept_turned {w w' : World} {b : Nat} (h2 : w.mapTurned w' b) : Kept [b] w w' ∧ w'.heap.size = w.heap.size := by
  have hg := h2.grown
  refine ⟨⟨hg.os, hg.tape, hg.output, hg.size, fun k hk hn => hg.block k hk (fun e => hn (by injection e with e; rw [e]; simp))⟩, ?_⟩
  obtain ⟨es, c, es', c', -, rfl⟩ := h2
  exact Array.size_setIfInBounds ..
theorem IsM.del (h : IsM R w b q G) (hG : ∀ x ∈ G, x.right = true) (i : Int) (ty : TypeId) : ∃ w', (Builtin.delete_ #[53, 2] ty #[.map (some b), .int .i64 i]).run Try.prog w = .ok (.tuple #[]) w' ∧ IsM R w' b q (drop G i) ∧ Kept [b] w w' := by
  have key : ∀ w' D, Kept [b] w w' → w'.ownsMap Try.prog 2 slElem b (ids G).length D → HeldG D q (ids (drop G i)) → IsM R w' b q (drop G i) := fun w' D hk hD hH => by
    refine ⟨⟨D, ownsMap_trim hD (by rw [hH.size]; exact Nat.le_refl _), hH⟩, fun j hj => ?_⟩
    rw [ids_drop, List.mem_filter, decide_eq_true_eq] at hj
    obtain ⟨A, cap, h1, h2, h3, h4, h5⟩ := h.row j hj.1
    rw [part_drop, if_neg hj.2]
    exact ⟨A, cap, h1, h2, h3, h4.kept (h5.mono fun k hk => by rw [List.mem_singleton.1 hk]; exact List.mem_cons_self ..) hk, h5⟩
  obtain ⟨D, hD, hH⟩ := h.map
  by_cases hi : -9223372036854775808 ≤ i ∧ i ≤ 9223372036854775807
  · obtain ⟨w', hr, h1, h2⟩ := hD.drop keyed16 Try.underlying53 (key16 hi) ty
    obtain ⟨hk, -⟩ := kept_turned h2
    refine ⟨w', hr, key w' _ hk h1 ?_, hk⟩
    rw [ids_drop]
    exact hH.del (up_nodup (ids_up G)) (hD.tidy keyed16) i
  · have hm : i ∉ ids G := fun hm => hi (ids_i64 hG hm)
    have hD' := hD
    obtain ⟨es, clock, hb, F, hs, hd⟩ := hD
    obtain ⟨h1, h2⟩ := find_wild F hi w
    have hT : w.mapTurned (ChangeMaps.setBlock w b (.map es clock)) b := ⟨es, clock, es, clock, hb, rfl⟩
    obtain ⟨hk, -⟩ := kept_turned hT
    refine ⟨_, ?_, key _ D hk ⟨es, clock, ChangeMaps.heap_setBlock_same hb _, F, hs, hd⟩ ?_, hk⟩
    · simp [Builtin.delete_, run_underlying Try.underlying53, MapKept.run_getObj_map hb, h2, h1, MapKept.run_setObj_map _ hb, Result.andThen, ChangeMaps.setBlock]
    · rw [drop_none hm]; exact hH
/-- a trace's row is laid in -/
theorem IsM.put (h : IsM R w b q G) {s : Plain.Sp} (hs : s.right = true) (hm : (ids G).length < 1000) {A : Option Addr} {cap : Nat} (h1 : (Po.part (G ++ [s]) s.t).length ≤ cap) (h2 : cap ≤ maxLen) (h3 : Lies w A (flat (Po.part (G ++ [s]) s.t))) (h4 : Off (b :: R) A (flat (Po.part (G ++ [s]) s.t))) :
    ∃ w' q', (Instr.mapUpdate 53 (.map (some b)) (.int .i64 s.t) (.slice A (Po.part (G ++ [s]) s.t).length cap)).run Try.prog w = .ok () w' ∧ IsM R w' b q' (G ++ [s]) ∧ Kept [b] w w' := by
  obtain ⟨D, hD, hH⟩ := h.map
  have hi : -9223372036854775808 ≤ s.t ∧ s.t ≤ 9223372036854775807 := by
    have := (Plain.Sp.right_iff s).1 hs
    omega
  obtain ⟨w', hr, k1, k2⟩ := hD.store keyed16 Try.underlying53 (by unfold maxLen; omega) (key16 hi) (slElem_mk A (Po.part (G ++ [s]) s.t).length cap)
  obtain ⟨hk, -⟩ := kept_turned k2
  have hP := hH.put (hD.tidy keyed16) s.t (.slice A (Po.part (G ++ [s]) s.t).length cap)
  rw [← ids_snoc] at hP
  have hb : ∀ k ∈ [b], k ∈ b :: R := fun k hk => by rw [List.mem_singleton.1 hk]; exact List.mem_cons_self ..
  refine ⟨w', _, hr, ⟨⟨_, ownsMap_trim k1 (by rw [hP.size]; exact Nat.le_refl _), hP⟩, fun j hj => ?_⟩, hk⟩
  by_cases e : j = s.t
  · subst e
    rw [if_pos rfl]
    exact ⟨A, cap, rfl, h1, h2, h3.kept (h4.mono hb) hk, h4⟩
  · rw [if_neg e]
    rw [ids_snoc] at hj
    obtain ⟨A', cap', l1, l2, l3, l4, l5⟩ := h.row j (((insU_mem _ _ _).1 hj).resolve_left e)
    rw [part_other fun h => e h.symm]
    exact ⟨A', cap', l1, l2, l3, l4.kept (l5.mono hb) hk, l5⟩
end

/-- the developers' pool at p, in the blocks O, off the blocks R -/
def IsPool (R : List Nat) (w : World) (p : Nat) (O : List Nat) (most : Int) (G : List Plain.Sp) : Prop :=
  ∃ b q, O = [p, b] ∧ Ok most G ∧ Blk w p #[.int .i64 most, .map (some b)] 55 ∧ IsM (p :: R) w b q G ∧ p ∉ R ∧ b ∉ R ∧ p ≠ b
section
variable {R S O : List Nat} {w w' : World} {p : Nat} {most : Int} {G : List Plain.Sp}
theorem blk_map {w : World} {p b : Nat} {cs : Array Value} {t : TypeId} {R : List Nat} {q : Int → Value} {G : List Plain.Sp} (h : Blk w p cs t) (hm : IsM R w b q G) : p ≠ b := by
  obtain ⟨D, ⟨es, c, hb, -⟩, -⟩ := hm.map
  intro e
  unfold Blk at h
  rw [e, hb] at h
  cases h
theorem IsPool.keep (h : IsPool R w p O most G) (k : Kept S w w') (hS : ∀ s ∈ S, s ∈ R ∨ w.heap.size ≤ s) : IsPool R w' p O most G := by
  obtain ⟨b, q, rfl, h1, h2, h3, h4, h5, h6⟩ := h
  refine ⟨b, q, rfl, h1, k.blk h2 (fun hm => ?_), h3.keep k (fun s hs => (hS s hs).imp (List.mem_cons_of_mem _) id) (fun hm => ?_), h4, h5, h6⟩
  · rcases hS p hm with h | h
    · exact h4 h
    · have := h2.lt; omega
  · rcases List.mem_cons.1 hm with h | h
    · exact h6 h.symm
    · exact h5 h
theorem IsPool.more (h : IsPool R w p O most G) (hS : ∀ s ∈ S, s ∈ R ∨ w.heap.size ≤ s) : IsPool S w p O most G := by
  obtain ⟨b, q, rfl, h1, h2, h3, h4, h5, h6⟩ := h
  refine ⟨b, q, rfl, h1, h2, h3.more (fun s hs => ?_), fun hm => ?_, fun hm => ?_, h6⟩
  · rcases List.mem_cons.1 hs with rfl | hs
    · exact .inl (List.mem_cons_self ..)
    · exact (hS s hs).imp (List.mem_cons_of_mem _) id
  · rcases hS p hm with h | h
    · exact h4 h
    · have := h2.lt; omega
  · rcases hS b hm with h | h
    · exact h5 h
    · have := h3.lt; omega
theorem IsPool.okP (h : IsPool R w p O most G) : Ok most G := by
  obtain ⟨b, q, rfl, h1, -⟩ := h
  exact h1
theorem IsPool.ownP (h : IsPool R w p O most G) : ∀ g ∈ O, g < w.heap.size := by
  obtain ⟨b, q, rfl, h1, h2, h3, h4, h5, h6⟩ := h
  intro g hg
  simp only [List.mem_cons, List.not_mem_nil, or_false] at hg
  rcases hg with rfl | rfl
  · exact h2.lt
  · exact h3.lt
end
end Go.Proofs.Ythcchfhkeghkhaa

namespace Go.Proofs.Ythcchfhkeghkhaa
open Go.RowKit Go.Maps Po
set_option maxRecDepth 100000

theorem new16_any (R : List Nat) (most : Int) (w : World) (hR : ∀ s ∈ R, s < w.heap.size) :
    Calls Try.prog 10 #[.int .i64 most] w fun e w' => ∃ p O, e = .returned (.pointer (some ⟨p, 0, none⟩)) ∧ IsPool R w' p O most [] ∧ (∀ g ∈ O, w.heap.size ≤ g) ∧ Below w.heap.size w w' := by
  have hM := World.ownsMap_made w Try.prog 2 slElem
  have hI : IsPool R ((w.alloc (.map #[] 0)).alloc (.cells #[.int .i64 most, .map (some w.heap.size)] 55)) (w.heap.size + 1) [w.heap.size + 1, w.heap.size] most [] := by
    have hb := Blk.new (w.alloc (.map #[] 0)) #[.int .i64 most, .map (some w.heap.size)] 55
    rw [World.size_alloc] at hb
    refine ⟨w.heap.size, fun _ => .slice none 0 0, rfl, ok_nil _, hb, ⟨⟨_, hM.alloc _, HeldG.nil _⟩, fun i hi => by cases hi⟩, fun hm => ?_, fun hm => ?_, by omega⟩
    · have := hR _ hm; omega
    · have := hR _ hm; omega
  have HI := Lib.hid hI
  have HB := Lib.hid (show Below w.heap.size w ((w.alloc (.map #[] 0)).alloc (.cells #[.int .i64 most, .map (some w.heap.size)] 55)) from ((Below.refl _ _).alloc (Nat.le_refl _) _).alloc (by simp) _)
  have hmm := @run_makeMap Try.prog
  clear hI hM hR
  go_enter Try.func10, Try.ntmps10
  go_wp2
  go_ret
  refine ⟨_, _, rfl, HI.out, fun g hg => ?_, HB.out⟩
  simp only [List.mem_cons, List.not_mem_nil, or_false] at hg
  rcases hg with rfl | rfl <;> simp

section
variable {R O : List Nat} {w : World} {p : Nat} {most : Int} {G : List Plain.Sp}
theorem many16_any (h : IsPool R w p O most G) : Calls Try.prog 20 #[.pointer (some ⟨p, 0, none⟩)] w fun e w' => e = .returned (.int .i64 ((ids G).length : Int)) ∧ Below w.heap.size w w' := by
  obtain ⟨b, q, rfl, h1, h2, h3, -⟩ := h
  have c1 : w.cell? ⟨p, 1, none⟩ = some (.map (some b)) := h2.cell 1
  have hl := h3.len 3
  clear h2 h3 h1
  go_enter Try.func20, Try.ntmps20
  go_wp2
  go_ret
  exact ⟨rfl, Below.refl _ _⟩

theorem take16_any (h : IsPool R w p O most G) (i : Int) :
    Calls Try.prog 13 #[.pointer (some ⟨p, 0, none⟩), .int .i64 i] w fun e w' => e = .returned (.bool (decide (i ∈ ids G))) ∧ ∃ O', IsPool R w' p O' most (drop G i) ∧ Kept O w w' ∧ ∀ g ∈ O', g ∈ O ∨ w.heap.size ≤ g := by
  obtain ⟨b, q, rfl, h1, h2, h3, h4, h5, h6⟩ := h
  have c1 : w.cell? ⟨p, 1, none⟩ = some (.map (some b)) := h2.cell 1
  have hL := h3.look h1.right i
  obtain ⟨w', hD, hI, hK⟩ := h3.del h1.right i 0
  have HP := Lib.hid (show IsPool R w' p [p, b] most (drop G i) from ⟨b, q, rfl, ok_drop h1 i, hK.blk h2 (by simpa using h6), hI, h4, h5, h6⟩)
  have HK := Lib.hid (show Kept [p, b] w w' from hK.mono (by simp))
  clear h2 h3 hI hK h1 h4 h5 h6
  generalize (if i ∈ ids G then q i else Value.slice none 0 0) = V at *
  generalize decide (i ∈ ids G) = B at *
  generalize drop G i = G' at *
  go_enter Try.func13, Try.ntmps13
  go_wp2
  go_ret
  exact ⟨rfl, _, HP.out, HK.out, fun g hg => .inl hg⟩

/-- slices.Clone of no row -/
theorem cloneS_nil (w : World) : Calls Try.prog 31 #[.slice none 0 0] w fun e w' => e = .returned (.slice none 0 0) ∧ w' = w := by
  have q22 : ∀ (w : World) (a : Option Addr) (n c n' c' : Nat), (binOp .eql 29 (.slice a n c) (.slice none n' c')).run Try.prog w = .ok (.bool a.isNone) w := fun w a n c n' c' => Lib.run_eql_slice_nil w _ _ a n c n' c' Try.underlying29
  go_enter Try.func31, Try.ntmps31
  go_wp2
  go_ret
  exact ⟨rfl, rfl⟩

theorem get16_any (hC : ∀ (A : Option Addr) (n cap : Nat) (l : List Plain.Sp) (w : World), l.length = n → 1 ≤ n → n ≤ 1000000 → Lies w A (flat l) →
      Calls Try.prog 31 #[.slice A n cap] w fun e w' => ∃ v, e = .returned v ∧ w'.ownsRow w.heap.size 45 7 v n (flat l) ∧ Below w.heap.size w w')
    (h : IsPool R w p O most G) (i : Int) :
    Calls Try.prog 15 #[.pointer (some ⟨p, 0, none⟩), .int .i64 i] w fun e w' => ∃ v, e = .returned (.tuple #[v, .bool (decide (i ∈ ids G))]) ∧ w'.ownsRow w.heap.size 45 7 v (Po.part G i).length (flat (Po.part G i)) ∧ Below w.heap.size w w' := by
  obtain ⟨b, q, rfl, h1, h2, h3, h4, h5, h6⟩ := h
  have c1 : w.cell? ⟨p, 1, none⟩ = some (.map (some b)) := h2.cell 1
  have hL := h3.look h1.right i
  by_cases hm : i ∈ ids G
  · obtain ⟨A, cap, e, l1, l2, l3, -⟩ := h3.row i hm
    rw [if_pos hm, decide_eq_true hm, e] at hL
    rw [decide_eq_true hm]
    have h0 : 1 ≤ (Po.part G i).length := by
      have := part_nil (G := G) (i := i)
      rcases Nat.eq_zero_or_pos (Po.part G i).length with h | h
      · exact absurd hm (this.1 (List.eq_nil_of_length_eq_zero h))
      · exact h
    have h64 : (Po.part G i).length ≤ 64 := by rw [part_len]; exact h1.few i
    have HC := Lib.hid (hC A _ cap _ w rfl h0 (by omega) l3)
    generalize (Po.part G i).length = n at *
    clear h2 h3 h1 h4 h5 h6 hC e l1 l2 l3 h0 h64
    go_enter Try.func15, Try.ntmps15
    go_wp2_with fail
    refine HC.out.mono ?_
    rintro e w1 ⟨v, rfl, ho, hb⟩
    have HO := Lib.hid ho
    have HB := Lib.hid hb
    clear ho hb HC
    go_wp2
    go_returns
    exact ⟨v, rfl, HO.out, HB.out⟩
  · rw [if_neg hm, decide_eq_false hm] at hL
    rw [decide_eq_false hm, part_nil.2 hm]
    have HC := Lib.hid (cloneS_nil w)
    clear h2 h3 h1 h4 h5 h6 hC
    go_enter Try.func15, Try.ntmps15
    go_wp2_with fail
    refine HC.out.mono ?_
    rintro e w1 ⟨rfl, rfl⟩
    go_wp2
    go_returns
    exact ⟨_, rfl, World.ownsRow_nil _ _ _ _, Below.refl _ _⟩
end

set_option maxHeartbeats 4000000 in
/-- maps.Clone at the pool's map: the same entries in a new block -/
theorem mclone_any (b : Nat) (es : Array MapEntry) (clock : Nat) (w : World) (hb : w.heap[b]? = some (.map es clock)) :
    Calls Try.prog 32 #[.map (some b)] w fun e w' => e = .returned (.map (some w.heap.size)) ∧ w' = w.alloc (.map es clock) := by
  have hq := fun w => run_eql_map_nil_sl (P := Try.prog) w 53 _ _ (some b) Try.underlying53
  go_enter Try.func32, Try.ntmps32
  go_wp2
  rw [run_callFunc_extern Try.func39 (by kernel_rfl) (by kernel_rfl) (by kernel_rfl) (e := Extern.MapsClone.clone) (by kernel_rfl), run_maps_clone_sl w _ hb]
  simp only [Result.andThen]
  rw [Oper.upon_value]
  go_wp2
  rw [run_typeAssert_map_sl _ _ _ _ _ _ Try.underlying53]
  simp only [Result.andThen]
  rw [Oper.upon_value]
  go_wp2
  go_ret
  exact ⟨rfl, rfl⟩
end Go.Proofs.Ythcchfhkeghkhaa

namespace Go.Proofs.Ythcchfhkeghkhaa
open Go.RowKit Go.Maps Po
set_option maxRecDepth 100000

/-- those that have come -/
def come16 (left : Lit → Bool) (I : List Int) : List Int := I.filter fun i => !left (.int .i64 i)
theorem come16_step {I : List Int} (hn : I.Nodup) {left : Lit → Bool} {i0 : Int} (h0 : i0 ∈ I) (hl : left (.int .i64 i0) = true) : (come16 (fun z => left z && !z.sameKey (.int .i64 i0)) I).Perm (come16 left I ++ [i0]) := by
  unfold come16
  rw [List.perm_ext_iff_of_nodup (hn.sublist List.filter_sublist)]
  · intro i
    rw [List.mem_append, List.mem_filter, List.mem_filter, List.mem_singleton]
    by_cases he : i = i0
    · subst he
      have hk : (Lit.int .i64 i).sameKey (.int .i64 i) = true := WideAt.sameKey_self trivial
      simp [hk, h0]
    · have hk : (Lit.int .i64 i).sameKey (.int .i64 i0) = false := sameKey_ne (by intro h; injection h with _ h; exact he h)
      simp only [hk, Bool.not_false, Bool.and_true]
      constructor
      · exact fun h => .inl h
      · rintro (h | rfl)
        · exact h
        · exact absurd rfl he
  · rw [List.nodup_append]
    refine ⟨hn.sublist List.filter_sublist, by simp, fun a ha b hb e => ?_⟩
    rw [List.mem_singleton.1 hb] at e
    subst e
    rw [List.mem_filter, hl] at ha
    simp at ha
theorem come16_start {I : List Int} {left : Lit → Bool} (h : ∀ i ∈ I, left (.int .i64 i) = true) : come16 left I = [] := by
  unfold come16
  rw [List.filter_eq_nil_iff]
  intro i hi
  rw [h i hi]; simp
theorem come16_end {I : List Int} {left : Lit → Bool} (h : ∀ k, left k = false) : come16 left I = I := by
  unfold come16
  rw [List.filter_eq_self]
  intro i hi
  rw [h]; rfl
/-- numbers that rise are what is sorted of them, however they lay -/
theorem up_sorted {I L M : List Int} (h : Up I) (hL : L.Perm I) (hM : M.Perm L) (hs : M.Pairwise (fun a b => a ≤ b)) : M = I := by
  have hp := hM.trans hL
  refine up_uniq ?_ h fun x => hp.mem_iff
  have hn : M.Nodup := hp.nodup_iff.2 (up_nodup h)
  unfold Up
  exact (hs.and hn).imp fun {a b} h => by have := h.1; have := h.2; omega

section
variable {R O : List Nat} {w : World} {p : Nat} {most : Int} {G : List Plain.Sp}
set_option maxHeartbeats 8000000 in
theorem ids16_any (hs : ∀ (W : World) (g cap : Nat) (L : List Int), g < W.heap.size → L.length ≤ 1000 → (∀ j (h : j < L.length), W.cell? ⟨g, j, none⟩ = some (.int .i64 L[j]) ∧ W.frozen? ⟨g, j, none⟩ = false) →
      Calls Try.prog 35 #[.slice (some ⟨g, 0, none⟩) L.length cap] W fun e w' => e = .returned (.tuple #[]) ∧ ∃ M : List Int, M.Perm L ∧ M.Pairwise (fun a b => a ≤ b) ∧ Lies w' (some ⟨g, 0, none⟩) (nums M) ∧ W.grownBy w' (some g))
    (hz : ∀ (W : World) (cap : Nat), Calls Try.prog 35 #[.slice none 0 cap] W fun e w' => e = .returned (.tuple #[]) ∧ w' = W)
    (h : IsPool R w p O most G) :
    Calls Try.prog 23 #[.pointer (some ⟨p, 0, none⟩)] w fun e w' => ∃ A cap, e = .returned (.slice A (ids G).length cap) ∧ (ids G).length ≤ cap ∧ cap ≤ maxLen ∧ Lies w' A (nums (ids G)) ∧ (∀ ad, A = some ad → w.heap.size ≤ ad.block) ∧ Below w.heap.size w w' := by
  obtain ⟨i0, hi, hz0, hz1, hz2⟩ := info_parts infoL
  obtain ⟨b, q, rfl, h1, h2, h3, h4, h5, h6⟩ := h
  have c1 : w.cell? ⟨p, 1, none⟩ = some (.map (some b)) := h2.cell 1
  have HBL := Lib.hid h3.lt
  obtain ⟨D, hmp, hH⟩ := h3.map
  have HH := Lib.hid hH
  have HSO := Lib.hid hs
  have HZ := Lib.hid hz
  have hfew := h1.many
  have hup := ids_up G
  have HUP := Lib.hid hup
  generalize ids G = I at *
  clear h1 h2 h3 h4 h5 h6 hs hz hH hup
  go_enter Try.func23, Try.ntmps23
  go_wp2_with (first
    | (at_range; refine wpList_range_own _ rfl _ 53 rfl 2 29 keyed16 Try.underlying53 slElem b I.length D rfl hmp ?_; intro w0 hrg0 hg0 hs0)
    | go_in)
  go_frame
  have hB0 : Below w.heap.size w w0 := (Below.refl _ _).grown hg0 (Nat.le_refl _) (fun j e => by cases e)
  have HB0 := Lib.hid hB0
  go_loopw [3, 4] (fun s3 s4 wr => ∃ (left : Lit → Bool) (cnt : Nat) (L : List Int), wr.ranges Try.prog 2 slElem b w.heap.size I.length D left cnt ∧ wr.ownsRow w.heap.size 2 1 s3 L.length (nums L) ∧ L.Perm (come16 left I) ∧ Below w.heap.size w wr) (fun _ _ wr => wr.rangeLeft b w.heap.size)
  case atStart =>
    refine ⟨_, _, [], hrg0, World.ownsRow_nil _ _ _ _, ?_, hB0⟩
    rw [come16_start fun i hi => (HH.out.has _).2 ⟨i, hi, rfl⟩]
  case round =>
    obtain ⟨left, cnt, L, hrg, hrow, hperm, hBr⟩ := hrel
    have HRG := Lib.hid hrg
    have HROW := Lib.hid hrow
    have HP := Lib.hid hperm
    have HBR := Lib.hid hBr
    clear hrow hperm hBr
    go_wp2_with (first
      | (at_next; refine wpList_next_ranges _ rfl _ rfl 2 keyed16 slElem (Value.int .i64) mkSl (fun key kl hk => by obtain ⟨x, hx, _⟩ := Maps.keyOf_int_inv Try.underlying2 hk; exact ⟨x, hx⟩) (fun v y hv => (slElem_inv hv).1) b w.heap.size I.length _ _ _ rfl hrg ?_ ?_)
      | go_in)
    · intro hc0 hl0
      clear hrg
      have HL0 := Lib.hid hl0
      clear hl0
      have HPE := Lib.hid (show L.Perm I by
        have := HP.out
        rwa [come16_end HL0.out] at this)
      rcases HROW.out.2 with ⟨e0, h0⟩ | ⟨g, cap, cur, e0, hbg, hgh, hl1, hm1, hcs, htk⟩
      · have hL0 : L = [] := List.eq_nil_of_length_eq_zero h0
        have hI0 : I = [] := by have := HPE.out; rw [hL0] at this; exact this.symm.eq_nil
        have HS := Lib.hid (HZ.out wr 0)
        rw [e0]
        have HE0 := Lib.hid hI0
        clear hI0 hL0 h0 e0
        go_wp2_with fail
        refine HS.out.mono ?_
        rintro e w5 ⟨rfl, rfl⟩
        go_wp2
        go_ret
        rw [HE0.out]
        exact ⟨none, 0, rfl, Nat.le_refl _, by unfold maxLen; omega, .inl rfl, fun _ e => (by cases e), HBR.out⟩
      · have hg1 : g < wr.heap.size := (HROW.out.lt g (by rw [e0]; rfl)).2
        have HS := Lib.hid (HSO.out wr g cap L hg1 (by rw [HPE.out.length_eq]; omega) (fun j hj => by
          have hc := HROW.out.cells (g := g) (by rw [e0]; rfl) j (.int .i64 L[j]) (by simp [nums, hj])
          have e2 : (⟨g, 0, none⟩ : Addr).add j = ⟨g, j, none⟩ := by unfold Addr.add; split <;> simp_all
          rw [e2] at hc
          exact ⟨hc, by simp [World.frozen?, hgh]⟩))
        rw [e0]
        have HHG := Lib.hid (And.intro hbg (And.intro hl1 hm1))
        have hLI := HPE.out.length_eq
        have HLI := Lib.hid hLI
        obtain ⟨n, hn⟩ : ∃ n, L.length = n := ⟨_, rfl⟩
        rw [hn] at HS HHG HLI ⊢
        clear hgh hl1 hm1 hcs htk hLI hn e0 hbg
        go_wp2_with fail
        refine HS.out.mono ?_
        rintro e w5 ⟨rfl, M, hM, hsort, hlies, hg5⟩
        obtain rfl : M = I := up_sorted HUP.out HPE.out hM hsort
        obtain ⟨hbg, hl1, hm1⟩ := HHG.out
        have HB5 := Lib.hid (HBR.out.grown hg5 HBR.out.size (fun j e => by injection e with e; omega))
        have HL5 := Lib.hid hlies
        clear hM hsort hlies hg5 HS
        go_wp2
        go_ret
        rw [← HLI.out]
        exact ⟨_, cap, rfl, hl1, hm1, HL5.out, fun ad e => (by cases e; exact hbg), HB5.out⟩
    · intro xk cA cn cc kl yv ps w1 cnt1 hwx hlk hRv hat hrg1 hlt hg1 hs1 hen
      have hhas : Maps.has D kl = true := has_true_of_atKey hat
      obtain ⟨i1, hi1, rfl⟩ := (HH.out.has kl).1 hhas
      have hxk : xk = i1 := by
        obtain ⟨z, hz, hz2, -⟩ := Maps.keyOf_int_inv Try.underlying2 hwx
        injection hz with _ hz
        injection hz2 with _ hz2
        rw [hz, hz2]
      subst hxk
      have hB1 : Below w.heap.size w w1 := HBR.out.grown hg1 HBR.out.size (fun j e => by injection e with e; omega)
      have hne : u3.ownBlock ≠ some w.heap.size := by
        obtain ⟨es, clock, since, seen, c0, k1, k2, k3, k4, k5, -⟩ := HRG.out
        rcases HROW.out.2 with ⟨rfl, -⟩ | ⟨g, cap, cur, rfl, hbg, hgh, -⟩
        · simp [Value.ownBlock]
        · simp only [Value.ownBlock]
          intro e
          injection e with e
          rw [← e, hgh] at k5
          cases k5
      have hneb : u3.ownBlock ≠ some b := by
        rcases HROW.out.2 with ⟨rfl, -⟩ | ⟨g, cap, cur, rfl, hbg, -⟩
        · simp [Value.ownBlock]
        · simp only [Value.ownBlock]
          intro e
          injection e with e
          have := HBL.out
          omega
      have HNE := Lib.hid (And.intro hne hneb)
      have HROW1 := Lib.hid (show w1.ownsRow w.heap.size 2 1 u3 L.length (nums L) from HROW.out.kept hg1 (.inr hne))
      have HB1 := Lib.hid hB1
      have HRG1 := Lib.hid hrg1
      have HLT := Lib.hid hlt
      have HST := Lib.hid (come16_step (up_nodup HUP.out) hi1 hlk)
      have HLL := Lib.hid (show L.length ≤ 64 by
        rw [HP.out.length_eq]
        exact Nat.le_trans (List.length_filter_le ..) hfew)
      clear hB1 hrg1 hg1 hs1 hlt hhas hat hwx hRv hlk hrg HROW hne hneb hi1
      go_wp2_with (at_builtin; refine wpList_appK rfl _ _ 40 rfl w.heap.size 2 i0 (.int .i64 0) 1 8 Try.underlying40 hi hz0 hz1 hz2 rfl (by decide) _ L.length (nums L) rfl ?b1 (some ⟨w1.heap.size, 0, none⟩) 1 1 [.int .i64 xk] rfl rfl ?b2 ?b3 ?b4 ?b5 ?b6 ?b7)
      case b1 => exact HROW1.out.alloc _
      case b2 => exact Lies.new w1 #[.int .i64 xk] _
      case b3 => simp [Value.oneCell']
      case b4 => have := HLL.out; unfold maxLen; omega
      case b5 => have := HLL.out; omega
      case b6 => have := HB1.out.size; simp; omega
      case b7 =>
        intro v3 w3 hown3 hg3 _
        have HRG3 := Lib.hid ((HRG1.out.alloc (.cells #[.int .i64 xk] 2)).kept hg3 HNE.out.2.symm HNE.out.1.symm)
        have HB3 := Lib.hid ((HB1.out.alloc HB1.out.size (.cells #[.int .i64 xk] 2)).grown hg3 (Nat.le_trans HB1.out.size (by simp)) (fun g e => by
          rcases HROW1.out.2 with ⟨e2, -⟩ | ⟨g', cap, cur, e2, hbg, -⟩
          · rw [e2] at e; cases e
          · rw [e2] at e; injection e with e; rw [← e]; exact hbg))
        have HO3 := Lib.hid hown3
        clear hown3 hg3
        go_wp2
        go_roundw
        case rel =>
          refine ⟨_, _, L ++ [xk], HRG3.out, ?_, (HP.out.append_right [xk]).trans HST.out.symm, HB3.out⟩
          rw [List.length_append, nums_snoc]; exact HO3.out
        case measure =>
          rw [HRG3.out.left_eq, HRG.out.left_eq]
          exact HLT.out
end
end Go.Proofs.Ythcchfhkeghkhaa

namespace Go.Proofs.Ythcchfhkeghkhaa
open Go.RowKit Po
set_option maxRecDepth 100000

/-- the value of a span -/
def spV (x : Plain.Sp) : Value := .agg #[.int .i64 x.t, .int .i64 x.i, .int .i64 x.p, .int .i64 x.s, .int .i64 x.d, .string (str x.sv), .string (str x.nm)]
theorem same16_any (g : Nat) (q t i p s d : Int) (SV NM : ByteArray) (w : World) (hc : w.cell? ⟨g, 1, none⟩ = some (.int .i64 q)) (hg : g < w.heap.size) :
    Calls Try.prog 40 #[.agg #[.int .i64 t, .int .i64 i, .int .i64 p, .int .i64 s, .int .i64 d, .string SV, .string NM], .pointer (some ⟨g, 0, none⟩)] w fun e w' => e = .returned (.bool (decide (i = q))) ∧ Below w.heap.size w w' := by
  have hc1 : (w.alloc (.cells #[.int .i64 t, .int .i64 i, .int .i64 p, .int .i64 s, .int .i64 d, .string SV, .string NM] 45)).cell? ⟨g, 1, none⟩ = some (.int .i64 q) := by rw [World.cell?_alloc_lt _ _ _ hg]; exact hc
  have HB := Lib.hid ((Below.refl w.heap.size w).alloc (Nat.le_refl _) (.cells #[.int .i64 t, .int .i64 i, .int .i64 p, .int .i64 s, .int .i64 d, .string SV, .string NM] 45))
  clear hc
  by_cases h : i = q
  · have HD := Lib.hid (show decide (i = q) = true from decide_eq_true h)
    have hb : (i == q) = true := by simpa using h
    clear h
    simp only [HD.out]
    go_enter Try.func40, Try.ntmps40
    go_wp2
    go_ret
    exact ⟨by simp, HB.out⟩
  · have HD := Lib.hid (show decide (i = q) = false from decide_eq_false h)
    have hb : (i == q) = false := by simpa using h
    clear h
    simp only [HD.out]
    go_enter Try.func40, Try.ntmps40
    go_wp2
    go_ret
    exact ⟨by simp, HB.out⟩

set_option maxHeartbeats 2000000 in
theorem index16_any (g : Nat) (q : Int) (A : Option Addr) (cap n : Nat) (xs : List Plain.Sp) (w : World) (hn : xs.length = n) (hm : n ≤ 64) (hA : Lies w A (flat xs)) (hc : w.cell? ⟨g, 1, none⟩ = some (.int .i64 q)) (hg : g < w.heap.size) :
    Calls Try.prog 53 #[.slice A n cap, .func (.func 40) #[] #[.pointer (some ⟨g, 0, none⟩)]] w fun e w' => ∃ r : Int, e = .returned (.int .i64 r) ∧ (decide (0 ≤ r) = xs.any fun x => decide (x.i = q)) ∧ Below w.heap.size w w' := by
  have HA := Lib.hid hA
  have HN := Lib.hid hn
  have HC := Lib.hid hc
  have HG := Lib.hid hg
  clear hc hg
  clear hA hn
  go_enter Try.func53, Try.ntmps53
  go_wp2_with fail
  go_loopw [8] (fun vi wr => ∃ i : Nat, vi = .int .i64 i ∧ i ≤ n ∧ (xs.take i).any (fun x => decide (x.i = q)) = false ∧ Below w.heap.size w wr) (fun vi _ => n - (intOf vi).toNat)
  case atStart => exact ⟨0, rfl, by omega, by simp, Below.refl _ _⟩
  case round =>
    obtain ⟨i, rfl, hi, hno, hbr⟩ := hrel
    have HNO := Lib.hid hno
    clear hno
    by_cases hin : i < n
    · have hil : i < xs.length := by have := HN.out; omega
      obtain ⟨ad, rfl, hadb, hc⟩ := at_span HA.out i hil
      obtain ⟨y0, y1, y2, y3, y4, y5, y6⟩ := hc wr hbr
      have HS := Lib.hid (show (xs.take (i + 1)).any (fun x => decide (x.i = q)) = (fun x : Plain.Sp => decide (x.i = q)) xs[i] by rw [List.take_succ_eq_append_getElem hil, List.any_append, HNO.out]; simp)
      have HAN := Lib.hid (show (fun x : Plain.Sp => decide (x.i = q)) xs[i] = true → xs.any (fun x => decide (x.i = q)) = true from fun h => List.any_eq_true.2 ⟨xs[i], List.getElem_mem hil, h⟩)
      clear hc
      generalize xs[i] = x at *
      obtain ⟨xt, xi, xp, xs', xd, xsv, xnm⟩ := x
      simp only at y0 y1 y2 y3 y4 y5 y6 HS HAN
      generalize str xsv = SV at *
      generalize str xnm = NM at *
      have HIN := Lib.hid (show i + 1 ≤ n by omega)
      have HW := Lib.hid (fun (W : World) (hc : W.cell? ⟨g, 1, none⟩ = some (.int .i64 q)) (hg : g < W.heap.size) => same16_any g q xt xi xp xs' xd SV NM W hc hg)
      have hgc := (hbr.cell (p := ⟨g, 1, none⟩) HG.out).trans HC.out
      have HGC := Lib.hid hgc
      have HGL := Lib.hid (Nat.lt_of_lt_of_le HG.out hbr.size)
      clear hgc
      obtain ⟨B, hB⟩ : ∃ B, decide (xi = q) = B := ⟨_, rfl⟩
      simp only [hB] at HS HAN HW
      clear hB
      go_wp2_with fail
      refine (HW.out wr HGC.out HGL.out).mono ?_
      rintro e w1 ⟨rfl, d1⟩
      have HB2 := Lib.hid (hbr.trans (d1.mono hbr.size))
      clear y0 y1 y2 y3 y4 y5 y6 d1
      rcases B with _ | _
      · go_wp2
        go_roundw
        case rel => exact ⟨i + 1, by go_num, HIN.out, HS.out, HB2.out⟩
        case measure => have := HIN.out; simp [intOf]; omega
      · go_wp2
        go_ret
        exact ⟨(i : Int), rfl, by rw [HAN.out (by first | rfl | trivial), decide_eq_true (by omega)], HB2.out⟩
    · obtain rfl : i = n := by omega
      have HAL := Lib.hid (show xs.any (fun x => decide (x.i = q)) = false by have := HNO.out; rwa [← HN.out, List.take_length] at this)
      go_wp2
      go_ret
      exact ⟨-1, rfl, by rw [HAL.out]; rfl, hbr⟩

theorem contains16_any (g : Nat) (q : Int) (A : Option Addr) (cap n : Nat) (xs : List Plain.Sp) (w : World) (hn : xs.length = n) (hm : n ≤ 64) (hA : Lies w A (flat xs)) (hc : w.cell? ⟨g, 1, none⟩ = some (.int .i64 q)) (hg : g < w.heap.size) :
    Calls Try.prog 42 #[.slice A n cap, .func (.func 40) #[] #[.pointer (some ⟨g, 0, none⟩)]] w fun e w' => e = .returned (.bool (xs.any fun x => decide (x.i = q))) ∧ Below w.heap.size w w' := by
  have HI := Lib.hid (index16_any g q A cap n xs w hn hm hA hc hg)
  clear hA hn
  go_enter Try.func42, Try.ntmps42
  go_wp2_with fail
  refine HI.out.mono ?_
  rintro e w1 ⟨r, rfl, hr, hb⟩
  have HR := Lib.hid hr
  have HB := Lib.hid hb
  clear hr hb HI
  by_cases h0 : 0 ≤ r
  · have HD := Lib.hid (show decide (0 ≤ r) = true from decide_eq_true h0)
    go_wp2
    go_ret
    exact ⟨by rw [← HR.out]; first | rfl | simp [h0] | (rw [HD.out]), HB.out⟩
  · have HD := Lib.hid (show decide (0 ≤ r) = false from decide_eq_false h0)
    go_wp2
    go_ret
    exact ⟨by rw [← HR.out]; first | rfl | simp [h0] | (rw [HD.out]), HB.out⟩
end Go.Proofs.Ythcchfhkeghkhaa

namespace Go.Proofs.Ythcchfhkeghkhaa
open Go.RowKit Po
set_option maxRecDepth 100000

theorem size_zeroCells7 (zs : Array Value) (n : Nat) : (Builtin.zeroCells zs n).size = n * zs.size := by
  unfold Builtin.zeroCells
  simp
/-- slices.Grow(nil, n): room of one's own, with nothing in it -/
theorem grow16_nil (n : Nat) (w : World) (hn : n ≤ 200) :
    Calls Try.prog 58 #[.slice none 0 0, .int .i64 n] w fun e w' => ∃ v, e = .returned v ∧ w'.ownsRow w.heap.size 45 7 v 0 [] ∧ Below w.heap.size w w' := by
  obtain ⟨i0, hi, hz0, hz1, hz2⟩ := info_parts infoSp
  rcases Nat.eq_zero_or_pos n with rfl | h0
  · go_enter Try.func58, Try.ntmps58
    go_wp2
    go_ret
    exact ⟨_, rfl, World.ownsRow_nil _ _ _ _, Below.refl _ _⟩
  · have hrun := fun ty => Lib.run_append_nil_zeros (P := Try.prog) w 29 3 ty 45 i0 (.agg #[.int .i64 0, .int .i64 0, .int .i64 0, .int .i64 0, .int .i64 0, .string ⟨#[]⟩, .string ⟨#[]⟩]) .i64 .i64 Try.underlying29 Try.underlying3 hi hz0 n h0 (by rw [hz1]; omega) (by omega) (by rw [hz2]; omega)
    have hge := grownCap_ge w n 0 45
    have hle := grownCap_le_maxLen w n 0 45 (by unfold maxLen; omega)
    generalize grownCap w n 0 45 = C at *
    have hsz : (Builtin.zeroCells (Value.agg #[.int .i64 0, .int .i64 0, .int .i64 0, .int .i64 0, .int .i64 0, .string ⟨#[]⟩, .string ⟨#[]⟩]).cells n ++ Builtin.zeroCells (Value.agg #[.int .i64 0, .int .i64 0, .int .i64 0, .int .i64 0, .int .i64 0, .string ⟨#[]⟩, .string ⟨#[]⟩]).cells (C - n)).size = C * 7 := by
      rw [Array.size_append, size_zeroCells7, size_zeroCells7, ← Nat.add_mul]
      have e : (Value.agg #[.int .i64 0, .int .i64 0, .int .i64 0, .int .i64 0, .int .i64 0, .string ⟨#[]⟩, .string ⟨#[]⟩]).cells.size = 7 := rfl
      rw [e]
      congr 1
      omega
    generalize Builtin.zeroCells (Value.agg #[.int .i64 0, .int .i64 0, .int .i64 0, .int .i64 0, .int .i64 0, .string ⟨#[]⟩, .string ⟨#[]⟩]).cells n ++ Builtin.zeroCells (Value.agg #[.int .i64 0, .int .i64 0, .int .i64 0, .int .i64 0, .int .i64 0, .string ⟨#[]⟩, .string ⟨#[]⟩]).cells (C - n) = Z at *
    have HZ := Lib.hid hsz
    clear hsz
    unfold maxLen at hle
    go_enter Try.func58, Try.ntmps58
    go_wp2_with (at_builtin; refine Lib.wpList_append_run _ rfl _ _ _ _ rfl _ _ rfl rfl _ _ (hrun _) ?_)
    go_wp2
    go_ret
    refine ⟨_, rfl, ⟨by simp, .inr ⟨w.heap.size, C, Z, rfl, Nat.le_refl _, ?_, by omega, by unfold maxLen; omega, HZ.out, by simp⟩⟩, ?_⟩
    · exact heap_alloc_new w.drew _
    · exact (Below.refl _ _).drew.alloc (by simp) _

set_option maxHeartbeats 8000000 in
/-- slices.Concat(a, b): the spans of both, in memory of its own -/
theorem concat16_any (A : Option Addr) (n cap : Nat) (xs : List Plain.Sp) (A2 : Option Addr) (n2 cap2 : Nat) (xs2 : List Plain.Sp) (g : Nat) (w : World) (hn : xs.length = n) (hn2 : xs2.length = n2) (hm : n ≤ 64) (hm2 : n2 ≤ 64) (hA : Lies w A (flat xs)) (hA2 : Lies w A2 (flat xs2)) (hS : g < w.heap.size)
    (hS0 : w.cell? ⟨g, 0, none⟩ = some (.slice A n cap)) (hS1 : w.cell? ⟨g, 1, none⟩ = some (.slice A2 n2 cap2)) :
    Calls Try.prog 44 #[.slice (some ⟨g, 0, none⟩) 2 2] w fun e w' => ∃ v, e = .returned v ∧ w'.ownsRow w.heap.size 45 7 v (n + n2) (flat (xs ++ xs2)) ∧ Below w.heap.size w w' := by
  obtain ⟨i0, hi, hz0, hz1, hz2⟩ := info_parts infoSp
  have hcl := Lib.hid (show (flat xs).length = n * 7 by rw [flat_length, hn])
  have hcl2 := Lib.hid (show (flat xs2).length = n2 * 7 by rw [flat_length, hn2])
  have H1 := Lib.hid (flat_one xs)
  have H2 := Lib.hid (flat_one xs2)
  have HS := Lib.hid hS
  have HFA := Lib.hid (flat_append xs xs2)
  generalize flat (xs ++ xs2) = out at *
  generalize flat xs = cs at *
  generalize flat xs2 = cs2 at *
  clear hn hn2
  have HA := Lib.hid hA
  have HA2 := Lib.hid hA2
  clear hA hA2
  go_enter Try.func44, Try.ntmps44
  go_wp2
  refine wp_loop_rounds 3 ?_
  rw [rounds_succ]
  go_wp2
  rw [rounds_succ]
  go_wp2
  rw [rounds_succ]
  go_wp2_with fail
  have hG := grow16_nil (n + n2) w (by omega)
  rw [show ((n + n2 : Nat) : Int) = (n : Int) + (n2 : Int) by omega] at hG
  refine hG.mono ?_
  clear hG
  rintro e w1 ⟨v, rfl, hown, hb1⟩
  have HO := Lib.hid hown
  clear hown
  have c0 : w1.cell? ⟨g, 0, none⟩ = some (.slice A n cap) := by rw [hb1.cell (p := ⟨g, 0, none⟩) HS.out]; exact hS0
  have c1 : w1.cell? ⟨g, 1, none⟩ = some (.slice A2 n2 cap2) := by rw [hb1.cell (p := ⟨g, 1, none⟩) HS.out]; exact hS1
  go_wp2
  refine wp_loop_rounds 3 ?_
  rw [rounds_succ]
  go_wp2_with (at_builtin; refine wpList_appK rfl _ _ 29 rfl w.heap.size 45 i0 (.agg #[.int .i64 0, .int .i64 0, .int .i64 0, .int .i64 0, .int .i64 0, .string ⟨#[]⟩, .string ⟨#[]⟩]) 7 72 Try.underlying29 hi hz0 hz1 hz2 rfl (by omega) v 0 [] rfl HO.out A n cap cs rfl hcl.out (HA.out.below hb1) H1.out (by unfold maxLen; omega) (by omega) hb1.size ?_; intro v2 w2 ho2 hg2 _)
  have hb2 : Below w.heap.size w w2 := hb1.grown hg2 hb1.size (fun q hg => (HO.out.lt q hg).1)
  have HO2 := Lib.hid ho2
  clear ho2 hg2
  have c1' : w2.cell? ⟨g, 1, none⟩ = some (.slice A2 n2 cap2) := by rw [hb2.cell (p := ⟨g, 1, none⟩) HS.out]; exact hS1
  clear c0 c1
  go_wp2
  rw [rounds_succ]
  go_wp2_with (at_builtin; refine wpList_appK rfl _ _ 29 rfl w.heap.size 45 i0 (.agg #[.int .i64 0, .int .i64 0, .int .i64 0, .int .i64 0, .int .i64 0, .string ⟨#[]⟩, .string ⟨#[]⟩]) 7 72 Try.underlying29 hi hz0 hz1 hz2 rfl (by omega) v2 (0 + n) ([] ++ cs) rfl HO2.out A2 n2 cap2 cs2 rfl hcl2.out (HA2.out.below hb2) H2.out (by unfold maxLen; omega) (by omega) hb2.size ?_; intro v3 w3 ho3 hg3 _)
  have hb3 : Below w.heap.size w w3 := hb2.grown hg3 hb2.size (fun q hg => (HO2.out.lt q hg).1)
  have HO3 := Lib.hid ho3
  clear ho3 hg3
  go_wp2
  rw [rounds_succ]
  go_wp2
  go_ret
  refine ⟨_, rfl, ?_, hb3⟩
  rw [HFA.out]
  simpa using HO3.out
end Go.Proofs.Ythcchfhkeghkhaa

namespace Go.Proofs.Ythcchfhkeghkhaa
open Go.RowKit Go.Sort
set_option maxRecDepth 100000


theorem ret_int16 {a b : Int} (h : a = b) : Ending.returned (.int .i64 a) = .returned (.int .i64 b) := by rw [h]
set_option maxHeartbeats 2000000 in
theorem tsort_own (A : Option Addr) (n cap : Nat) (l : List Plain.Sp) (w : World) (hn : l.length = n) (hm : n ≤ maxLen) (hA : Lies w A (flat l)) (hS : Fine l) :
    Calls Try.prog 43 #[.slice A n cap] w fun e w' => ∃ v, e = .returned (.tuple #[v, .bool (Plain.isT (Plain.srt l))]) ∧ GivesO w w' (Plain.ts l) v := by
  have hsl : (Plain.srt l).length = n := by rw [(Plain.srt_perm l).length_eq, hn]
  by_cases h64 : 1 ≤ n ∧ n ≤ 64
  rotate_left
  · have hF : Plain.isT (Plain.srt l) = false := by
      rcases Nat.lt_or_ge n 1 with h | h
      · exact Plain.isT_empty (by omega)
      · exact Plain.isT_long (by omega)
    have hT := Plain.ts_no hF
    rw [hF, hT]
    clear hA hS hF hT hsl hn
    unfold maxLen at hm
    go_enter Try.func43, Try.ntmps43
    go_wp2_with fail
    refine (fits_any n w false (by rw [decide_eq_false_iff_not]; omega)).mono ?_
    rintro e w' ⟨rfl, rfl⟩
    go_wp2
    go_returns
    exact ⟨.slice none 0 0, rfl, GivesO.nil (Below.refl _ _)⟩
  obtain ⟨h1, h2⟩ := h64
  have HC := Lib.hid (cloneS_any A n cap l w hn h1 (by omega) hA)
  have HFL := Lib.hid (show (flat l).length = n * 7 by rw [flat_length, hn])
  have HN := Lib.hid hn
  have HS := Lib.hid hS
  have HO := Lib.hid (fun (d : List Plain.Sp) (hp : d.Perm l) (hs : d.Pairwise (fun a b => Plain.le a b = true)) => Plain.ts_of hp hs)
  have HNO := Lib.hid (Plain.ts_no (l := l))
  generalize Plain.ts l = T at *
  generalize Plain.isT (Plain.srt l) = R at *
  clear hA hS hsl hn hm
  go_enter Try.func43, Try.ntmps43
  go_wp2_with fail
  refine (fits_any n w true (by rw [decide_eq_true_eq]; omega)).mono ?_
  rintro e w' ⟨rfl, rfl⟩
  go_wp2_with fail
  refine HC.out.mono ?_
  rintro e w1 ⟨v1, rfl, ho1, c1⟩
  rcases ho1.2 with ⟨-, h0⟩ | ⟨g, cap1, cur, rfl, hbg, hgh, hl1, hm1, hcs, htk⟩
  · omega
  have hg1 : g < w1.heap.size := (ho1.lt g rfl).2
  have HSF := Lib.hid (sortFunc_any g cap1 n l w1 HN.out hg1 (fun j hj => by
    have hc := ho1.cells (g := g) rfl j _ (List.getElem?_eq_getElem hj)
    have e2 : (⟨g, 0, none⟩ : Addr).add j = ⟨g, j, none⟩ := by unfold Addr.add; split <;> simp_all
    rw [e2] at hc
    refine ⟨by rw [hc]; simp [hj], ?_⟩
    simp [World.frozen?, hgh]) (by omega))
  clear ho1 hgh hcs htk
  go_wp2_with fail
  refine HSF.out.mono ?_
  rintro e w2 ⟨rfl, m, hp, hs, hL, hB⟩
  have d2 := hB w.heap.size hbg
  have c2 := c1.trans d2
  obtain ⟨ho1, ho2⟩ := HO.out m hp hs
  have HML := Lib.hid (show m.length = n by rw [hp.length_eq, HN.out])
  have HR := Lib.hid (tright_any (some ⟨g, 0, none⟩) n cap1 m w2 HML.out (by unfold maxLen; omega) hL (fun x hx => HS.out x (hp.mem_iff.1 hx)))
  rw [ho1] at HR ho2
  have HO2 := Lib.hid ho2
  have HL := Lib.hid hL
  clear ho2 hL hp hs hB HSF ho1
  go_wp2_with fail
  refine HR.out.mono ?_
  rintro e w3 ⟨rfl, d3⟩
  have c3 := c2.trans (d3.mono c2.size)
  rcases R with _ | _
  · go_wp2
    go_returns
    rw [HNO.out (by trivial)]
    exact ⟨.slice none 0 0, rfl, GivesO.nil c3⟩
  · go_wp2
    go_returns
    rw [← HO2.out (by trivial)]
    exact ⟨.slice (some ⟨g, 0, none⟩) n cap1, rfl, some ⟨g, 0, none⟩, cap1, by rw [HML.out], by rw [HML.out]; exact hl1, hm1, HL.out.below d3, c3, fun ad e => (by cases e; exact hbg)⟩

theorem cost16_any (A : Option Addr) (n cap : Nat) (l : List Plain.Sp) (w : World) (hn : l.length = n) (hm : n ≤ maxLen) (hA : Lies w A (flat l)) (hS : Fine l) :
    Calls Try.prog 45 #[.slice A n cap] w fun e w' => e = .returned (.int .i64 (Rc.cost l : Int)) ∧ Below w.heap.size w w' := by
  have HT := Lib.hid (tput_any A n cap l w hn hm hA hS)
  have hV : Rc.cost l = if (Plain.tput l).length = 0 then 0 else 16 + (Plain.tput l).length := rfl
  have htl := Plain.tput_len l
  have HTL := Lib.hid (cells_length (Plain.tput l))
  generalize Plain.tput l = tb at *
  obtain ⟨m, hm⟩ : ∃ m, tb.length = m := ⟨_, rfl⟩
  rw [hm] at hV htl HTL
  have HM := Lib.hid hm
  clear hm hn hA hS
  by_cases h0 : m = 0
  · have hV2 : ((Rc.cost l : Nat) : Int) = 0 := by rw [hV, if_pos h0]; rfl
    have HV := Lib.hid hV2
    clear hV hV2
    go_enter Try.func45, Try.ntmps45
    go_wp2_with fail
    refine HT.out.mono ?_
    rintro e w3 ⟨v3, rfl, ho3, hb3⟩
    rw [HM.out] at ho3
    obtain ⟨A3, c3, rfl, -, -, hl3, -⟩ := own_form ho3
    have HB := Lib.hid hb3
    clear ho3 hb3
    have d0 : ((m : Int) == 0) = true := by rw [beq_iff_eq]; omega
    go_wp2
    go_ret
    exact ⟨ret_int16 HV.out.symm, HB.out⟩
  · have hV2 : ((Rc.cost l : Nat) : Int) = 16 + (m : Int) := by rw [hV, if_neg h0]; omega
    have HV := Lib.hid hV2
    clear hV hV2
    go_enter Try.func45, Try.ntmps45
    go_wp2_with fail
    refine HT.out.mono ?_
    rintro e w3 ⟨v3, rfl, ho3, hb3⟩
    rw [HM.out] at ho3
    obtain ⟨A3, c3, rfl, -, -, hl3, -⟩ := own_form ho3
    have HB := Lib.hid hb3
    clear ho3 hb3
    have d0 : ((m : Int) == 0) = false := by rw [beq_eq_false_iff_ne]; omega
    go_wp2
    go_ret
    exact ⟨ret_int16 HV.out.symm, HB.out⟩

theorem putRow_grown16 (w : World) (blk off m : Nat) (dk : Array Int) (os : Array Obj) : w.grownBy (grow (putRow (Value.int .i64) (Sort.ahead w m) blk off dk) os) (some blk) := by
  unfold putRow mapBlock
  refine ⟨rfl, rfl, rfl, ?_, fun k hk hne => ?_⟩
  · rw [size_grow]; simp [Sort.ahead]
  · rw [heap_grow_old _ _ (by simpa [Sort.ahead] using hk)]
    simp only [Sort.ahead, Array.getElem?_modify]
    rw [if_neg (fun e => hne (by rw [e]))]
theorem sortL_any (w : World) (g cap : Nat) (zs : List Int) (hg : g < w.heap.size) (hsz : zs.length ≤ 1000) (hc : ∀ j (h : j < zs.length), w.cell? ⟨g, j, none⟩ = some (.int .i64 zs[j]) ∧ w.frozen? ⟨g, j, none⟩ = false) :
    Calls Try.prog 35 #[.slice (some ⟨g, 0, none⟩) zs.length cap] w fun e w' => e = .returned (.tuple #[]) ∧ ∃ M : List Int, M.Perm zs ∧ M.Pairwise (fun a b => a ≤ b) ∧ Lies w' (some ⟨g, 0, none⟩) (nums M) ∧ w.grownBy w' (some g) := by
  have hH : Holds (Value.int .i64) w g 0 zs.toArray := by
    intro j hj
    have hj' : j < zs.length := by simpa using hj
    have := hc j hj'
    rw [Nat.zero_add]
    simpa [hj'] using this
  have hcon := AnyM.slices_Sort_int Try.sortL g 0 cap zs w hH hg (by omega)
  refine Calls.mono (show Calls Try.prog 35 _ _ _ from hcon) ?_
  rintro e w' ⟨rfl, q, os, rfl⟩
  refine ⟨rfl, zs.mergeSort (fun x y => decide (x ≤ y)), List.mergeSort_perm _ _, ?_, ?_, putRow_grown16 w g 0 q _ os⟩
  · have := List.pairwise_mergeSort (le := fun x y : Int => decide (x ≤ y)) (fun a b c h1 h2 => by simp only [decide_eq_true_eq] at *; omega) (fun a b => by simp only [Bool.or_eq_true, decide_eq_true_eq]; omega) zs
    exact this.imp fun h => by simpa using h
  generalize hd : zs.mergeSort (fun x y => decide (x ≤ y)) = d
  have hdl : d.length = zs.length := by rw [← hd]; exact List.length_mergeSort _
  have h2 : Holds (Value.int .i64) (grow (putRow (Value.int .i64) (Sort.ahead w q) g 0 d.toArray) os) g 0 d.toArray :=
    holds_grow (Value.int .i64) _ os g 0 _ (by simpa [Sort.ahead] using hg) (holds_putRow (Value.int .i64) (Sort.ahead w q) g 0 zs.toArray d.toArray hH (by simpa using hdl))
  refine .inr ⟨_, rfl, by rw [size_grow]; simp [Sort.ahead]; omega, ?_⟩
  intro j u hu
  have hj : j < d.length := by
    rcases Nat.lt_or_ge j d.length with h | h
    · exact h
    · rw [List.getElem?_eq_none (by rw [nums_length]; exact h)] at hu; cases hu
  have h3 := (h2 j (by simpa using hj)).1
  have e2 : (⟨g, 0, none⟩ : Addr).add j = ⟨g, j, none⟩ := by unfold Addr.add; split <;> simp_all
  rw [e2]
  rw [Nat.zero_add] at h3
  rw [h3]
  simpa [hj, nums] using hu
theorem sortL_none (w : World) (cap : Nat) : Calls Try.prog 35 #[.slice none 0 cap] w fun e w' => e = .returned (.tuple #[]) ∧ w' = w :=
  show Calls Try.prog 35 _ _ _ from AnyM.slices_Sort_int_none Try.sortL none cap w
end Go.Proofs.Ythcchfhkeghkhaa

namespace Go.Proofs.Ythcchfhkeghkhaa
open Go.RowKit Go.Maps Po
set_option maxRecDepth 100000

theorem any_there {G : List Plain.Sp} {s : Plain.Sp} : (Po.part G s.t).any (fun x => decide (x.i = s.i)) = true ↔ ∃ x ∈ G, x.t = s.t ∧ x.i = s.i := by
  rw [List.any_eq_true]
  constructor
  · rintro ⟨x, hx, e⟩
    exact ⟨x, (part_mem.1 hx).1, (part_mem.1 hx).2, of_decide_eq_true e⟩
  · rintro ⟨x, hx, e1, e2⟩
    exact ⟨x, part_mem.2 ⟨hx, e1⟩, decide_eq_true e2⟩

set_option maxHeartbeats 16000000 in
theorem gather16_any {R : List Nat} {w : World} {b : Nat} {q : Int → Value} {most : Int} {G : List Plain.Sp} (hM : IsM R w b q G) (hR : ∀ r ∈ R, r < w.heap.size) (hOk : Ok most G) (s : Plain.Sp) (hsv : s.sv.length ≤ maxLen) (hnm : s.nm.length ≤ maxLen) :
    Calls Try.prog 33 #[.map (some b), .agg #[.int .i64 s.t, .int .i64 s.i, .int .i64 s.p, .int .i64 s.s, .int .i64 s.d, .string (str s.sv), .string (str s.nm)], .int .i64 most] w fun e w' => e = .returned (.int .i64 (code most G s)) ∧ ∃ q', IsM R w' b q' (if code most G s = 0 then G ++ [s] else G) ∧ Kept [b] w w' := by
  -- the row that is there
  obtain ⟨A, n, cap, hV, hn, h64, hA⟩ : ∃ A n cap, (if s.t ∈ ids G then q s.t else .slice none 0 0) = Value.slice A n cap ∧ (Po.part G s.t).length = n ∧ n ≤ 64 ∧ Lies w A (flat (Po.part G s.t)) := by
    by_cases hm : s.t ∈ ids G
    · obtain ⟨A, cap, e, l1, l2, l3, -⟩ := hM.row _ hm
      exact ⟨A, _, cap, by rw [if_pos hm, e], rfl, by rw [part_len]; exact hOk.few _, l3⟩
    · exact ⟨none, 0, 0, by rw [if_neg hm], by rw [part_nil.2 hm]; rfl, by omega, .inl (by rw [part_nil.2 hm]; rfl)⟩
  have HLK := Lib.hid (fun (W : World) (k : Below w.heap.size w W) => show (Instr.lookup 53 (.map (some b)) (.int .i64 s.t) true).run Try.prog W = .ok (.tuple #[.slice A n cap, .bool (decide (s.t ∈ ids G))]) W by rw [← hV]; exact (hM.below k).look hOk.right s.t)
  have HLE := Lib.hid (fun (W : World) (k : Below w.heap.size w W) => (hM.below k).len 3)
  have hN0 : (of G s.t).length = n := by rw [← part_len]; exact hn
  have hB0 : of G s.t = [] ↔ decide (s.t ∈ ids G) = false := by rw [of_nil, decide_eq_false_iff_not]
  obtain ⟨W1, hW1⟩ : ∃ W1, w.alloc (.cells #[.int .i64 s.t, .int .i64 s.i, .int .i64 s.p, .int .i64 s.s, .int .i64 s.d, .string (str s.sv), .string (str s.nm)] 45) = W1 := ⟨_, rfl⟩
  have hbk : Blk W1 w.heap.size #[.int .i64 s.t, .int .i64 s.i, .int .i64 s.p, .int .i64 s.s, .int .i64 s.d, .string (str s.sv), .string (str s.nm)] 45 := by rw [← hW1]; exact Blk.new ..
  have hB1 : Below w.heap.size w W1 := by rw [← hW1]; exact (Below.refl _ _).alloc (Nat.le_refl _) _
  have HBK := Lib.hid hbk
  have HB1 := Lib.hid hB1
  have HA := Lib.hid hA
  have HN := Lib.hid hn
  -- what comes of it
  have HC1 := Lib.hid (fun h => (code_wrong (most := most) (G := G) (s := s) h))
  have HC4 := Lib.hid (fun (h : s.right = true) (h2 : (Po.part G s.t).any (fun x => decide (x.i = s.i)) = true) => code_there (most := most) h (any_there.1 h2))
  have hno : (Po.part G s.t).any (fun x => decide (x.i = s.i)) = false → ∀ x ∈ G, ¬ (x.t = s.t ∧ x.i = s.i) := fun h x hx e => by
    rw [any_there.2 ⟨x, hx, e⟩] at h; cases h
  have HC2 := Lib.hid (fun (h : s.right = true) (h2 : (Po.part G s.t).any (fun x => decide (x.i = s.i)) = false) (h3 : 64 ≤ n ∨ (decide (s.t ∈ ids G) = false ∧ 64 ≤ (ids G).length)) => code_many (most := most) h (hno h2) (by rw [hN0, hB0]; exact h3))
  have HCB := Lib.hid (fun (h : s.right = true) (h2 : (Po.part G s.t).any (fun x => decide (x.i = s.i)) = false) (h3 : n < 64) (h4 : decide (s.t ∈ ids G) = false → (ids G).length < 64) (h5 : most < (Rc.cost (Po.part (G ++ [s]) s.t) : Int)) => code_big h (hno h2) (by rw [hN0]; exact h3) (fun e => h4 (hB0.1 e)) h5)
  have HC0 := Lib.hid (fun (h : s.right = true) (h2 : (Po.part G s.t).any (fun x => decide (x.i = s.i)) = false) (h3 : n < 64) (h4 : decide (s.t ∈ ids G) = false → (ids G).length < 64) (h5 : (Rc.cost (Po.part (G ++ [s]) s.t) : Int) ≤ most) => code_zero.2 ⟨h, hno h2, by rw [hN0]; exact h3, fun e => h4 (hB0.1 e), h5⟩)
  have HTS := Lib.hid (fun (h : s.right = true) (h2 : (Po.part G s.t).any (fun x => decide (x.i = s.i)) = false) (h3 : n < 64) => part_ts hOk h (hno h2) (by rw [hN0]; exact h3))
  have hblt := hM.lt
  have HPU := Lib.hid (fun (h : s.right = true) (W : World) (k : Below w.heap.size w W) (A' : Option Addr) (cap' : Nat) (h1 : (Po.part (G ++ [s]) s.t).length ≤ cap') (h2 : cap' ≤ maxLen) (h3 : Lies W A' (flat (Po.part (G ++ [s]) s.t))) (h4 : ∀ ad, A' = some ad → w.heap.size ≤ ad.block) =>
    (hM.below k).put h (by have := hOk.many; omega) h1 h2 h3 (off_new (B := w.heap.size) (fun r hr => by
      rcases List.mem_cons.1 hr with rfl | hr
      · exact hblt
      · exact hR r hr) h4))
  have HIN := Lib.hid (fun (W : World) (k : Below w.heap.size w W) => show ∃ q', IsM R W b q' G ∧ Kept [b] w W from ⟨q, hM.below k, Kept.of k _⟩)
  have HFP := Lib.hid (show ∀ x ∈ Po.part G s.t ++ [s], x.sv.length ≤ maxLen ∧ x.nm.length ≤ maxLen from fun x hx => by
    rcases List.mem_append.1 hx with hx | hx
    · exact fine_right hOk.right x (part_mem.1 hx).1
    · rw [List.mem_singleton.1 hx]; exact ⟨hsv, hnm⟩)
  have HFQ := Lib.hid (fun (h : s.right = true) => show Fine (Po.part (G ++ [s]) s.t) from fun x hx => fine_right (fun y hy => by
    rcases List.mem_append.1 hy with hy | hy
    · exact hOk.right y hy
    · rw [List.mem_singleton.1 hy]; exact h) x (part_mem.1 hx).1)
  have hr : s.right = s.right := rfl
  conv at hr => lhs; unfold Plain.Sp.right
  rw [← str_size s.sv, ← str_size s.nm] at hr
  have HRT := Lib.hid (fun W => right_any s.t s.i s.p s.s s.d (str s.sv) (str s.nm) W (by rw [str_size]; exact hsv) (by rw [str_size]; exact hnm))
  rw [hr] at HRT
  have hl1 := HLK.out _ (hW1 ▸ hB1 : Below w.heap.size w (w.alloc (.cells #[.int .i64 s.t, .int .i64 s.i, .int .i64 s.p, .int .i64 s.s, .int .i64 s.d, .string (str s.sv), .string (str s.nm)] 45)))
  have HKR := Lib.hid (fun (W : World) (k : Below W1.heap.size W1 W) => show Blk W w.heap.size #[.int .i64 s.t, .int .i64 s.i, .int .i64 s.p, .int .i64 s.s, .int .i64 s.d, .string (str s.sv), .string (str s.nm)] 45 from (k.block _ hbk.lt).trans hbk)
  have HLM := Lib.hid hOk.many
  have hz1 : W1.heap.size = w.heap.size + 1 := by rw [← hW1]; simp
  have HZ1 := Lib.hid hz1
  have HFS := Lib.hid (show flat [s] = [.int .i64 s.t, .int .i64 s.i, .int .i64 s.p, .int .i64 s.s, .int .i64 s.d, .string (str s.sv), .string (str s.nm)] from rfl)
  clear hM hR hV hn hA hN0 hB0 hno hblt hr hsv hnm hbk hB1 hz1
  obtain ⟨c0, c1, c2, c3, c4, c5, c6⟩ := Blk.seven HBK.out
  generalize Po.part (G ++ [s]) s.t = P at *
  generalize Po.part G s.t = Q at *
  generalize s.right = Rt at *
  generalize str s.sv = SV at *
  generalize str s.nm = NM at *
  obtain ⟨F, hF⟩ : ∃ F, (if code most G s = 0 then G ++ [s] else G) = F := ⟨_, rfl⟩
  have HF0 := Lib.hid (show code most G s ≠ 0 → F = G from fun h => by rw [← hF, if_neg h])
  have HF1 := Lib.hid (show code most G s = 0 → F = G ++ [s] from fun h => by rw [← hF, if_pos h])
  rw [hF]
  clear hF
  generalize code most G s = C at *
  generalize decide (s.t ∈ ids G) = B at *
  generalize hGS : G ++ [s] = GS at *
  generalize hIL : (ids G).length = m at *
  have HGS := Lib.hid hGS
  have HOK := Lib.hid hOk
  clear hGS hIL hOk
  have HW1 := Lib.hid hW1
  clear hW1
  go_enter Try.func33, Try.ntmps33
  go_wp2_with fail
  rw [HW1.out]
  refine (HRT.out W1).mono ?_
  rintro e w2 ⟨rfl, d2⟩
  have hb2 : Below w.heap.size w w2 := HB1.out.trans (d2.mono HB1.out.size)
  have HB2 := Lib.hid hb2
  have HD2 := Lib.hid d2
  have hk2 := HKR.out w2 d2
  obtain ⟨e0, e1, e2, e3, e4, e5, e6⟩ := Blk.seven hk2
  clear c0 c1 c2 c3 c4 c5 c6 hl1 d2 hb2
  rcases Rt with _ | _
  · go_wp2
    go_ret
    rw [HF0.out (by rw [HC1.out (by first | rfl | trivial)]; decide), HC1.out (by first | rfl | trivial)]
    exact ⟨rfl, HIN.out _ HB2.out⟩
  have HCT := Lib.hid (contains16_any w.heap.size s.i A cap n Q w2 HN.out h64 (HA.out.below HB2.out) e1 hk2.lt)
  obtain ⟨N, hN⟩ : ∃ N, (Q.any fun x => decide (x.i = s.i)) = N := ⟨_, rfl⟩
  rw [hN] at HCT
  simp only [hN] at HC4 HC2 HCB HC0 HTS
  clear hN hk2
  go_wp2_with fail
  refine HCT.out.mono ?_
  rintro e w3 ⟨rfl, d3⟩
  have HB3 := Lib.hid (HB2.out.trans (d3.mono HB2.out.size))
  have HD3 := Lib.hid (HD2.out.trans (d3.mono HD2.out.size))
  have hk3 := HKR.out w3 HD3.out
  obtain ⟨f0, f1, f2, f3, f4, f5, f6⟩ := Blk.seven hk3
  have hl3 := HLE.out w3 HB3.out
  have hm64 := HLM.out
  clear e0 e1 e2 e3 e4 e5 e6 d3 HCT hk3
  rcases N with _ | _
  rotate_left
  · go_wp2
    go_ret
    rw [HF0.out (by rw [HC4.out (by first | rfl | trivial) (by first | rfl | trivial)]; decide), HC4.out (by first | rfl | trivial) (by first | rfl | trivial)]
    exact ⟨rfl, HIN.out _ HB3.out⟩
  have HCC := Lib.hid (fun (W : World) (k : Below w.heap.size w W) => concat16_any A n cap Q (some ⟨W.heap.size, 0, none⟩) 1 1 [s] (W.heap.size + 1) ((W.alloc (.cells #[.int .i64 s.t, .int .i64 s.i, .int .i64 s.p, .int .i64 s.s, .int .i64 s.d, .string SV, .string NM] 45)).alloc (.cells #[.slice A n cap, .slice (some ⟨W.heap.size, 0, none⟩) 1 1] 29)) HN.out rfl h64 (by omega)
    ((HA.out.below k).below (((Below.refl _ W).alloc (Nat.le_refl _) _).alloc (by simp) _))
    (by
      rw [HFS.out]
      exact (Lies.new W #[.int .i64 s.t, .int .i64 s.i, .int .i64 s.p, .int .i64 s.s, .int .i64 s.d, .string SV, .string NM] 45).below ((Below.refl _ _).alloc (Nat.le_refl _) _))
    (by simp)
    (by
      have := (Blk.new (W.alloc (.cells #[.int .i64 s.t, .int .i64 s.i, .int .i64 s.p, .int .i64 s.s, .int .i64 s.d, .string SV, .string NM] 45)) #[.slice A n cap, .slice (some ⟨W.heap.size, 0, none⟩) 1 1] 29).cell 0
      rw [World.size_alloc] at this; exact this)
    (by
      have := (Blk.new (W.alloc (.cells #[.int .i64 s.t, .int .i64 s.i, .int .i64 s.p, .int .i64 s.s, .int .i64 s.d, .string SV, .string NM] 45)) #[.slice A n cap, .slice (some ⟨W.heap.size, 0, none⟩) 1 1] 29).cell 1
      rw [World.size_alloc] at this; exact this))
  by_cases hn64 : 64 ≤ n
  · have q1 : decide ((64 : Int) ≤ (n : Int)) = true := by rw [decide_eq_true_eq]; omega
    go_wp2
    go_ret
    rw [HF0.out (by rw [HC2.out (by first | rfl | trivial) (by first | rfl | trivial) (.inl hn64)]; decide), HC2.out (by first | rfl | trivial) (by first | rfl | trivial) (.inl hn64)]
    exact ⟨rfl, HIN.out _ HB3.out⟩
  have q1 : decide ((64 : Int) ≤ (n : Int)) = false := by rw [decide_eq_false_iff_not]; omega
  rcases B with _ | _
  · by_cases hm : 64 ≤ m
    · have q2 : decide ((64 : Int) ≤ (m : Int)) = true := by rw [decide_eq_true_eq]; omega
      go_wp2
      go_ret
      rw [HF0.out (by rw [HC2.out (by first | rfl | trivial) (by first | rfl | trivial) (.inr ⟨by first | rfl | trivial, hm⟩)]; decide), HC2.out (by first | rfl | trivial) (by first | rfl | trivial) (.inr ⟨by first | rfl | trivial, hm⟩)]
      exact ⟨rfl, HIN.out _ HB3.out⟩
    have q2 : decide ((64 : Int) ≤ (m : Int)) = false := by rw [decide_eq_false_iff_not]; omega
    go_wp2_with fail
    refine (HCC.out w3 HB3.out).mono ?_
    rintro e w4 ⟨v4, rfl, ho4, hb4⟩
    have d4 : Below w3.heap.size w3 w4 := (((Below.refl _ w3).alloc (Nat.le_refl _) _).alloc (by simp) _).trans (hb4.mono (by simp; omega))
    obtain ⟨A5, cap5, rfl, hl5, hm5, hL5, -⟩ := GivesO.own (l := Q ++ [s]) (by rw [List.length_append, HN.out]; exact ho4)
    rw [List.length_append, HN.out] at hl5
    have HB4 := Lib.hid (HB3.out.trans (d4.mono HB3.out.size))
    have HD4 := Lib.hid (HD3.out.trans (d4.mono HD3.out.size))
    obtain ⟨ht1, ht2, -⟩ := HTS.out (by first | rfl | trivial) (by first | rfl | trivial) (by omega)
    have hT := tsort_own A5 (n + 1) cap5 (Q ++ [s]) w4 (by rw [List.length_append, HN.out]; rfl) (by unfold maxLen; omega) hL5 HFP.out
    rw [ht1, ht2] at hT
    have HT := Lib.hid hT
    simp only [List.length_append, HN.out, List.length_cons, List.length_nil, Nat.zero_add]
    clear ho4 hb4 d4 hL5 ht1 ht2 hT f0 f1 f2 f3 f4 f5 f6 hl3 hl5 hm5
    go_wp2_with fail
    refine HT.out.mono ?_
    rintro e w5 ⟨v5, rfl, A6, cap6, rfl, hl6, hm6, hL6, d5, hf6⟩
    have HB5 := Lib.hid (HB4.out.trans (d5.mono HB4.out.size))
    have HD5 := Lib.hid (HD4.out.trans (d5.mono HD4.out.size))
    have HC := Lib.hid (cost16_any A6 P.length cap6 P w5 rfl (Nat.le_trans hl6 hm6) hL6 (HFQ.out (by first | rfl | trivial)))
    have HL6 := Lib.hid hL6
    have HF6 := Lib.hid (fun ad e => Nat.le_trans HB4.out.size (hf6 ad e))
    have HM6 := Lib.hid (And.intro hl6 hm6)
    obtain ⟨k, hk⟩ : ∃ k, P.length = k := ⟨_, rfl⟩
    have HK := Lib.hid hk
    rw [hk] at HC HM6 ⊢
    obtain ⟨c, hc⟩ : ∃ c : Nat, Rc.cost P = c := ⟨_, rfl⟩
    rw [hc] at HC HCB HC0
    clear hk hc hl6 hm6 hL6 d5 hf6 HT
    go_wp2_with fail
    refine HC.out.mono ?_
    rintro e w6 ⟨rfl, d6⟩
    have HB6 := Lib.hid (HB5.out.trans (d6.mono HB5.out.size))
    have HD6 := Lib.hid (HD5.out.trans (d6.mono HD5.out.size))
    have HL7 := Lib.hid (HL6.out.below d6)
    have hk6 := HKR.out w6 HD6.out
    obtain ⟨g0, g1, g2, g3, g4, g5, g6⟩ := Blk.seven hk6
    clear hk6 d6
    by_cases hbig : most < (c : Int)
    · have q3 : decide (most < (c : Int)) = true := decide_eq_true hbig
      have HQ := Lib.hid (HCB.out (by first | rfl | trivial) (by first | rfl | trivial) (by omega) (by first | (intro _; omega) | (intro h; cases h) | simp) hbig)
      clear hbig
      go_wp2
      go_ret
      rw [HF0.out (by rw [HQ.out]; decide), HQ.out]
      exact ⟨rfl, HIN.out _ HB6.out⟩
    · have q3 : decide (most < (c : Int)) = false := decide_eq_false hbig
      have HQ := Lib.hid (HC0.out (by first | rfl | trivial) (by first | rfl | trivial) (by omega) (by first | (intro _; omega) | (intro h; cases h) | simp) (by omega))
      obtain ⟨w7, q', hr7, hI7, hK7⟩ := HPU.out (by first | rfl | trivial) w6 HB6.out A6 cap6 (by rw [HK.out]; exact HM6.out.1) HM6.out.2 HL7.out HF6.out
      rw [HK.out] at hr7
      have HI7 := Lib.hid hI7
      have HK7 := Lib.hid ((Kept.of HB6.out [b]).trans hK7)
      clear hbig hI7 hK7
      go_wp2
      go_ret
      rw [HF1.out HQ.out, HQ.out]
      exact ⟨rfl, _, by first | exact HI7.out | (rw [HGS.out]; exact HI7.out), HK7.out⟩
  · go_wp2_with fail
    refine (HCC.out w3 HB3.out).mono ?_
    rintro e w4 ⟨v4, rfl, ho4, hb4⟩
    have d4 : Below w3.heap.size w3 w4 := (((Below.refl _ w3).alloc (Nat.le_refl _) _).alloc (by simp) _).trans (hb4.mono (by simp; omega))
    obtain ⟨A5, cap5, rfl, hl5, hm5, hL5, -⟩ := GivesO.own (l := Q ++ [s]) (by rw [List.length_append, HN.out]; exact ho4)
    rw [List.length_append, HN.out] at hl5
    have HB4 := Lib.hid (HB3.out.trans (d4.mono HB3.out.size))
    have HD4 := Lib.hid (HD3.out.trans (d4.mono HD3.out.size))
    obtain ⟨ht1, ht2, -⟩ := HTS.out (by first | rfl | trivial) (by first | rfl | trivial) (by omega)
    have hT := tsort_own A5 (n + 1) cap5 (Q ++ [s]) w4 (by rw [List.length_append, HN.out]; rfl) (by unfold maxLen; omega) hL5 HFP.out
    rw [ht1, ht2] at hT
    have HT := Lib.hid hT
    simp only [List.length_append, HN.out, List.length_cons, List.length_nil, Nat.zero_add]
    clear ho4 hb4 d4 hL5 ht1 ht2 hT f0 f1 f2 f3 f4 f5 f6 hl3 hl5 hm5
    go_wp2_with fail
    refine HT.out.mono ?_
    rintro e w5 ⟨v5, rfl, A6, cap6, rfl, hl6, hm6, hL6, d5, hf6⟩
    have HB5 := Lib.hid (HB4.out.trans (d5.mono HB4.out.size))
    have HD5 := Lib.hid (HD4.out.trans (d5.mono HD4.out.size))
    have HC := Lib.hid (cost16_any A6 P.length cap6 P w5 rfl (Nat.le_trans hl6 hm6) hL6 (HFQ.out (by first | rfl | trivial)))
    have HL6 := Lib.hid hL6
    have HF6 := Lib.hid (fun ad e => Nat.le_trans HB4.out.size (hf6 ad e))
    have HM6 := Lib.hid (And.intro hl6 hm6)
    obtain ⟨k, hk⟩ : ∃ k, P.length = k := ⟨_, rfl⟩
    have HK := Lib.hid hk
    rw [hk] at HC HM6 ⊢
    obtain ⟨c, hc⟩ : ∃ c : Nat, Rc.cost P = c := ⟨_, rfl⟩
    rw [hc] at HC HCB HC0
    clear hk hc hl6 hm6 hL6 d5 hf6 HT
    go_wp2_with fail
    refine HC.out.mono ?_
    rintro e w6 ⟨rfl, d6⟩
    have HB6 := Lib.hid (HB5.out.trans (d6.mono HB5.out.size))
    have HD6 := Lib.hid (HD5.out.trans (d6.mono HD5.out.size))
    have HL7 := Lib.hid (HL6.out.below d6)
    have hk6 := HKR.out w6 HD6.out
    obtain ⟨g0, g1, g2, g3, g4, g5, g6⟩ := Blk.seven hk6
    clear hk6 d6
    by_cases hbig : most < (c : Int)
    · have q3 : decide (most < (c : Int)) = true := decide_eq_true hbig
      have HQ := Lib.hid (HCB.out (by first | rfl | trivial) (by first | rfl | trivial) (by omega) (by first | (intro _; omega) | (intro h; cases h) | simp) hbig)
      clear hbig
      go_wp2
      go_ret
      rw [HF0.out (by rw [HQ.out]; decide), HQ.out]
      exact ⟨rfl, HIN.out _ HB6.out⟩
    · have q3 : decide (most < (c : Int)) = false := decide_eq_false hbig
      have HQ := Lib.hid (HC0.out (by first | rfl | trivial) (by first | rfl | trivial) (by omega) (by first | (intro _; omega) | (intro h; cases h) | simp) (by omega))
      obtain ⟨w7, q', hr7, hI7, hK7⟩ := HPU.out (by first | rfl | trivial) w6 HB6.out A6 cap6 (by rw [HK.out]; exact HM6.out.1) HM6.out.2 HL7.out HF6.out
      rw [HK.out] at hr7
      have HI7 := Lib.hid hI7
      have HK7 := Lib.hid ((Kept.of HB6.out [b]).trans hK7)
      clear hbig hI7 hK7
      go_wp2
      go_ret
      rw [HF1.out HQ.out, HQ.out]
      exact ⟨rfl, _, by first | exact HI7.out | (rw [HGS.out]; exact HI7.out), HK7.out⟩
end Go.Proofs.Ythcchfhkeghkhaa

namespace Go.Proofs.Ythcchfhkeghkhaa
open Go.RowKit Go.Maps Po
set_option maxRecDepth 100000

set_option maxHeartbeats 16000000 in
theorem add16_any {R O : List Nat} {w : World} {p : Nat} {most : Int} {G : List Plain.Sp} (h : IsPool R w p O most G) (hR : ∀ s ∈ R, s < w.heap.size) (A : Option Addr) (n cap : Nat) (l : List Plain.Sp) (hn : l.length = n) (_hc1 : n ≤ cap) (hc2 : cap ≤ maxLen) (hA : Lies w A (flat l)) (_ho : Off O A (flat l)) (hF : Fine l) :
    Calls Try.prog 18 #[.pointer (some ⟨p, 0, none⟩), .slice A n cap] w fun e w' => e = .returned (.int .i64 (codes most G l)) ∧ ∃ O', IsPool R w' p O' most (put most G l) ∧ Kept O w w' ∧ ∀ g ∈ O', g ∈ O ∨ w.heap.size ≤ g := by
  have hP := h
  obtain ⟨b, q, rfl, h1, h2, h3, h4, h5, h6⟩ := h
  have c1 : w.cell? ⟨p, 1, none⟩ = some (.map (some b)) := h2.cell 1
  obtain ⟨D, ⟨es, clock, hb, hFt, hs, hD⟩, -⟩ := h3.map
  have hCL := mclone_any b es clock w hb
  obtain ⟨w1, hw1⟩ : ∃ w1, w.alloc (.map es clock) = w1 := ⟨_, rfl⟩
  have hB1 : Below w.heap.size w w1 := by rw [← hw1]; exact (Below.refl _ _).alloc (Nat.le_refl _) _
  have hM1 : IsM (b :: p :: R) w1 w.heap.size q G := h3.copy hB1 (Nat.le_refl _) fun D' ⟨es', clock', hb', k1, k2, k3⟩ => by
    rw [hb] at hb'
    injection hb' with hb'
    injection hb' with e1 e2
    subst e1 e2
    exact ⟨es, clock, by rw [← hw1]; exact (MapKept.heap_alloc w _).1, k1, k2, k3⟩
  have hRR : ∀ r ∈ b :: p :: R, r < w.heap.size := fun r hr => by
    rcases List.mem_cons.1 hr with rfl | hr
    · exact h3.lt
    · rcases List.mem_cons.1 hr with rfl | hr
      · exact h2.lt
      · exact hR r hr
  have hblk : ∀ W, Below w.heap.size w W → Blk W p #[.int .i64 most, .map (some b)] 55 := fun W k => (k.block p h2.lt).trans h2
  rw [hw1] at hCL
  have HCL := Lib.hid hCL
  have HB1 := Lib.hid hB1
  have HM1 := Lib.hid hM1
  have HRR := Lib.hid hRR
  have HBL := Lib.hid hblk
  have HA := Lib.hid hA
  have HN := Lib.hid hn
  have HF := Lib.hid hF
  have HOK := Lib.hid h1
  have HP := Lib.hid hP
  have HPB := Lib.hid h2.lt
  have HNO := Lib.hid (And.intro h4 (And.intro h5 h6))
  have hnm := Nat.le_trans _hc1 hc2
  unfold maxLen at hnm
  have HGO := Lib.hid (fun (W : World) (k : Below w.heap.size w W) (i : Nat) (q' : Int → Value) (hi : i < l.length) (hz : codes most G (l.take i) = 0) (hm : IsM (b :: p :: R) W w.heap.size q' (G ++ l.take i)) => gather16_any hm (fun r hr => Nat.lt_of_lt_of_le (hRR r hr) k.size) (ok_codes h1 hz) l[i] (hF _ (List.getElem_mem hi)).1 (hF _ (List.getElem_mem hi)).2)
  have HW1 := Lib.hid hw1
  clear hP h1 h2 h3 h4 h5 h6 hb hFt hs hD hCL hB1 hM1 hRR hblk hA hn hF hw1 hc2
  go_enter Try.func18, Try.ntmps18
  go_wp2_with fail
  refine HCL.out.mono ?_
  rintro e w1' ⟨rfl, rfl⟩
  clear HCL
  go_wp2_with fail
  go_loopw [16] (fun vi wr => ∃ (i : Nat) (q' : Int → Value), vi = .int .i64 i ∧ i ≤ n ∧ codes most G (l.take i) = 0 ∧ IsM (b :: p :: R) wr w.heap.size q' (G ++ l.take i) ∧ Kept [w.heap.size] w1' wr) (fun vi _ => n - (intOf vi).toNat)
  case atStart => exact ⟨0, q, rfl, by omega, rfl, by simpa using HM1.out, Kept.refl _ _⟩
  case round =>
    obtain ⟨i, q', rfl, hi, hz, hm, hk⟩ := hrel
    have hbr : Below w.heap.size w wr := Kept.below HB1.out hk (by simp)
    have HBR := Lib.hid hbr
    have HZ := Lib.hid hz
    have HM := Lib.hid hm
    have HK := Lib.hid hk
    clear hz hm hk
    by_cases hin : i < n
    · have hil : i < l.length := by have := HN.out; omega
      obtain ⟨ad, rfl, hadb, hc⟩ := at_span HA.out i hil
      obtain ⟨y0, y1, y2, y3, y4, y5, y6⟩ := hc wr hbr
      have HG := Lib.hid (fun W k hm => HGO.out W k i q' hil HZ.out hm)
      have HS := Lib.hid (codes_step (most := most) (G := G) hil HZ.out)
      have HT := Lib.hid (codes_stop (most := most) (G := G) hil HZ.out)
      have HTK := Lib.hid (show G ++ l.take (i + 1) = (G ++ l.take i) ++ [l[i]] by rw [List.take_succ_eq_append_getElem hil, List.append_assoc])
      clear hc
      generalize l[i] = x at *
      generalize code most (G ++ l.take i) x = C at *
      obtain ⟨xt, xi, xp, xs', xd, xsv, xnm⟩ := x
      simp only at y0 y1 y2 y3 y4 y5 y6 HG
      generalize str xsv = SV at *
      generalize str xnm = NM at *
      obtain ⟨WB, hWB⟩ : ∃ WB, wr.alloc (.cells #[.int .i64 xt, .int .i64 xi, .int .i64 xp, .int .i64 xs', .int .i64 xd, .string SV, .string NM] 45) = WB := ⟨_, rfl⟩
      have hd : Below wr.heap.size wr WB := by rw [← hWB]; exact (Below.refl _ _).alloc (Nat.le_refl _) _
      have HBW := Lib.hid (hbr.trans (hd.mono hbr.size))
      have HCA := Lib.hid (HG.out WB.drew HBW.out.drew (HM.out.below hd.drew))
      have HKW := Lib.hid (HK.out.trans (Kept.of hd.drew _))
      have HIN := Lib.hid (show i + 1 ≤ n by omega)
      have hc0 : WB.cell? ⟨p, 0, none⟩ = some (.int .i64 most) := (HBL.out WB HBW.out).cell 0
      have hbk : Blk WB wr.heap.size #[.int .i64 xt, .int .i64 xi, .int .i64 xp, .int .i64 xs', .int .i64 xd, .string SV, .string NM] 45 := by rw [← hWB]; exact Blk.new ..
      have HBX := Lib.hid (Blk.seven hbk)
      have HWB := Lib.hid hWB
      clear hd hWB HG hbk
      go_wp2_with fail
      rw [HWB.out]
      obtain ⟨z0, z1, z2, z3, z4, z5, z6⟩ := HBX.out
      clear y0 y1 y2 y3 y4 y5 y6
      go_region_with (go_at_call 33; refine HCA.out.mono ?_; rintro e w5 ⟨rfl, q5, hI5, hK5⟩)
      all_goals
        have hk5 := HKW.out.trans hK5
        have HK5 := Lib.hid hk5
        have HB5 := Lib.hid (show Below w.heap.size w w5 from Kept.below HB1.out hk5 (by simp))
        have HI5 := Lib.hid hI5
        clear z0 z1 z2 z3 z4 z5 z6 hc0 hI5 hK5 hk5 HCA
        by_cases hC : C = 0
        · have d0 : (C == 0) = true := by simpa using hC
          have HC := Lib.hid hC
          clear hC
          go_wp2
          go_roundw
          case rel =>
            refine ⟨i + 1, q5, by go_num, HIN.out, HS.out HC.out, ?_, HK5.out⟩
            have := HI5.out
            rw [if_pos HC.out] at this
            rw [HTK.out]; exact this
          case measure => have := HIN.out; simp [intOf]; omega
        · have d0 : (C == 0) = false := by simpa using hC
          have HC := Lib.hid hC
          clear hC
          go_wp2
          go_ret
          have hcs := HT.out HC.out
          refine ⟨by rw [hcs]; rfl, [p, b], ?_, Kept.of HB5.out _, fun g hg => .inl hg⟩
          have : put most G l = G := by unfold put; rw [if_neg (by rw [hcs]; exact HC.out)]
          rw [this]
          exact HP.out.keep (Kept.of HB5.out []) (by simp)
    · obtain rfl : i = n := by omega
      have hz := HZ.out
      rw [← HN.out, List.take_length] at hz
      have hm := HM.out
      rw [← HN.out, List.take_length] at hm
      have hbk := HBL.out wr hbr
      have c0 : wr.cell? ⟨p, 1, none⟩ = some (.map (some b)) := hbk.cell 1
      have f0 := hbk.frozen 1
      have HR := Lib.hid (show IsPool R (wr.setCell ⟨p, 1, none⟩ (.map (some w.heap.size))) p [p, w.heap.size] most (G ++ l) by
        have hpb := HPB.out
        have hkp : Kept [p] wr (wr.setCell ⟨p, 1, none⟩ (.map (some w.heap.size))) := (Kept.refl [p] wr).setCell (by simp) _
        refine ⟨w.heap.size, q', rfl, ok_codes HOK.out hz, by simpa using hbk.set 1 (.map (some w.heap.size)), ?_, HNO.out.1, fun hr => ?_, by omega⟩
        · refine (hm.keep hkp (fun s hs => .inl ?_) fun hr => by have := HRR.out _ hr; omega).more fun s hs => .inl ?_
          · rw [List.mem_singleton.1 hs]; simp
          · exact List.mem_cons_of_mem _ hs
        · have := HRR.out w.heap.size (by simp [hr])
          omega)
      have HKF := Lib.hid (show Kept [p, b] w (wr.setCell ⟨p, 1, none⟩ (.map (some w.heap.size))) from (Kept.of hbr _).setCell (by simp) _)
      have HZ2 := Lib.hid hz
      clear hz hm hbk
      go_wp2
      go_ret
      have hpu : put most G l = G ++ l := by unfold put; rw [if_pos HZ2.out]
      rw [HZ2.out, hpu]
      refine ⟨rfl, _, HR.out, HKF.out, fun g hg => ?_⟩
      simp only [List.mem_cons, List.not_mem_nil, or_false] at hg ⊢
      omega

/-- the contracts of package pool -/
theorem poolOk : PoolOk IsPool where
  keep := fun h k hS => h.keep k hS
  more := fun h hS => h.more hS
  ok := fun h => h.okP
  own := fun h => h.ownP
  new := fun R most w hR => new16_any R most w hR
  add := fun h hR A n cap l hn h1 h2 hA ho hF => add16_any h hR A n cap l hn h1 h2 hA ho hF
  take := fun h _ i => take16_any h i
  get := fun h i => get16_any cloneS_any h i
  idsK := fun h => ids16_any (fun W g cap L hg hl hc => sortL_any W g cap L hg hl hc) sortL_none h
  many := fun h => many16_any h
end Go.Proofs.Ythcchfhkeghkhaa
