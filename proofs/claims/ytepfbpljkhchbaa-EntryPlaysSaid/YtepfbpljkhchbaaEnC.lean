/-
  Layer 14: how the developers' index lies in memory: a map from Ids to entries in blocks of their own; and what looking up, putting, deleting and counting come to. Nothing is assumed.
-/
import Derived.Test.YtepfbpljkhchbaaEnB

namespace Go.Proofs.Ytepfbpljkhchbaa
open Go.RowKit Go.Maps En
set_option maxRecDepth 100000

def I64 (x : Int) : Prop := -9223372036854775808 ≤ x ∧ x ≤ 9223372036854775807

open Classical in
/-- how an element of the map reads -/
noncomputable def ptrElem (v : Value) : Option (DataW Nat × List MemPlace) := if v = .pointer none then some (.nil, []) else if h : ∃ b, v = .pointer (some ⟨b, 0, none⟩) then some (.held h.choose, []) else none
theorem ptrElem_nil : ptrElem (.pointer none) = some (.nil, []) := by unfold ptrElem; rw [if_pos rfl]
theorem ptrElem_mk (b : Nat) : ptrElem (.pointer (some ⟨b, 0, none⟩)) = some (.held b, []) := by
  have hx : ∃ b', Value.pointer (some ⟨b, 0, none⟩) = .pointer (some ⟨b', 0, none⟩) := ⟨b, rfl⟩
  unfold ptrElem
  rw [if_neg (by simp), dif_pos hx]
  have hs := hx.choose_spec
  generalize hx.choose = c at *
  simp only [Value.pointer.injEq, Option.some.injEq, Addr.mk.injEq, and_true] at hs
  rw [hs]
theorem ptrElem_held {v : Value} {b : Nat} {ps : List MemPlace} (h : ptrElem v = some (.held b, ps)) : v = .pointer (some ⟨b, 0, none⟩) ∧ ps = [] := by
  unfold ptrElem at h
  split at h
  · cases h
  · split at h
    · rename_i hx
      injection h with h
      injection h with h1 h2
      injection h1 with h1
      rw [← h1]
      exact ⟨hx.choose_spec, h2.symm⟩
    · cases h
theorem ptrElem_none {v : Value} {ps : List MemPlace} (h : ptrElem v = some (.nil, ps)) : v = .pointer none := by
  unfold ptrElem at h
  split at h
  · assumption
  · split at h <;> cases h
theorem ptrElem_inv {v : Value} {z : DataW Nat × List MemPlace} (h : ptrElem v = some z) : ∃ c : Option Addr, v = .pointer c := by
  unfold ptrElem at h
  split at h
  · rename_i h1; exact ⟨_, h1⟩
  · split at h
    · rename_i hx; exact ⟨_, hx.choose_spec⟩
    · cases h

theorem keyedL : Keyed Try.prog 2 := int_keyed Try.underlying2
theorem keyL (i : Int) (h : I64 i) : keyOf Try.prog 2 (.int .i64 i) = some (.int .i64 i) := keyOf_int_mk Try.underlying2 (WalkArith.wf_i64 h)
theorem zeroPE (w : World) : (zeroValue 65).run Try.prog w = .ok (.pointer none) w := by kernel_rfl

/-- what the map holds -/
structure Held (D : DataW Nat) (p : Int → Nat) (m : List E) : Prop where
  has : ∀ k, Maps.has D k = true ↔ ∃ e ∈ m, k = .int .i64 e.id
  at_ : ∀ e ∈ m, ∀ z, D.atKey (.int .i64 e.id) z = .held (p e.id)
  size : Maps.size D = m.length
theorem Held.get {D : DataW Nat} {p : Int → Nat} {m : List E} (h : Held D p m) (i : Int) : Maps.has D (.int .i64 i) = (En.get m i).isSome := by
  rw [Bool.eq_iff_iff, h.has]
  cases hg : En.get m i with
  | none =>
    rw [get_none] at hg
    simp only [Option.isSome_none, Bool.false_eq_true, iff_false]
    rintro ⟨e, he, hk⟩
    injection hk with _ hk
    exact hg e he hk.symm
  | some e =>
    obtain ⟨h1, h2⟩ := get_some hg
    simp only [Option.isSome_some, iff_true]
    exact ⟨e, h1, by rw [h2]⟩
theorem Held.nil (p : Int → Nat) : Held (.map []) p [] := ⟨fun k => by simp [has_eq], by simp, rfl⟩
theorem Held.put {D : DataW Nat} {p : Int → Nat} {m : List E} (h : Held D p m) (hu : Uq m) (ht : Tidy D) (e : E) (g : Nat) : Held (D.put (.int .i64 e.id) (.held g)) (fun i => if i = e.id then g else p i) (En.put m e) := by
  have hm : IsMap D := ht.isMap
  have hk : WideAt.IsKeyLit (.int .i64 e.id) := trivial
  refine ⟨fun k => ?_, fun x hx z => ?_, ?_⟩
  · by_cases e1 : k = .int .i64 e.id
    · subst e1
      rw [has_put_same hm hk]
      simp only [true_iff]
      exact ⟨e, mem_put.2 (.inl rfl), rfl⟩
    · rw [has_put_other e1, h.has]
      constructor
      · rintro ⟨x, hx, rfl⟩
        exact ⟨x, mem_put.2 (.inr ⟨hx, fun e2 => e1 (by rw [e2])⟩), rfl⟩
      · rintro ⟨x, hx, rfl⟩
        rcases mem_put.1 hx with rfl | hx
        · exact absurd rfl e1
        · exact ⟨x, hx.1, rfl⟩
  · rcases mem_put.1 hx with rfl | hx
    · rw [atKey_put_same hm hk, if_pos rfl]
    · rw [atKey_put_other (fun e2 => hx.2 (by injection e2)), if_neg hx.2]
      exact h.at_ x hx.1 z
  · have := len_put hu e
    rw [size_put ht, h.get, h.size]
    split <;> simp_all
theorem Held.del {D : DataW Nat} {p : Int → Nat} {m : List E} (h : Held D p m) (hu : Uq m) (ht : Tidy D) (i : Int) : Held (D.del (.int .i64 i)) p (En.del m i) := by
  refine ⟨fun k => ?_, fun x hx z => ?_, ?_⟩
  · by_cases e1 : k = .int .i64 i
    · subst e1
      rw [has_del_same]
      simp only [Bool.false_eq_true, false_iff]
      rintro ⟨x, hx, e2⟩
      injection e2 with _ e2
      exact (mem_del.1 hx).2 e2.symm
    · rw [has_del_other e1, h.has]
      constructor
      · rintro ⟨x, hx, rfl⟩
        exact ⟨x, mem_del.2 ⟨hx, fun e2 => e1 (by rw [e2])⟩, rfl⟩
      · rintro ⟨x, hx, rfl⟩
        exact ⟨x, (mem_del.1 hx).1, rfl⟩
  · have hx := mem_del.1 hx
    rw [atKey_del_other (fun e2 => hx.2 (by injection e2))]
    exact h.at_ x hx.1 z
  · have := len_del hu i
    have h2 := size_del (k := .int .i64 i) ht
    rw [h.get, h.size] at h2
    omega
theorem Held.upd {D : DataW Nat} {p : Int → Nat} {m : List E} (h : Held D p m) (i : Int) (f : E → E) (hf : ∀ x, (f x).id = x.id) : Held D p (En.upd m i f) := by
  have key : ∀ j, (∃ e ∈ m, e.id = j) ↔ ∃ e ∈ En.upd m i f, e.id = j := fun j => by
    have := upd_ids m i f hf
    constructor
    · rintro ⟨e, he, rfl⟩
      have : e.id ∈ (En.upd m i f).map E.id := by rw [this]; exact List.mem_map.2 ⟨e, he, rfl⟩
      obtain ⟨e', h1, h2⟩ := List.mem_map.1 this
      exact ⟨e', h1, h2⟩
    · rintro ⟨e, he, rfl⟩
      have : e.id ∈ m.map E.id := by rw [← this]; exact List.mem_map.2 ⟨e, he, rfl⟩
      obtain ⟨e', h1, h2⟩ := List.mem_map.1 this
      exact ⟨e', h1, h2⟩
  refine ⟨fun k => ?_, fun x hx z => ?_, by rw [h.size]; simp [En.upd]⟩
  · rw [h.has]
    constructor
    · rintro ⟨x, hx, rfl⟩
      obtain ⟨y, hy, e⟩ := (key x.id).1 ⟨x, hx, rfl⟩
      exact ⟨y, hy, by rw [e]⟩
    · rintro ⟨x, hx, rfl⟩
      obtain ⟨y, hy, e⟩ := (key x.id).2 ⟨x, hx, rfl⟩
      exact ⟨y, hy, by rw [e]⟩
  · obtain ⟨y, hy, e⟩ := (key x.id).2 ⟨x, hx, rfl⟩
    rw [← e]
    exact h.at_ y hy z

/-- the blocks that an index writes into -/
def mine (x b : Nat) (p : Int → Nat) (m : List E) : List Nat := x :: b :: m.map fun e => p e.id
theorem mem_mine {x b : Nat} {p : Int → Nat} {m : List E} {k : Nat} : k ∈ mine x b p m ↔ k = x ∨ k = b ∨ ∃ e ∈ m, p e.id = k := by simp [mine]

/-- an index; R: blocks of others, which they may write into -/
structure IsIdx (R : List Nat) (w : World) (x b : Nat) (p : Int → Nat) (m : List E) : Prop where
  ok : Ok m
  fit : ∀ e ∈ m, I64 e.id
  few : m.length ≤ 1000
  box : Blk w x #[.map (some b)] 62
  map : ∃ D, w.ownsMap Try.prog 2 ptrElem b m.length D ∧ Held D p m
  inj : ∀ e ∈ m, ∀ e' ∈ m, p e.id = p e'.id → e.id = e'.id
  ent : ∀ e ∈ m, ∃ A cap, BoxE w (p e.id) e (.slice A e.sv.length cap) ∧ Svs w e.sv A cap ∧ Off (R ++ mine x b p m) A (strs e.sv)
  out : ∀ k ∈ mine x b p m, k ∉ R
theorem IsIdx.blt {R : List Nat} {w : World} {x b : Nat} {p : Int → Nat} {m : List E} (h : IsIdx R w x b p m) : b < w.heap.size := by
  obtain ⟨D, hD, -⟩ := h.map
  exact hD.lt
theorem IsIdx.xb {R : List Nat} {w : World} {x b : Nat} {p : Int → Nat} {m : List E} (h : IsIdx R w x b p m) : x ≠ b := by
  obtain ⟨D, ⟨es, c, hb, -⟩, -⟩ := h.map
  intro e
  have := h.box
  unfold Blk at this
  rw [e, hb] at this
  cases this
theorem IsIdx.px {R : List Nat} {w : World} {x b : Nat} {p : Int → Nat} {m : List E} (h : IsIdx R w x b p m) {e : E} (he : e ∈ m) : p e.id ≠ x ∧ p e.id ≠ b ∧ p e.id < w.heap.size := by
  obtain ⟨A, cap, hb, -⟩ := h.ent e he
  refine ⟨fun e2 => ?_, fun e2 => ?_, hb.lt⟩
  · have h1 := h.box
    unfold BoxE at hb
    unfold Blk at h1 hb
    rw [e2, h1] at hb
    injection hb with hb
    injection hb with hb
    have := congrArg Array.size hb
    simp [enA] at this
  · obtain ⟨D, ⟨es, c, h1, -⟩, -⟩ := h.map
    unfold BoxE Blk at hb
    rw [e2, h1] at hb
    cases hb
theorem IsIdx.lt {R : List Nat} {w : World} {x b : Nat} {p : Int → Nat} {m : List E} (h : IsIdx R w x b p m) : ∀ k ∈ mine x b p m, k < w.heap.size := by
  intro k hk
  rcases mem_mine.1 hk with rfl | rfl | ⟨e, he, rfl⟩
  · exact h.box.lt
  · exact h.blt
  · exact (h.px he).2.2
/-- others wrote into theirs, and memory grew -/
theorem IsIdx.keep {R S : List Nat} {w w' : World} {x b : Nat} {p : Int → Nat} {m : List E} (h : IsIdx R w x b p m) (k : Kept S w w') (hS : ∀ s ∈ S, s ∈ R ∨ w.heap.size ≤ s) : IsIdx R w' x b p m := by
  have hn : ∀ j ∈ mine x b p m, j ∉ S := fun j hj hs => by
    rcases hS j hs with h1 | h1
    · exact h.out j hj h1
    · have := h.lt j hj; omega
  refine ⟨h.ok, h.fit, h.few, k.blk h.box (hn _ (mem_mine.2 (.inl rfl))), ?_, h.inj, fun e he => ?_, h.out⟩
  · obtain ⟨D, hD, hH⟩ := h.map
    exact ⟨D, ownsMap_block hD (k.block b hD.lt (hn _ (mem_mine.2 (.inr (.inl rfl))))), hH⟩
  · obtain ⟨A, cap, h1, h2, h3⟩ := h.ent e he
    refine ⟨A, cap, k.blk h1 (hn _ (mem_mine.2 (.inr (.inr ⟨e, he, rfl⟩)))), ⟨h2.few, h2.le, h2.cap, ?_⟩, h3⟩
    rcases h2.lies with h4 | ⟨ad, e1, hb, hc⟩
    · exact .inl h4
    · rcases h3 with h3 | h3
      · exact .inl h3
      · have hns : ad.block ∉ S := fun hs => by
          rcases hS _ hs with h5 | h5
          · exact h3 ad e1 (List.mem_append_left _ h5)
          · omega
        exact .inr ⟨ad, e1, Nat.lt_of_lt_of_le hb k.size, fun j u hu => (World.cell?_of_block (by rw [addr_block]; exact k.block _ hb hns)).trans (hc j u hu)⟩
theorem IsIdx.below {R : List Nat} {w w' : World} {x b : Nat} {p : Int → Nat} {m : List E} (h : IsIdx R w x b p m) (k : Below w.heap.size w w') : IsIdx R w' x b p m := h.keep (Kept.of k []) (by simp)
/-- blocks that are new are others' -/
theorem IsIdx.more {R R' : List Nat} {w : World} {x b : Nat} {p : Int → Nat} {m : List E} (h : IsIdx R w x b p m) (hR : ∀ r ∈ R', r ∈ R ∨ w.heap.size ≤ r) : IsIdx R' w x b p m := by
  refine ⟨h.ok, h.fit, h.few, h.box, h.map, h.inj, fun e he => ?_, fun k hk hr => ?_⟩
  · obtain ⟨A, cap, h1, h2, h3⟩ := h.ent e he
    refine ⟨A, cap, h1, h2, ?_⟩
    rcases h3 with h3 | h3
    · exact .inl h3
    · rcases h2.lies with h4 | ⟨ad, e1, hb, hc⟩
      · exact .inl h4
      · refine .inr fun ad' e2 hm => ?_
        rw [e1] at e2; injection e2 with e2; subst e2
        rcases List.mem_append.1 hm with hm | hm
        · rcases hR _ hm with h5 | h5
          · exact h3 ad e1 (List.mem_append_left _ h5)
          · omega
        · exact h3 ad e1 (List.mem_append_right _ hm)
  · rcases hR k hr with h5 | h5
    · exact h.out k hk h5
    · have := h.lt k hk; omega

section
variable {R : List Nat} {w : World} {x b : Nat} {p : Int → Nat} {m : List E}
theorem IsIdx.look (h : IsIdx R w x b p m) {i : Int} (hi : I64 i) : (Instr.lookup 60 (.map (some b)) (.int .i64 i) true).run Try.prog w = .ok (.tuple #[.pointer (if (En.get m i).isSome then some ⟨p i, 0, none⟩ else none), .bool (En.get m i).isSome]) w := by
  obtain ⟨D, hD, hH⟩ := h.map
  obtain ⟨v, ps, hr, hv⟩ := hD.look_ok keyedL Try.underlying60 (zeroPE w) ptrElem_nil (keyL i hi)
  rw [hr, hH.get]
  cases hg : En.get m i with
  | none =>
    have hh : Maps.has D (.int .i64 i) = false := by rw [hH.get, hg]; rfl
    rw [atKey_of_not_has hh] at hv
    rw [ptrElem_none hv]
    rfl
  | some e =>
    obtain ⟨h1, h2⟩ := get_some hg
    have := hH.at_ e h1 .nil
    rw [h2] at this
    rw [this] at hv
    rw [(ptrElem_held hv).1]
    rfl
theorem IsIdx.len (h : IsIdx R w x b p m) (ty : TypeId) : (Builtin.len_ #[60] ty #[.map (some b)]).run Try.prog w = .ok (.int .i64 (m.length : Int)) w := by
  obtain ⟨D, hD, hH⟩ := h.map
  rw [hD.len Try.underlying60, hH.size]
theorem IsIdx.del (h : IsIdx R w x b p m) {i : Int} (hi : I64 i) (ty : TypeId) : ∃ w', (Builtin.delete_ #[60, 2] ty #[.map (some b), .int .i64 i]).run Try.prog w = .ok (.tuple #[]) w' ∧ IsIdx R w' x b p (En.del m i) ∧ Kept [b] w w' ∧ w'.heap.size = w.heap.size := by
  obtain ⟨D, hD, hH⟩ := h.map
  obtain ⟨w', hr, h1, h2⟩ := hD.drop keyedL Try.underlying60 (keyL i hi) ty
  have hg := h2.grown
  have hk : Kept [b] w w' := ⟨hg.os, hg.tape, hg.output, hg.size, fun k hk hn => hg.block k hk (fun e => hn (by injection e with e; rw [e]; simp))⟩
  have hsz : w'.heap.size = w.heap.size := by
    obtain ⟨es, c, es', c', -, rfl⟩ := h2
    exact Array.size_setIfInBounds ..
  refine ⟨w', hr, ⟨h.ok.del i, fun e he => h.fit e (mem_del.1 he).1, Nat.le_trans (List.length_filter_le ..) h.few, hk.blk h.box (by simpa using h.xb), ⟨_, ownsMap_trim h1 ?_, hH.del h.ok.uq (hD.tidy keyedL) i⟩, fun e he e' he' => h.inj e (mem_del.1 he).1 e' (mem_del.1 he').1, fun e he => ?_, fun k hk => h.out k ?_⟩, hk, hsz⟩
  · rw [(hH.del h.ok.uq (hD.tidy keyedL) i).size]; exact Nat.le_refl _
  · have he := (mem_del.1 he).1
    obtain ⟨A, cap, h3, h4, h5⟩ := h.ent e he
    refine ⟨A, cap, hk.blk h3 (by simpa using (h.px he).2.1), h4.kept (h5.mono fun k hk => ?_) hk, h5.mono fun k hk => ?_⟩
    · rw [List.mem_singleton.1 hk]
      exact List.mem_append_right _ (mem_mine.2 (.inr (.inl rfl)))
    · rcases List.mem_append.1 hk with hk | hk
      · exact List.mem_append_left _ hk
      · refine List.mem_append_right _ (mem_mine.2 ?_)
        rcases mem_mine.1 hk with h6 | h6 | ⟨y, hy, e6⟩
        · exact .inl h6
        · exact .inr (.inl h6)
        · exact .inr (.inr ⟨y, (mem_del.1 hy).1, e6⟩)
  · rcases mem_mine.1 hk with h6 | h6 | ⟨y, hy, e6⟩
    · exact mem_mine.2 (.inl h6)
    · exact mem_mine.2 (.inr (.inl h6))
    · exact mem_mine.2 (.inr (.inr ⟨y, (mem_del.1 hy).1, e6⟩))
/-- an entry in a new block is laid into the map -/
theorem IsIdx.put (h : IsIdx R w x b p m) {e : E} (he : I64 e.id) (hm : m.length < 1000) {g : Nat} {A : Option Addr} {cap : Nat} (hB : BoxE w g e (.slice A e.sv.length cap)) (hS : Svs w e.sv A cap) (hO : Off (g :: (R ++ mine x b p m)) A (strs e.sv)) (hg : g ∉ mine x b p m) (hgR : g ∉ R)
    (hold : ∀ y ∈ m, ∀ A' cap', BoxE w (p y.id) y (.slice A' y.sv.length cap') → Off [g] A' (strs y.sv)) :
    ∃ w', (Instr.mapUpdate 60 (.map (some b)) (.int .i64 e.id) (.pointer (some ⟨g, 0, none⟩))).run Try.prog w = .ok () w' ∧ IsIdx R w' x b (fun i => if i = e.id then g else p i) (En.put m e) ∧ Kept [b] w w' ∧ w'.heap.size = w.heap.size := by
  obtain ⟨D, hD, hH⟩ := h.map
  obtain ⟨w', hr, h1, h2⟩ := hD.store keyedL Try.underlying60 (by unfold maxLen; omega) (keyL e.id he) (ptrElem_mk g)
  have hgr := h2.grown
  have hk : Kept [b] w w' := ⟨hgr.os, hgr.tape, hgr.output, hgr.size, fun k hk hn => hgr.block k hk (fun e => hn (by injection e with e; rw [e]; simp))⟩
  have hsz : w'.heap.size = w.heap.size := by
    obtain ⟨es, c, es', c', -, rfl⟩ := h2
    exact Array.size_setIfInBounds ..
  have hgb : g ≠ b := fun e => hg (mem_mine.2 (.inr (.inl e)))
  have hmine : ∀ k ∈ mine x b (fun i => if i = e.id then g else p i) (En.put m e), k = g ∨ k ∈ mine x b p m := fun k hk => by
    rcases mem_mine.1 hk with h6 | h6 | ⟨y, hy, e6⟩
    · exact .inr (mem_mine.2 (.inl h6))
    · exact .inr (mem_mine.2 (.inr (.inl h6)))
    · rcases mem_put.1 hy with rfl | hy
      · rw [if_pos rfl] at e6; exact .inl e6.symm
      · rw [if_neg hy.2] at e6
        exact .inr (mem_mine.2 (.inr (.inr ⟨y, hy.1, e6⟩)))
  have hlp := len_put h.ok.uq e
  refine ⟨w', hr, ⟨h.ok.put e, fun y hy => ?_, by omega, hk.blk h.box (by simpa using h.xb), ⟨_, ownsMap_trim h1 ?_, hH.put h.ok.uq (hD.tidy keyedL) e g⟩, fun y hy z hz => ?_, fun y hy => ?_, fun k hk => ?_⟩, hk, hsz⟩
  · rcases mem_put.1 hy with rfl | hy
    · exact he
    · exact h.fit y hy.1
  · rw [(hH.put h.ok.uq (hD.tidy keyedL) e g).size]; exact Nat.le_refl _
  · rcases mem_put.1 hy with rfl | hy <;> rcases mem_put.1 hz with rfl | hz
    · exact fun _ => rfl
    · rw [if_pos rfl, if_neg hz.2]
      intro e6
      exact absurd (mem_mine.2 (.inr (.inr ⟨z, hz.1, e6.symm⟩))) hg
    · rw [if_pos rfl, if_neg hy.2]
      intro e6
      exact absurd (mem_mine.2 (.inr (.inr ⟨y, hy.1, e6⟩))) hg
    · rw [if_neg hy.2, if_neg hz.2]
      exact h.inj y hy.1 z hz.1
  · rcases mem_put.1 hy with rfl | hy
    · rw [if_pos rfl]
      refine ⟨A, cap, hk.blk hB (by simpa using hgb), hS.kept (hO.mono fun k hk => ?_) hk, hO.mono fun k hk => ?_⟩
      · rw [List.mem_singleton.1 hk]
        exact List.mem_cons_of_mem _ (List.mem_append_right _ (mem_mine.2 (.inr (.inl rfl))))
      · rcases List.mem_append.1 hk with hk | hk
        · exact List.mem_cons_of_mem _ (List.mem_append_left _ hk)
        · rcases hmine k hk with rfl | h6
          · exact List.mem_cons_self ..
          · exact List.mem_cons_of_mem _ (List.mem_append_right _ h6)
    · rw [if_neg hy.2]
      obtain ⟨A', cap', h3, h4, h5⟩ := h.ent y hy.1
      refine ⟨A', cap', hk.blk h3 (by simpa using (h.px hy.1).2.1), h4.kept (h5.mono fun k hk => ?_) hk, ?_⟩
      · rw [List.mem_singleton.1 hk]
        exact List.mem_append_right _ (mem_mine.2 (.inr (.inl rfl)))
      · have hog := hold y hy.1 A' cap' h3
        rcases h5 with h5 | h5
        · exact .inl h5
        · rcases hog with hog | hog
          · exact .inl hog
          · refine .inr fun ad e1 hm => ?_
            rcases List.mem_append.1 hm with hm | hm
            · exact h5 ad e1 (List.mem_append_left _ hm)
            · rcases hmine _ hm with h6 | h6
              · exact hog ad e1 (by rw [h6]; simp)
              · exact h5 ad e1 (List.mem_append_right _ h6)
  · rcases hmine k hk with rfl | h6
    · exact hgR
    · exact h.out k h6
end
end Go.Proofs.Ytepfbpljkhchbaa
