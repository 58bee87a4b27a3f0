/-
  Layer 7: how a device lies in memory: its sectors, a block of arrays; what was written since, a map of arrays; and what is kept of that. Nothing is assumed.
-/
import Derived.Test.YtehnhjnkbclnlaaGreatDoorMath7
import Derived.Test.YtehnhjnkbclnlaaGreatDoorSec
import Derived.Maps.OwnSet
import Derived.Maps.RangeWalk
import Derived.Maps.Ext

namespace Go.Proofs.YtehnhjnkbclnlaaGreatDoor
open Go.RowKit Go.Maps
set_option maxRecDepth 100000

open Classical in
/-- how an element of the map reads -/
noncomputable def secElem (v : Value) : Option (DataW (List UInt8) × List MemPlace) := if h : ∃ s : List UInt8, s.length = 64 ∧ v = secV s then some (.held h.choose, []) else none
theorem secElem_mk (s : List UInt8) (h : s.length = 64) : secElem (secV s) = some (.held s, []) := by
  have hx : ∃ s' : List UInt8, s'.length = 64 ∧ secV s = secV s' := ⟨s, h, rfl⟩
  unfold secElem
  rw [dif_pos hx, ← secV_inj hx.choose_spec.2]
theorem secElem_inv {v : Value} {z : DataW (List UInt8) × List MemPlace} (h : secElem v = some z) : ∃ s, s.length = 64 ∧ v = secV s ∧ z = (.held s, []) := by
  unfold secElem at h
  split at h
  · rename_i hx
    refine ⟨hx.choose, hx.choose_spec.1, hx.choose_spec.2, ?_⟩
    injection h with h
    exact h.symm
  · cases h

/-! what was written, as the map reads -/
def wList (wr : Nat → Option (List UInt8)) (n : Nat) : List (Lit × DataW (List UInt8)) := (List.range n).filterMap fun i => (wr i).map fun s => (.int .i64 (i : Int), .held s)
def wD (wr : Nat → Option (List UInt8)) (n : Nat) : DataW (List UInt8) := .map (wList wr n)
theorem wList_mem {wr : Nat → Option (List UInt8)} {n : Nat} {p : Lit × DataW (List UInt8)} : p ∈ wList wr n ↔ ∃ i s, i < n ∧ wr i = some s ∧ p = (.int .i64 (i : Int), .held s) := by
  unfold wList
  rw [List.mem_filterMap]
  constructor
  · rintro ⟨i, hi, h⟩
    obtain ⟨s, hs, e⟩ := Option.map_eq_some_iff.1 h
    exact ⟨i, s, List.mem_range.1 hi, hs, e.symm⟩
  · rintro ⟨i, s, hi, hs, rfl⟩
    exact ⟨i, List.mem_range.2 hi, by rw [hs]; rfl⟩
theorem wD_canon (wr : Nat → Option (List UInt8)) (n : Nat) : Canon (wD wr n) := by
  refine ⟨_, rfl, ?_, fun p hp => ?_⟩
  · unfold wList
    refine List.Pairwise.filterMap _ (fun i j (hij : i < j) p hp q hq => ?_) List.pairwise_lt_range
    simp only [Option.map_eq_some_iff] at hp hq
    obtain ⟨s, -, rfl⟩ := hp
    obtain ⟨t, -, rfl⟩ := hq
    simp only [Lit.before, decide_eq_true_eq]
    omega
  · obtain ⟨i, s, -, -, rfl⟩ := wList_mem.1 hp
    trivial
theorem wD_has (wr : Nat → Option (List UInt8)) (n : Nat) (k : Lit) : has (wD wr n) k = true ↔ ∃ i s, i < n ∧ wr i = some s ∧ k = .int .i64 (i : Int) := by
  unfold wD
  rw [has_eq, List.any_eq_true]
  constructor
  · rintro ⟨p, hp, hs⟩
    obtain ⟨i, s, hi, hw, rfl⟩ := wList_mem.1 hp
    exact ⟨i, s, hi, hw, (WideAt.sameKey_eq hs).symm⟩
  · rintro ⟨i, s, hi, hw, rfl⟩
    exact ⟨_, wList_mem.2 ⟨i, s, hi, hw, rfl⟩, WideAt.sameKey_self trivial⟩
theorem wD_hasB (wr : Nat → Option (List UInt8)) (n i : Nat) (hi : i < n) : has (wD wr n) (.int .i64 (i : Int)) = (wr i).isSome := by
  rw [Bool.eq_iff_iff, wD_has]
  constructor
  · rintro ⟨j, s, hj, hw, e⟩
    injection e with _ e
    obtain rfl : i = j := by omega
    rw [hw]; rfl
  · intro h
    obtain ⟨s, hs⟩ := Option.isSome_iff_exists.1 h
    exact ⟨i, s, hi, hs, rfl⟩
theorem wD_at {wr : Nat → Option (List UInt8)} {n i : Nat} {s : List UInt8} (hi : i < n) (hw : wr i = some s) (z : DataW (List UInt8)) : (wD wr n).atKey (.int .i64 (i : Int)) z = .held s := by
  obtain ⟨es, h1, h2, h3⟩ := wD_canon wr n
  have hm : (Lit.int .i64 (i : Int), DataW.held s) ∈ es := by
    have : wList wr n = es := by unfold wD at h1; injection h1
    rw [← this]; exact wList_mem.2 ⟨i, s, hi, hw, rfl⟩
  rw [h1]
  exact WideAt.atKey_mem z trivial (apart_of_rising h2) hm
theorem wD_empty (n : Nat) : wD (fun _ => none) n = .map [] := by
  unfold wD wList
  congr 1
  rw [List.filterMap_eq_nil_iff]
  intro a _
  rfl
theorem wD_size (wr : Nat → Option (List UInt8)) (n : Nat) : Maps.size (wD wr n) ≤ n := by
  unfold wD wList
  rw [size_eq]
  exact Nat.le_trans (List.length_filterMap_le ..) (by simp)
theorem wD_keys (wr : Nat → Option (List UInt8)) (n : Nat) : intKeys (wD wr n) = ((List.range n).filter fun i => (wr i).isSome).map (fun i : Nat => (i : Int)) := by
  unfold wD wList intKeys
  simp only [List.map_filterMap]
  induction List.range n with
  | nil => rfl
  | cons i l ih =>
    cases hw : wr i with
    | none => simpa [hw] using ih
    | some s => simpa [hw, Go.intOf] using ih
theorem wD_put {wr : Nat → Option (List UInt8)} {n i : Nat} (s : List UInt8) (hi : i < n) (hc : Canon ((wD wr n).put (.int .i64 (i : Int)) (.held s))) : (wD wr n).put (.int .i64 (i : Int)) (.held s) = wD (Plain.upd wr i (some s)) n := by
  have hm : IsMap (wD wr n) := ⟨_, rfl⟩
  have hk : WideAt.IsKeyLit (.int .i64 (i : Int)) := trivial
  refine Maps.ext hc (wD_canon _ _) (fun k => ?_) (fun k z h => ?_)
  · by_cases e : k = .int .i64 (i : Int)
    · subst e
      rw [has_put_same hm hk, wD_hasB _ _ _ hi, Plain.upd_same]; rfl
    · rw [has_put_other e, Bool.eq_iff_iff, wD_has, wD_has]
      constructor
      · rintro ⟨j, t, hj, hw, rfl⟩
        exact ⟨j, t, hj, by rw [Plain.upd_ne _ _ (fun e' => e (by rw [e']))]; exact hw, rfl⟩
      · rintro ⟨j, t, hj, hw, rfl⟩
        rw [Plain.upd_ne _ _ (fun e' => e (by rw [e']))] at hw
        exact ⟨j, t, hj, hw, rfl⟩
  · by_cases e : k = .int .i64 (i : Int)
    · subst e
      rw [atKey_put_same hm hk, wD_at hi (Plain.upd_same ..)]
    · rw [has_put_other e] at h
      rw [atKey_put_other e]
      obtain ⟨j, t, hj, hw, rfl⟩ := (wD_has _ _ _).1 h
      rw [wD_at hj hw, wD_at hj (by rw [Plain.upd_ne _ _ (fun e' => e (by rw [e']))]; exact hw)]
theorem ownsMap_trim {H : Type} {P : Program} {k : TypeId} {R : Value → Option (DataW H × List MemPlace)} {w : World} {b m n : Nat} {D : DataW H} (h : w.ownsMap P k R b m D) (hs : Maps.size D ≤ n) : w.ownsMap P k R b n D := by
  obtain ⟨es, clock, hb, F, _, rfl⟩ := h
  have : Maps.size (DataW.map ((es.toList.map (WideElems.rg P k R)).foldr DataW.insert [])) = es.size := by simp [Maps.size, length_sorted]
  exact ⟨es, clock, hb, F, by omega, rfl⟩
theorem ownsMap_block {H : Type} {P : Program} {k : TypeId} {R : Value → Option (DataW H × List MemPlace)} {w w' : World} {b n : Nat} {D : DataW H} (h : w.ownsMap P k R b n D) (e : w'.heap[b]? = w.heap[b]?) : w'.ownsMap P k R b n D := by
  obtain ⟨es, clock, hb, r⟩ := h
  exact ⟨es, clock, e.trans hb, r⟩

/-! sectors in a block -/
/-- the sectors, one behind the other -/
def Kb (w : World) (g n : Nat) (K : Nat → List UInt8) : Prop := ∃ cs, Blk w g cs 69 ∧ cs.size = n * 64 ∧ ∀ i, i < n → w.rangeAt g (i * 64) (cells (K i))
theorem Kb.block {w w' : World} {g n : Nat} {K : Nat → List UInt8} (h : Kb w g n K) (e : w'.heap[g]? = w.heap[g]?) : Kb w' g n K := by
  obtain ⟨cs, h1, h2, h3⟩ := h
  exact ⟨cs, e.trans h1, h2, fun i hi => rangeAt_block (h3 i hi) e⟩
theorem Kb.lt {w : World} {g n : Nat} {K : Nat → List UInt8} (h : Kb w g n K) : g < w.heap.size := by
  obtain ⟨cs, h1, -⟩ := h
  exact h1.lt
theorem Kb.range {w : World} {g n : Nat} {K : Nat → List UInt8} (h : Kb w g n K) {i : Nat} (hi : i < n) : w.rangeAt g (i * 64) (cells (K i)) := by
  obtain ⟨cs, h1, h2, h3⟩ := h
  exact h3 i hi
theorem Kb.there {w : World} {g n : Nat} {K : Nat → List UInt8} (h : Kb w g n K) {i : Nat} (hi : i < n) : w.there g (i * 64) 64 := by
  obtain ⟨cs, h1, h2, h3⟩ := h
  intro j hj
  refine ⟨?_, h1.frozen _⟩
  rw [h1.cell]
  have : i * 64 + j < cs.size := by rw [h2]; omega
  simp [this]
/-- a whole sector is stored -/
theorem Kb.store {w : World} {g n : Nat} {K : Nat → List UInt8} (h : Kb w g n K) (hK : ∀ i, i < n → (K i).length = 64) {i : Nat} (hi : i < n) (s : List UInt8) (hs : s.length = 64) : Kb (w.setCells g (i * 64) (cells s)) g n (Plain.upd K i s) := by
  have ht := h.there hi
  obtain ⟨cs, h1, h2, h3⟩ := h
  obtain ⟨cs', h4, h5⟩ := h1.setCells (cells s) (i * 64)
  refine ⟨cs', h4, by omega, fun j hj => ?_⟩
  by_cases e : j = i
  · subst e
    rw [Plain.upd_same]
    exact World.rangeAt_setCells_same w g _ _ (by rw [cells_length, hs]; exact ht)
  · rw [Plain.upd_ne _ _ e]
    refine World.rangeAt_setCells_apart (h3 j hj) g _ _ (.inr ?_)
    rw [cells_length, cells_length, hs, hK j hj]
    omega
/-- one byte is stored -/
theorem Kb.byte {w : World} {g n : Nat} {K : Nat → List UInt8} (h : Kb w g n K) (hK : ∀ i, i < n → (K i).length = 64) {i j : Nat} (hi : i < n) (hj : j < 64) (c : UInt8) : Kb (w.setCell ⟨g, i * 64 + j, none⟩ (.int .u8 (c.toNat : Int))) g n (Plain.upd K i ((K i).set j c)) := by
  obtain ⟨cs, h1, h2, h3⟩ := h
  have h4 := h1.set (i * 64 + j) (.int .u8 (c.toNat : Int))
  refine ⟨_, h4, by simpa using h2, fun k hk => fun m v hv => ?_⟩
  rw [h4.cell]
  have hb := h3 k hk
  by_cases e : k = i
  · subst e
    rw [Plain.upd_same] at hv
    have hm : m < 64 := by
      rcases Nat.lt_or_ge m 64 with h | h
      · exact h
      · rw [List.getElem?_eq_none (by simp [cells, hK k hi]; exact h)] at hv; cases hv
    by_cases e2 : m = j
    · subst e2
      have hlt : m < (K k).length := by rw [hK k hi]; exact hm
      have hsz : k * 64 + m < cs.size := by rw [h2]; omega
      simp [cells, hlt] at hv
      simp [hsz, hv]
    · have := hb m v (by
        simp only [cells, List.getElem?_map] at hv ⊢
        rw [List.getElem?_set_ne (Ne.symm e2)] at hv
        exact hv)
      rw [h1.cell] at this
      rw [Array.getElem?_setIfInBounds_ne (by omega)]
      exact this
  · rw [Plain.upd_ne _ _ e] at hv
    have hm : m < 64 := by
      rcases Nat.lt_or_ge m 64 with h | h
      · exact h
      · rw [List.getElem?_eq_none (by simp [cells, hK k hk]; exact h)] at hv; cases hv
    have := hb m v hv
    rw [h1.cell] at this
    rw [Array.getElem?_setIfInBounds_ne (by omega)]
    exact this
theorem Kb.made (w : World) (n : Nat) : Kb (w.alloc (.cells (madeCells (cells (Plain.full 0)).toArray (n * 64)) 69)) w.heap.size n (fun _ => Plain.full 0) := by
  have hb := Blk.new w (madeCells (cells (Plain.full 0)).toArray (n * 64)) 69
  refine ⟨_, hb, size_madeCells _ _, fun i hi j v hv => ?_⟩
  rw [hb.cell]
  have hj : j < 64 := by
    rcases Nat.lt_or_ge j 64 with h | h
    · exact h
    · rw [List.getElem?_eq_none (by rw [cells_length, Plain.full_length]; exact h)] at hv; cases hv
  have hk : i * 64 + j < n * 64 := by omega
  have e : (i * 64 + j) % 64 = j := by omega
  have hs : (cells (Plain.full 0)).toArray.size = 64 := by simp [cells, Plain.full]
  have hjs : j < (cells (Plain.full 0)).toArray.size := by omega
  simp only [madeCells, hs, Array.getElem?_map]
  rw [Array.getElem?_range, if_pos hk]
  simp only [Option.map_some, e]
  rw [← hv]
  have hjl : j < (cells (Plain.full 0)).length := by rw [cells_length, Plain.full_length]; exact hj
  rw [getElem!_pos (cells (Plain.full 0)).toArray j hjs, List.getElem?_eq_getElem hjl]
  simp

/-- a device: three blocks, one behind the other -/
structure IsDev (w : World) (g : Nat) (d : Plain.Dv) : Prop where
  ok : d.Ok
  box : Blk w (g + 2) #[.slice (some ⟨g, 0, none⟩) d.n d.n, .map (some (g + 1)), .bool d.down, .bool d.cut, .int .i64 (d.left : Int), .int .i64 (d.done : Int)] 60
  kept : Kb w g d.n d.kept
  map : w.ownsMap Tryz.prog 3 secElem (g + 1) d.n (wD d.wr d.n)
theorem IsDev.lt {w : World} {g : Nat} {d : Plain.Dv} (h : IsDev w g d) : g + 2 < w.heap.size := h.box.lt
theorem IsDev.keep {w w' : World} {g : Nat} {d : Plain.Dv} {S : List Nat} (h : IsDev w g d) (k : Kept S w w') (h0 : g ∉ S) (h1 : g + 1 ∉ S) (h2 : g + 2 ∉ S) : IsDev w' g d :=
  ⟨h.ok, k.blk h.box h2, h.kept.block (k.block g (by have := h.lt; omega) h0), ownsMap_block h.map (k.block (g + 1) (by have := h.lt; omega) h1)⟩
theorem IsDev.below {w w' : World} {g : Nat} {d : Plain.Dv} (h : IsDev w g d) (k : Below w.heap.size w w') : IsDev w' g d := h.keep (Kept.of k []) (by simp) (by simp) (by simp)

theorem keyedI : Keyed Tryz.prog 3 := int_keyed Tryz.underlying3
theorem zeroSec (w : World) : (zeroValue 69).run Tryz.prog w = .ok (secV (Plain.full 0)) w := by kernel_rfl
theorem infoSec : (Tryz.prog.info? 69).map (fun i => (i.zero, i.size, i.bytes)) = some (some (secV (Plain.full 0)), 64, 64) := by kernel_rfl
theorem sizeSec : (Tryz.prog.info? 69).map (·.size) = some 64 := by kernel_rfl
theorem keyI (i : Nat) (hi : i < 4294967296) : keyOf Tryz.prog 3 (.int .i64 (i : Int)) = some (.int .i64 (i : Int)) := keyOf_int_mk Tryz.underlying3 (WalkArith.wf_i64 (by omega))
/-- a whole sector is read -/
theorem run_loadSec (w : World) (b o : Nat) (s : List UInt8) (hs : s.length = 64) (h : w.rangeAt b o (cells s)) : (Instr.loadAt 69 (.pointer (some ⟨b, o, none⟩))).run Tryz.prog w = .ok (secV s) w :=
  run_loadAt_mid w b o _ (cells s) _ h Tryz.underlying69 rfl (by rw [sizeSec, cells_length, hs])
/-- a whole sector is written -/
theorem run_storeSec (w : World) (b o : Nat) (s : List UInt8) (hs : s.length = 64) (h : w.there b o 64) : (Instr.storeAt 69 (.pointer (some ⟨b, o, none⟩)) (secV s)).run Tryz.prog w = .ok () (w.setCells b o (cells s)) := by
  have := run_storeAt_mid (P := Tryz.prog) w b o 69 (cells s).toArray (by simpa [cells_length, hs] using h) (by rw [sizeSec]; simp [cells_length, hs]) (cells_one' s)
  simpa [secV] using this
end Go.Proofs.YtehnhjnkbclnlaaGreatDoor
