/-
  Layer 14: All, Items, In of the developers' index: what they answer, of any index. The library's sorting is met by the shelf's contract. Assumed: that the index lies in memory.
-/
import Derived.Test.YtepfbpljkhchbaaEnI
import Derived.Test.YtepfbpljkhchbaaLay14
import Derived.Shelf.SlSortCmp.NoneTotal

namespace Go.Proofs.Ytepfbpljkhchbaa
open Go.RowKit Go.Maps Go.Sort En
set_option maxRecDepth 100000

theorem sortWorld_below14 {α : Type} [Inhabited α] (enc : α → Value) (B : Nat) (w : World) (blk off m : Nat) (dk : Array α) (os : Array Obj) (hB : B ≤ blk) (hb : blk < w.heap.size) : Below B w (sortWorld enc w blk off m dk os) := by
  unfold sortWorld putRow mapBlock
  refine ⟨rfl, rfl, rfl, ?_, fun k hk => ?_⟩
  · rw [size_grow]; simp [Sort.ahead]
  · rw [heap_grow_old _ _ (by simp [Sort.ahead]; omega)]
    simp only [Sort.ahead, Array.getElem?_modify]
    rw [if_neg (by omega)]
theorem add_mid14 (g j : Nat) : (⟨g, 0, none⟩ : Addr).add j = ⟨g, j, none⟩ := by unfold Addr.add; split <;> simp_all
theorem subs14 (m : List E) : ∀ (L : List E), (∀ e ∈ L, e ∈ m) → ∃ d : List {e : E // e ∈ m}, d.map Subtype.val = L
  | [], _ => ⟨[], rfl⟩
  | e :: r, h => by
    obtain ⟨d, hd⟩ := subs14 m r fun k hk => h k (List.mem_cons_of_mem _ hk)
    exact ⟨⟨e, h e (List.mem_cons_self ..)⟩ :: d, by rw [List.map_cons, hd]⟩
def encE (m : List E) (p : Int → Nat) (e : {e : E // e ∈ m}) : Value := .pointer (some ⟨p e.1.id, 0, none⟩)
def cfE (m : List E) (cf : E → E → Int) (a b : {e : E // e ∈ m}) : Int := cf a.1 b.1
theorem swoT : SWO (ltOf cmpT) where
  irrefl x := by rw [ltOf_cmpT, lt_no]; omega
  trans x y z h1 h2 := by rw [ltOf_cmpT, lt_iff] at *; omega
  ntrans x y z h1 h2 := by rw [ltOf_cmpT, lt_no] at *; omega
theorem swoQ : SWO (ltOf cmpQ) where
  irrefl x := by rw [ltOf_cmpQ, ltP_no]; omega
  trans x y z h1 h2 := by rw [ltOf_cmpQ, ltP_iff] at *; omega
  ntrans x y z h1 h2 := by rw [ltOf_cmpQ, ltP_no] at *; omega
theorem swoE (m : List E) {cf : E → E → Int} (h : SWO (ltOf cf)) : SWO (ltOf (cfE m cf)) where
  irrefl x := h.irrefl x.1
  trans x y z h1 h2 := h.trans x.1 y.1 z.1 h1 h2
  ntrans x y z h1 h2 := h.ntrans x.1 y.1 z.1 h1 h2
theorem ptrs_enc (m : List E) (p : Int → Nat) (d : List {e : E // e ∈ m}) : ptrs p (d.map Subtype.val) = d.map (encE m p) := by simp [ptrs, encE]

section
variable {R : List Nat} {w : World} {x b : Nat} {p : Int → Nat} {m : List E}
theorem sortP14 (h : IsIdx R w x b p m) (fn : Nat) (cf : E → E → Int) (hcf : SWO (ltOf cf)) (eg : ∀ args w, (callFunc fn args).run Try.prog w = .ok (.enter fn args) w)
    (hc : ∀ (g k : Nat) (y z : E) (sy sz : Value) (W : World), BoxE W g y sy → BoxE W k z sz → Calls Try.prog fn #[.pointer (some ⟨g, 0, none⟩), .pointer (some ⟨k, 0, none⟩)] W fun e w' => e = .returned (.int .i64 (cf y z)) ∧ Grows W w')
    (W : World) (v : Value) (L : List E) (hW : Below w.heap.size w W) (hL : ∀ e ∈ L, e ∈ m) (hL9 : L.length ≤ 1000) (hown : W.ownsRow w.heap.size 65 1 v L.length (ptrs p L)) :
    Calls Try.prog 60 #[v, .func (.func fn) #[] #[]] W fun e w' => e = .returned (.tuple #[]) ∧ ∃ A cap M, v = .slice A L.length cap ∧ L.length ≤ cap ∧ M.Perm L ∧ M.Pairwise (fun a b => ltOf cf b a = false) ∧ Lies w' A (ptrs p M) ∧ Below w.heap.size W w' := by
  by_cases h0 : L = []
  · subst h0
    obtain ⟨A, cap, rfl, hl⟩ : ∃ A cap, v = .slice A 0 cap ∧ 0 ≤ cap := by
      rcases hown.2 with ⟨rfl, -⟩ | ⟨g, cap, cur, rfl, -⟩
      · exact ⟨none, 0, rfl, Nat.le_refl _⟩
      · exact ⟨_, cap, rfl, Nat.zero_le _⟩
    refine Calls.mono (show Calls Try.prog 60 _ _ _ from AnyF.slices_SortFunc_none Try.sortE0 A cap _ W) ?_
    rintro e w' ⟨rfl, rfl⟩
    exact ⟨rfl, A, cap, [], rfl, hl, .refl _, .nil, .inl rfl, Below.refl _ _⟩
  obtain ⟨e0, he0⟩ := List.exists_mem_of_ne_nil _ h0
  haveI : Inhabited {e : E // e ∈ m} := ⟨⟨e0, hL e0 he0⟩⟩
  rcases hown.2 with ⟨-, h1⟩ | ⟨gm, capm, cur, rfl, hbg, hgh, hlc, hcm, hcs, htk⟩
  · exact absurd (List.eq_nil_of_length_eq_zero h1) h0
  have hgm : gm < W.heap.size := (Array.getElem?_eq_some_iff.1 hgh).1
  obtain ⟨d, rfl⟩ := subs14 m L hL
  have hl : (d.map Subtype.val).length = d.toArray.size := by simp
  have hHo : Holds (encE m p) W gm 0 d.toArray := by
    intro j hj
    have hj' : j < d.length := by simpa using hj
    rw [Nat.zero_add]
    have hB : Blk W gm cur 65 := hgh
    refine ⟨?_, hB.frozen j⟩
    have hcl := hown.cells (g := gm) rfl j (encE m p d[j]) (by rw [ptrs_enc]; simp [hj'])
    rw [add_mid14] at hcl
    rw [hcl, getElem!_pos d.toArray j hj]
    simp
  have hcmp : CmpLays1 Try.prog fn #[] (encE m p) (cfE m cf) gm 0 d.toArray.size W := by
    intro q os dk hs y z
    have hb := sortWorld_below14 (encE m p) gm W gm 0 q dk os (Nat.le_refl _) hgm
    generalize sortWorld (encE m p) W gm 0 q dk os = V at *
    have box : ∀ y : {e : E // e ∈ m}, ∃ s, BoxE V (p y.1.id) y.1 s := fun y => by
      obtain ⟨A, cap, hE, -⟩ := h.ent y.1 y.2
      have hlt : p y.1.id < w.heap.size := Blk.lt hE
      exact ⟨_, (hb.block _ (by omega)).trans ((hW.block _ hlt).trans hE)⟩
    obtain ⟨sy, hy⟩ := box y
    obtain ⟨sz, hz⟩ := box z
    refine (hc _ _ y.1 z.1 sy sz V hy hz).mono ?_
    rintro e w' ⟨rfl, hg⟩
    obtain ⟨k, os', e⟩ := hg.grown
    exact ⟨rfl, k, os', e⟩
  have hcon := Any.slices_SortFunc Try.sortE14 (encE m p) (fun _ => rfl) (cfE m cf) (swoE m hcf) fn #[] gm 0 capm d.toArray W eg hcmp hHo hgm (by rw [← hl]; omega)
  rw [← hl] at hcon
  refine Calls.mono (show Calls Try.prog 60 _ _ _ from hcon) ?_
  rintro e w' ⟨rfl, d', q, os, hp, hs, rfl⟩
  rw [hl] at hp hs
  have hsz : d'.size = d.toArray.size := hp.1
  have hperm : d'.toList.Perm d := by
    have h1 := hp.2.2
    have e1 : d'.extract 0 d.toArray.size = d' := by rw [← hsz]; exact Array.extract_size ..
    have e2 : d.toArray.extract 0 d.toArray.size = d.toArray := Array.extract_size ..
    rw [e1, e2] at h1
    exact h1
  refine ⟨rfl, _, capm, d'.toList.map Subtype.val, rfl, hlc, hperm.map _, ?_, ?_, sortWorld_below14 (encE m p) _ W gm 0 q d' os hbg hgm⟩
  · rw [List.pairwise_map, List.pairwise_iff_getElem]
    intro i j hi hj hij
    have hi' : i < d'.size := by simpa using hi
    have hj' : j < d'.size := by simpa using hj
    have := hs i j (Nat.zero_le _) hij (by rw [← hsz]; exact hj')
    rw [getElem!_pos d' i hi', getElem!_pos d' j hj'] at this
    exact this
  · have h2 := holds_sortWorld (encE m p) W gm 0 q d.toArray d' os hgm hHo hsz
    refine .inr ⟨_, rfl, lt_sortWorld (encE m p) W gm 0 q d' os hgm, fun j u hu => ?_⟩
    rw [add_mid14]
    rw [ptrs_enc] at hu
    have hj : j < d'.size := by
      rcases Nat.lt_or_ge j d'.size with h | h
      · exact h
      · rw [List.getElem?_eq_none (by simpa using h)] at hu; cases hu
    have h3 := (h2 j hj).1
    rw [Nat.zero_add] at h3
    rw [h3, getElem!_pos d' j hj, ← hu]
    simp [hj]

/-- sorted by byTick, all: just the index's list -/
theorem sortedAll14 (h : IsIdx R w x b p m) : Calls Try.prog 49 #[.pointer (some ⟨x, 0, none⟩), .func (.func 54) #[] #[], .func (.func 55) #[] #[]] w fun e w' => ∃ v, e = .returned v ∧ GivesP w w' p m v := by
  refine (sorted14_any h 54 55 #[] (fun _ => true) (ltOf cmpT) (enters_of Try.func54 (by kernel_rfl) rfl) (fun W _ y _ s _ => (isAny14 _ W).mono fun e w' ⟨he, hw⟩ => ⟨he, hw ▸ Below.refl _ _⟩) (fun W v L hW hp ho => sortP14 h 55 cmpT swoT (enters_of Try.func55 (by kernel_rfl) rfl) (fun g k y z sy sz W hy hz => byTick14_any g k y z sy sz W hy hz) W v L hW (fun e he => (List.mem_filter.1 (hp.mem_iff.1 he)).1) (by rw [hp.length_eq]; exact Nat.le_trans (List.length_filter_le ..) h.few) ho)).mono ?_
  rintro e w' ⟨v, M, rfl, hp, hs, hg⟩
  have : M = m := all_uniq h.ok (by rwa [List.filter_eq_self.2 (by simp)] at hp) (hs.imp fun h => by rwa [ltOf_cmpT] at h)
  subst this
  exact ⟨v, rfl, hg⟩
theorem sortedIn14 (h : IsIdx R w x b p m) (s : Int) (k : Nat) (hk : w.cell? ⟨k, 0, none⟩ = some (.int .i64 s)) (hkl : k < w.heap.size) : Calls Try.prog 49 #[.pointer (some ⟨x, 0, none⟩), .func (.func 47) #[] #[.pointer (some ⟨k, 0, none⟩)], .func (.func 50) #[] #[]] w fun e w' => ∃ v, e = .returned v ∧ GivesP w w' p (row m s) v := by
  refine (sorted14_any h 47 50 #[.pointer (some ⟨k, 0, none⟩)] (fun y => y.seq == s) (ltOf cmpQ) (enters_of Try.func47 (by kernel_rfl) rfl) (fun W hW y _ t hB => inF14 _ k s y t W hB ((hW.cell (p := ⟨k, 0, none⟩) hkl).trans hk)) (fun W v L hW hp ho => sortP14 h 50 cmpQ swoQ (enters_of Try.func50 (by kernel_rfl) rfl) (fun g k y z sy sz W hy hz => byPlace14_any g k y z sy sz W hy hz) W v L hW (fun e he => (List.mem_filter.1 (hp.mem_iff.1 he)).1) (by rw [hp.length_eq]; exact Nat.le_trans (List.length_filter_le ..) h.few) ho)).mono ?_
  rintro e w' ⟨v, M, rfl, hp, hs, hg⟩
  have : M = row m s := row_uniq h.ok.uq hp (hs.imp fun h => by rwa [ltOf_cmpQ] at h)
  subst this
  exact ⟨v, rfl, hg⟩

theorem items14_any (h : IsIdx R w x b p m) : Calls Try.prog 35 #[.pointer (some ⟨x, 0, none⟩)] w fun e w' => ∃ v, e = .returned v ∧ w'.ownsRow w.heap.size 30 5 v m.length (flatI (m.map itemE)) ∧ Below w.heap.size w w' := by
  have HS := Lib.hid (sortedAll14 h)
  have HT := Lib.hid (fun (W : World) (hW : Below w.heap.size w W) (A : Option Addr) (cap : Nat) (hA : Lies W A (ptrs p m)) => toldI14 (h.below hW) A m.length cap m rfl (fun _ h => h) h.few hA)
  clear h
  go_enter Try.func35, Try.ntmps35
  go_wp2_with fail
  refine HS.out.mono ?_
  rintro e w1 ⟨v, rfl, A, cap, rfl, -, hA, d1⟩
  have HT1 := Lib.hid (HT.out w1 d1 A cap hA)
  have HD := Lib.hid d1
  clear hA d1 HT HS
  go_wp2_with fail
  refine HT1.out.mono ?_
  rintro e w2 ⟨v2, rfl, ho, d2⟩
  have HO := Lib.hid (own_mono14 ho HD.out.size)
  have HD2 := Lib.hid (HD.out.trans (d2.mono HD.out.size))
  clear ho d2 HT1
  go_wp2
  go_ret
  exact ⟨_, rfl, HO.out, HD2.out⟩
theorem all14_any (h : IsIdx R w x b p m) : Calls Try.prog 32 #[.pointer (some ⟨x, 0, none⟩)] w fun e w' => ∃ v ts, e = .returned v ∧ w'.ownsRow w.heap.size 35 13 v m.length (flatEn ts) ∧ ts.map Ent.e = m ∧ (∀ t ∈ ts, Svs w' t.e.sv t.A t.cap ∧ ∀ ad, t.A = some ad → w.heap.size ≤ ad.block) ∧ Below w.heap.size w w' := by
  have HS := Lib.hid (sortedAll14 h)
  have HT := Lib.hid (fun (W : World) (hW : Below w.heap.size w W) (A : Option Addr) (cap : Nat) (hA : Lies W A (ptrs p m)) => toldE14 (h.below hW) A m.length cap m rfl (fun _ h => h) h.few hA)
  clear h
  go_enter Try.func32, Try.ntmps32
  go_wp2_with fail
  refine HS.out.mono ?_
  rintro e w1 ⟨v, rfl, A, cap, rfl, -, hA, d1⟩
  have HT1 := Lib.hid (HT.out w1 d1 A cap hA)
  have HD := Lib.hid d1
  clear hA d1 HT HS
  go_wp2_with fail
  refine HT1.out.mono ?_
  rintro e w2 ⟨v2, ts, rfl, ho, hts, hok, d2⟩
  have HO := Lib.hid (own_mono14 ho HD.out.size)
  have HD2 := Lib.hid (HD.out.trans (d2.mono HD.out.size))
  have HTS := Lib.hid hts
  have HOK := Lib.hid (show ∀ t ∈ ts, Svs w2 t.e.sv t.A t.cap ∧ ∀ ad, t.A = some ad → w.heap.size ≤ ad.block from fun t ht => ⟨(hok t ht).1, fun ad e => Nat.le_trans HD.out.size ((hok t ht).2 ad e)⟩)
  clear ho d2 HT1 hts hok
  go_wp2
  go_ret
  exact ⟨_, ts, rfl, HO.out, HTS.out, HOK.out, HD2.out⟩
theorem in14_any (h : IsIdx R w x b p m) (s : Int) : Calls Try.prog 29 #[.pointer (some ⟨x, 0, none⟩), .int .i64 s] w fun e w' => ∃ v, e = .returned v ∧ w'.ownsRow w.heap.size 2 1 v (inn m s).length (nums (inn m s)) ∧ Below w.heap.size w w' := by
  have hb : Below w.heap.size w (w.alloc (.cells #[.int .i64 s] 2)) := (Below.refl _ _).alloc (Nat.le_refl _) _
  have hk := Blk.new w #[.int .i64 s] 2
  have HS := Lib.hid (sortedIn14 (h.below hb) s w.heap.size (hk.cell 0) hk.lt)
  have HL := Lib.hid (show (row m s).length ≤ 1000 by
    rw [(row_perm m s).length_eq]; exact Nat.le_trans (List.length_filter_le ..) h.few)
  have HT := Lib.hid (fun (W : World) (hW : Below w.heap.size w W) (A : Option Addr) (cap : Nat) (hA : Lies W A (ptrs p (row m s))) => toldL14 (h.below hW) A (row m s).length cap (row m s) rfl (fun e he => (mem_row.1 he).1) HL.out hA)
  have HB := Lib.hid hb
  have HIL := Lib.hid (show (inn m s).length = (row m s).length by simp [inn])
  clear h hb hk
  go_enter Try.func29, Try.ntmps29
  go_wp2_with fail
  refine HS.out.mono ?_
  rintro e w1 ⟨v, rfl, A, cap, rfl, -, hA, d1⟩
  have hB1 := HB.out.trans (d1.mono HB.out.size)
  have HT1 := Lib.hid (HT.out w1 hB1 A cap hA)
  have HD := Lib.hid hB1
  clear hA d1 HT HS hB1
  go_wp2_with fail
  refine HT1.out.mono ?_
  rintro e w2 ⟨v2, rfl, ho, d2⟩
  have HO := Lib.hid (own_mono14 ho HD.out.size)
  have HD2 := Lib.hid (HD.out.trans (d2.mono HD.out.size))
  clear ho d2 HT1
  go_wp2
  go_ret
  exact ⟨_, rfl, by rw [HIL.out]; exact HO.out, HD2.out⟩
end
end Go.Proofs.Ytepfbpljkhchbaa
