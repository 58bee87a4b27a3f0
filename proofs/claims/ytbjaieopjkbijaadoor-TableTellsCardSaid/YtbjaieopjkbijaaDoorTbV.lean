/-
  Layer 9: Order and Last: what they answer, of any table. The library's sorting is met by the shelf's contract. Assumed: that the extents lie in memory.
-/
import Derived.Test.YtbjaieopjkbijaaDoorTbS
import Derived.Test.YtbjaieopjkbijaaDoorLay9
import Derived.Shelf.SlSortCmp.NoneTotal
import Derived.BigQuiet

namespace Go.Proofs.YtbjaieopjkbijaaDoor
open Go.RowKit Go.Sort
set_option maxRecDepth 100000

theorem fins (n : Nat) : ∀ (M : List Nat), (∀ m ∈ M, m < n) → ∃ d : List (Fin n), d.map Fin.val = M
  | [], _ => ⟨[], rfl⟩
  | m :: r, h => by
    obtain ⟨d, hd⟩ := fins n r fun k hk => h k (List.mem_cons_of_mem _ hk)
    exact ⟨⟨m, h m (List.mem_cons_self ..)⟩ :: d, by rw [List.map_cons, hd]⟩
def encF (n : Nat) (i : Fin n) : Value := .int .i64 (i.val : Int)
def cfF (xs : List Tb.Ext) (n : Nat) (i j : Fin n) : Int := cmpQ (Tb.qAt xs i.val) (Tb.qAt xs j.val)
theorem ltOf_cfF (xs : List Tb.Ext) (n : Nat) (i j : Fin n) : ltOf (cfF xs n) i j = decide (Tb.qAt xs i.val < Tb.qAt xs j.val) := by
  unfold ltOf cfF cmpQ
  rw [decide_eq_decide]
  split
  · rename_i h; simp [h]
  · split
    · rename_i h1 h2; simp; omega
    · rename_i h1 h2; simp; omega
theorem swoF (xs : List Tb.Ext) (n : Nat) : SWO (ltOf (cfF xs n)) where
  irrefl x := by rw [ltOf_cfF]; simp
  trans x y z h1 h2 := by rw [ltOf_cfF, decide_eq_true_eq] at *; omega
  ntrans x y z h1 h2 := by rw [ltOf_cfF, decide_eq_false_iff_not] at *; omega
theorem sortWorld_below {α : Type} [Inhabited α] (enc : α → Value) (B : Nat) (w : World) (blk off m : Nat) (dk : Array α) (os : Array Obj) (hB : B ≤ blk) (hb : blk < w.heap.size) : Below B w (sortWorld enc w blk off m dk os) := by
  unfold sortWorld putRow mapBlock
  refine ⟨rfl, rfl, rfl, ?_, fun k hk => ?_⟩
  · rw [size_grow]; simp [Sort.ahead]
  · rw [heap_grow_old _ _ (by simp [Sort.ahead]; omega)]
    simp only [Sort.ahead, Array.getElem?_modify]
    rw [if_neg (by omega)]
theorem nums_fin {n : Nat} (d : List (Fin n)) : nums (d.map Fin.val) = d.map (encF n) := by simp [nums, encF]

theorem sort_yes (g gm n cap capm : Nat) (xs : List Tb.Ext) (ad : Addr) (M : List Nat) (w : World) (hn : xs.length = n) (h0 : 0 < n) (hM : ∀ m ∈ M, m < n) (hM8 : M.length ≤ 1000)
    (hA : Lies w (some ad) (flatX xs)) (hadg : ad.block < gm) (hbox : w.cell? ⟨g, 2, none⟩ = some (.slice (some ad) n cap)) (hg : g < gm) (hgm : gm < w.heap.size) (hH : ∀ j, j < M.length → w.cell? ⟨gm, j, none⟩ = (nums M)[j]? ∧ w.frozen? ⟨gm, j, none⟩ = false) :
    Calls Tryd.prog 42 #[.slice (some ⟨gm, 0, none⟩) M.length capm, .func (.func 43) #[] #[.pointer (some ⟨g, 0, none⟩)]] w fun e w' => e = .returned (.tuple #[]) ∧ ∃ M' : List Nat, M'.Perm M ∧ M'.Pairwise (fun i j => Tb.qAt xs i ≤ Tb.qAt xs j) ∧ Lies w' (some ⟨gm, 0, none⟩) (nums M') ∧ ∀ B, B ≤ gm → Below B w w' := by
  haveI : Inhabited (Fin n) := ⟨⟨0, h0⟩⟩
  obtain ⟨d, rfl⟩ := fins n M hM
  have hl : (d.map Fin.val).length = d.toArray.size := by simp
  have hHo : Holds (encF n) w gm 0 d.toArray := by
    intro j hj
    have h1 := hH j (by rw [hl]; exact hj)
    rw [Nat.zero_add]
    refine ⟨h1.1.trans ?_, h1.2⟩
    have hj' : j < d.length := by simpa using hj
    rw [nums_fin, getElem!_pos d.toArray j hj]
    simp [hj']
  have eg : ∀ args w, (callFunc 43 args).run Tryd.prog w = .ok (.enter 43 args) w := enters_of Tryd.func43 (by kernel_rfl) rfl
  have hcmp : CmpLays1 Tryd.prog 43 #[.pointer (some ⟨g, 0, none⟩)] (encF n) (cfF xs n) gm 0 d.toArray.size w := by
    intro m os dk hs x y
    have hb := sortWorld_below (encF n) gm w gm 0 m dk os (Nat.le_refl _) hgm
    generalize sortWorld (encF n) w gm 0 m dk os = W at *
    have hx : x.val < xs.length := by rw [hn]; exact x.isLt
    have hy : y.val < xs.length := by rw [hn]; exact y.isLt
    have cell : ∀ k (hk : k < xs.length), W.cell? (ad.add (k * 2)) = some (.int .i64 (Tb.qAt xs k)) := fun k hk => by
      obtain ⟨ad', e, hadb, hc⟩ := at_ext hA k hk
      injection e with e
      subst e
      rw [hb.cell (by rw [addr_block]; exact hadg), Tb.qAt_eq hk]
      exact (hc w (Below.refl _ _)).1
    refine (order2_any g n cap x.val y.val x.isLt y.isLt ad _ _ W ((hb.cell (p := ⟨g, 2, none⟩) hg).trans hbox) (cell _ hx) (cell _ hy)).mono ?_
    rintro e w' ⟨rfl, k, rfl⟩
    exact ⟨rfl, k, #[], by rw [grow_empty]⟩
  have hcon := Any.slices_SortFunc Tryd.sortI9 (encF n) (fun _ => rfl) (cfF xs n) (swoF xs n) 43 #[.pointer (some ⟨g, 0, none⟩)] gm 0 capm d.toArray w eg hcmp hHo hgm (by rw [← hl]; omega)
  rw [← hl] at hcon
  refine Calls.mono (show Calls Tryd.prog 42 _ _ _ from hcon) ?_
  rintro e w' ⟨rfl, d', q, os, hp, hs, rfl⟩
  rw [hl] at hp hs
  have hsz : d'.size = d.toArray.size := hp.1
  have hperm : d'.toList.Perm d := by
    have h1 := hp.2.2
    have e1 : d'.extract 0 d.toArray.size = d' := by rw [← hsz]; exact Array.extract_size ..
    have e2 : d.toArray.extract 0 d.toArray.size = d.toArray := Array.extract_size ..
    rw [e1, e2] at h1
    exact h1
  refine ⟨rfl, d'.toList.map Fin.val, hperm.map _, ?_, ?_, fun B hB => sortWorld_below (encF n) B w gm 0 q d' os hB hgm⟩
  · rw [List.pairwise_map, List.pairwise_iff_getElem]
    intro i j hi hj hij
    have hi' : i < d'.size := by simpa using hi
    have hj' : j < d'.size := by simpa using hj
    have := hs i j (Nat.zero_le _) hij (by rw [← hsz]; exact hj')
    rw [ltOf_cfF, decide_eq_false_iff_not, getElem!_pos d' i hi', getElem!_pos d' j hj'] at this
    simp only [Array.getElem_toList]
    omega
  · have h2 := holds_sortWorld (encF n) w gm 0 q d.toArray d' os hgm hHo hsz
    refine .inr ⟨_, rfl, lt_sortWorld (encF n) w gm 0 q d' os hgm, fun j u hu => ?_⟩
    rw [Addr.add_mid, Nat.zero_add]
    rw [nums_fin] at hu
    have hj : j < d'.size := by
      rcases Nat.lt_or_ge j d'.size with h | h
      · exact h
      · rw [List.getElem?_eq_none (by simpa using h)] at hu; cases hu
    have h3 := (h2 j hj).1
    rw [Nat.zero_add] at h3
    rw [h3, getElem!_pos d' j hj, ← hu]
    simp [hj]
theorem sort_none (cap : Nat) (A : Option Addr) (fv : Value) (w : World) : Calls Tryd.prog 42 #[.slice A 0 cap, fv] w fun e w' => e = .returned (.tuple #[]) ∧ w' = w := AnyF.slices_SortFunc_none Tryd.sortI0 A cap fv w

/-- places that were handed back, to be read -/
def GivesN (w : World) (l : List Nat) (e : Ending) (w' : World) : Prop := ∃ A c, e = .returned (.slice A l.length c) ∧ l.length ≤ c ∧ Lies w' A (nums l) ∧ Below w.heap.size w w'
/-- the same, in memory of their own -/
def GivesF (w : World) (l : List Nat) (e : Ending) (w' : World) : Prop := ∃ A c, e = .returned (.slice A l.length c) ∧ l.length ≤ c ∧ Lies w' A (nums l) ∧ Below w.heap.size w w' ∧ ∀ ad, A = some ad → w.heap.size ≤ ad.block
theorem GivesF.weak {w : World} {l : List Nat} {e : Ending} {w' : World} (h : GivesF w l e w') : GivesN w l e w' := by
  obtain ⟨A, c, h1, h2, h3, h4, -⟩ := h
  exact ⟨A, c, h1, h2, h3, h4⟩
theorem own_fresh {w : World} {B n size c : Nat} {e : TypeId} {A : Option Addr} {xs : List Value} (h : w.ownsRow B e size (.slice A n c) n xs) : ∀ ad, A = some ad → B ≤ ad.block := fun ad ha => by
  rcases h.2 with ⟨h1, -⟩ | ⟨g, cap, cur, h1, h2, -⟩
  · injection h1 with h1; rw [ha] at h1; cases h1
  · injection h1 with h1
    rw [ha] at h1
    injection h1 with h1
    subst h1
    exact h2
theorem MadeI.full {w : World} {l : List Nat} {e : Ending} {w' : World} (h : MadeI w l e w') : GivesF w l e w' := by
  obtain ⟨v, rfl, ho, hb⟩ := h
  obtain ⟨A, c, rfl, h1, -, -, h2⟩ := own_form ho
  exact ⟨A, c, rfl, h1, h2, hb, own_fresh ho⟩
theorem tfree_full (g o : Int) (A : Option Addr) (cap n : Nat) (xs : List Tb.Ext) (w : World) (hn : xs.length = n) (hc : n ≤ cap) (hA : Lies w A (flatX xs)) :
    Calls Tryd.prog 20 #[tabV g o A n cap] w (GivesF w (if Tb.right ⟨g, o, xs⟩ = true then Tb.free xs else [])) := (tfree_any g o A cap n xs w hn hc hA).mono fun _ _ h => h.full
theorem MadeI.gives {w : World} {l : List Nat} {e : Ending} {w' : World} (h : MadeI w l e w') : GivesN w l e w' := by
  obtain ⟨v, rfl, ho, hb⟩ := h
  obtain ⟨A, c, rfl, h1, -, -, h2⟩ := own_form ho
  exact ⟨A, c, rfl, h1, h2, hb⟩
theorem tfree_gives (g o : Int) (A : Option Addr) (cap n : Nat) (xs : List Tb.Ext) (w : World) (hn : xs.length = n) (hc : n ≤ cap) (hA : Lies w A (flatX xs)) :
    Calls Tryd.prog 20 #[tabV g o A n cap] w (GivesN w (if Tb.right ⟨g, o, xs⟩ = true then Tb.free xs else [])) := (tfree_any g o A cap n xs w hn hc hA).mono fun _ _ h => h.gives

set_option maxHeartbeats 2000000 in
theorem torder_full (g o : Int) (A : Option Addr) (cap n : Nat) (xs : List Tb.Ext) (w : World) (hn : xs.length = n) (hc : n ≤ cap) (hA : Lies w A (flatX xs)) :
    Calls Tryd.prog 18 #[tabV g o A n cap] w (GivesF w (if Tb.right ⟨g, o, xs⟩ = true then Tb.ord xs else [])) := by
  unfold GivesF
  have HB0 := Lib.hid ((Below.refl w.heap.size w).alloc (Nat.le_refl _) (.cells #[.int .i64 g, .int .i64 o, .slice A n cap] 24))
  have HBX := Lib.hid (Blk.new w #[.int .i64 g, .int .i64 o, .slice A n cap] 24)
  have HA0 := Lib.hid (hA.below HB0.out)
  have HP := Lib.hid (places_used g o A cap n xs (w.alloc (.cells #[.int .i64 g, .int .i64 o, .slice A n cap] 24)) hn hc HA0.out)
  have HW0 := Lib.hid (show (w.alloc (.cells #[.int .i64 g, .int .i64 o, .slice A n cap] 24)).heap.size = w.heap.size + 1 by simp)
  have HAB := Lib.hid (show ∀ ad, A = some ad → 0 < n → ad.block < w.heap.size from fun ad ha h0 => by
    obtain ⟨ad', e, h1, -⟩ := at_ext hA 0 (by omega)
    rw [ha] at e; injection e with e; subst e; exact h1)
  have HAN := Lib.hid (show 0 < n → ∃ ad, A = some ad from fun h0 => by
    obtain ⟨ad', e, -⟩ := at_ext hA 0 (by omega)
    exact ⟨ad', e⟩)
  have HN := Lib.hid hn
  unfold MadeI at HP
  by_cases hr : Tb.right ⟨g, o, xs⟩ = true
  · rw [if_pos hr] at HP ⊢
    have hR := Tb.right_iff.1 hr
    have HAP := Lib.hid (show Tb.Apart xs from hR.ap)
    have h0 : 0 < n := by have := hR.n1; simp only at this; omega
    obtain ⟨ad, rfl⟩ := HAN.out h0
    have hadb := HAB.out ad rfl h0
    have HU8 := Lib.hid (show (Tb.used xs).length ≤ 1000 from Nat.le_trans (List.length_filter_le _ _) (by rw [List.length_range]; have := hR.n2; simp only at this; omega))
    clear hr hR hA hn
    go_enter Tryd.func18, Tryd.ntmps18
    go_wp2_with fail
    refine HP.out.mono ?_
    rintro e w1 ⟨v, rfl, hown, d1⟩
    have HB1 := Lib.hid (HB0.out.trans (d1.mono HB0.out.size))
    have HA1 := Lib.hid (HA0.out.below d1)
    have HX1 := Lib.hid (HBX.out.below d1 (Nat.le_refl _))
    have HO := Lib.hid hown
    clear d1 HP
    rcases hown.2 with ⟨rfl, hl0⟩ | ⟨gm, capm, cur, rfl, hbg, hbl, hlc, hcm, hcs, htk⟩
    · have HE := Lib.hid (show Tb.ord xs = [] from List.eq_nil_of_length_eq_zero (by rw [(Tb.ord_perm xs).length_eq]; exact hl0))
      clear hown hl0
      go_wp2_with fail
      refine (sort_none 0 none _ w1).mono ?_
      rintro e w2 ⟨rfl, rfl⟩
      go_wp2
      go_ret
      exact ⟨none, 0, by rw [HE.out]; rfl, by rw [HE.out]; exact Nat.le_refl _, by rw [HE.out]; exact Lies.nil, HB1.out, fun _ h => by cases h⟩
    · rw [Nat.mul_one] at htk
      have HS := Lib.hid (sort_yes w.heap.size gm n cap capm xs ad (Tb.used xs) w1 HN.out h0 (fun m hm => by have := (Tb.mem_used.1 hm).1; rw [HN.out] at this; exact this) HU8.out HA1.out (by have := HW0.out; omega) (HX1.out.cell 2) (by have := HW0.out; omega) (Array.getElem?_eq_some_iff.1 hbl).1 (fun j hj => by
        have hb : Blk w1 gm cur 3 := hbl
        refine ⟨?_, hb.frozen j⟩
        rw [hb.cell, ← htk, List.getElem?_take, if_pos hj]
        simp))
      have HGM := Lib.hid (show w.heap.size ≤ gm by have := HW0.out; omega)
      have HLC := Lib.hid hlc
      have HLN := Lib.hid (show (Tb.ord xs).length = (Tb.used xs).length from (Tb.ord_perm xs).length_eq)
      obtain ⟨L, hL⟩ : ∃ L, (Tb.used xs).length = L := ⟨_, rfl⟩
      rw [hL] at HS HLN HLC
      simp only [hL]
      clear hown hbg hbl hlc hcm hcs htk hL HO
      go_wp2_with fail
      refine HS.out.mono ?_
      rintro e w2 ⟨rfl, M', hp, hs, hl, hb⟩
      have HM := Lib.hid (Tb.ord_uniq HAP.out hp hs)
      have HL := Lib.hid hl
      have HB := Lib.hid (HB1.out.trans (hb w.heap.size HGM.out))
      clear hp hs hl hb
      go_wp2
      go_ret
      exact ⟨some ⟨gm, 0, none⟩, capm, by rw [HLN.out]; rfl, by rw [HLN.out]; exact HLC.out, by rw [← HM.out]; exact HL.out, HB.out, fun ad h => by injection h with h; subst h; exact HGM.out⟩
  · rw [if_neg hr] at HP ⊢
    clear hr hA hn
    go_enter Tryd.func18, Tryd.ntmps18
    go_wp2_with fail
    refine HP.out.mono ?_
    rintro e w1 ⟨v, rfl, hown, d1⟩
    have HB1 := Lib.hid (HB0.out.trans (d1.mono HB0.out.size))
    obtain ⟨A1, c1, rfl, h1, -, -, h2⟩ := own_form hown
    have HFR := Lib.hid (show ∀ ad, A1 = some ad → w.heap.size ≤ ad.block from fun ad h => by have := own_fresh hown ad h; have := HW0.out; omega)
    clear d1 HP hown
    go_wp2_with fail
    refine (sort_none c1 A1 _ w1).mono ?_
    rintro e w2 ⟨rfl, rfl⟩
    go_wp2
    go_ret
    exact ⟨A1, c1, rfl, h1, h2, HB1.out, HFR.out⟩

theorem torder_any (g o : Int) (A : Option Addr) (cap n : Nat) (xs : List Tb.Ext) (w : World) (hn : xs.length = n) (hc : n ≤ cap) (hA : Lies w A (flatX xs)) :
    Calls Tryd.prog 18 #[tabV g o A n cap] w (GivesN w (if Tb.right ⟨g, o, xs⟩ = true then Tb.ord xs else [])) := (torder_full g o A cap n xs w hn hc hA).mono fun _ _ h => h.weak

theorem at_num {w : World} {A : Option Addr} {l : List Nat} (h : Lies w A (nums l)) (k : Nat) (hk : k < l.length) : ∃ ad, A = some ad ∧ ad.block < w.heap.size ∧ ∀ u, Below w.heap.size w u → u.cell? (ad.add k) = some (.int .i64 (l[k] : Int)) := by
  obtain ⟨ad, rfl, hb, hc⟩ := h.at_ (k := k) (by unfold nums; rw [List.length_map]; exact hk)
  refine ⟨ad, rfl, hb, fun u hu => (hu.cell (by rw [addr_block]; exact hb)).trans (hc.trans ?_)⟩
  simp [nums]
set_option maxHeartbeats 2000000 in
theorem tlast_any (g o : Int) (A : Option Addr) (cap n : Nat) (xs : List Tb.Ext) (w : World) (hn : xs.length = n) (hc : n ≤ cap) (hA : Lies w A (flatX xs)) :
    Calls Tryd.prog 22 #[tabV g o A n cap] w fun e w' => e = .returned (.int .i64 (if Tb.right ⟨g, o, xs⟩ = true then Tb.last xs else 0)) ∧ Below w.heap.size w w' := by
  have HB0 := Lib.hid ((Below.refl w.heap.size w).alloc (Nat.le_refl _) (.cells #[.int .i64 g, .int .i64 o, .slice A n cap] 24))
  have HBX := Lib.hid (Blk.new w #[.int .i64 g, .int .i64 o, .slice A n cap] 24)
  have HA0 := Lib.hid (hA.below HB0.out)
  have HOR := Lib.hid (torder_any g o A cap n xs (w.alloc (.cells #[.int .i64 g, .int .i64 o, .slice A n cap] 24)) hn hc HA0.out)
  unfold GivesN at HOR
  have HV := Lib.hid (show (if Tb.right ⟨g, o, xs⟩ = true then Tb.ord xs else []) = [] → (if Tb.right ⟨g, o, xs⟩ = true then Tb.last xs else 0) = 0 from fun h => by
    split at h
    · rename_i hr; rw [if_pos hr]; exact Tb.last_none h
    · rename_i hr; rw [if_neg hr])
  have HV2 := Lib.hid (show ∀ l k, (if Tb.right ⟨g, o, xs⟩ = true then Tb.ord xs else []) = l ++ [k] → k < n ∧ (if Tb.right ⟨g, o, xs⟩ = true then Tb.last xs else 0) = Tb.qAt xs k from fun l k h => by
    split at h
    · rename_i hr
      have hR := Tb.right_iff.1 hr
      rw [if_pos hr]
      refine ⟨?_, Tb.last_last (fun x hx => (Tb.okE_iff.1 (hR.ok x hx)).1) h⟩
      have := (Tb.mem_ord.1 (show k ∈ Tb.ord xs by rw [h]; simp)).1
      omega
    · exact absurd h (by simp))
  have HN := Lib.hid hn
  have HL8 := Lib.hid (show (if Tb.right ⟨g, o, xs⟩ = true then Tb.ord xs else []).length ≤ 8 by
    split
    · rename_i hr
      have h8 := (Tb.right_iff.1 hr).n2
      simp only at h8
      rw [(Tb.ord_perm xs).length_eq]
      exact Nat.le_trans (List.length_filter_le _ _) (by rw [List.length_range]; exact h8)
    · simp)
  generalize (if Tb.right ⟨g, o, xs⟩ = true then Tb.ord xs else []) = O at *
  generalize (if Tb.right ⟨g, o, xs⟩ = true then Tb.last xs else 0) = V at *
  clear hA hn
  go_enter Tryd.func22, Tryd.ntmps22
  go_wp2_with fail
  refine HOR.out.mono ?_
  rintro e w1 ⟨A1, c1, rfl, hlc, hl, d1⟩
  have HB1 := Lib.hid (HB0.out.trans (d1.mono HB0.out.size))
  have HA1 := Lib.hid (HA0.out.below d1)
  have HX1 := Lib.hid (HBX.out.below d1 (Nat.le_refl _))
  have HL := Lib.hid hl
  clear d1 HOR hl
  rcases List.eq_nil_or_concat O with rfl | ⟨l, k, rfl⟩
  · have HZ := Lib.hid (HV.out rfl)
    go_wp2
    go_ret
    exact ⟨by rw [HZ.out]; rfl, HB1.out⟩
  · rw [List.concat_eq_append] at *
    obtain ⟨hkn, hv⟩ := HV2.out l k rfl
    have HVK := Lib.hid hv
    have hLL : (l ++ [k]).length = l.length + 1 := by simp
    obtain ⟨ad1, rfl, -, hc1⟩ := at_num HL.out l.length (by rw [hLL]; omega)
    rw [hLL]
    have y0 := hc1 w1 (Below.refl _ _)
    rw [List.getElem_append_right (Nat.le_refl _)] at y0
    simp only [Nat.sub_self, List.getElem_cons_zero] at y0
    have hkl : k < xs.length := by have := HN.out; omega
    obtain ⟨ad, rfl, -, hc2⟩ := at_ext HA1.out k hkl
    have y1 := (hc2 w1 (Below.refl _ _)).1
    rw [← Tb.qAt_eq hkl] at y1
    have z2 : w1.cell? ⟨w.heap.size, 2, none⟩ = some (.slice (some ad) n cap) := HX1.out.cell 2
    have hne : ((l.length : Int) + 1 == 0) = false := by simp; omega
    have hl9 : l.length ≤ 8 := by have := HL8.out; rw [hLL] at this; omega
    generalize Tb.qAt xs k = qk at *
    clear hc1 hc2 hv
    clear hLL
    go_wp2_with fail
    go_quiet (fail)
    go_wp2
    go_ret
    exact ⟨by rw [HVK.out]; rfl, below_many HB1.out _⟩
end Go.Proofs.YtbjaieopjkbijaaDoor
