/-
  Layer 14: entry.told, of Ids, of Items, of entries: what it answers, of any pointers to an index's entries; rows of entries. Assumed: that these lie in memory.
-/
import Derived.Test.YtepfbpljkhchbaaEnH

namespace Go.Proofs.Ytepfbpljkhchbaa
open Go.RowKit Go.Maps En
set_option maxRecDepth 100000

/-- an entry in a row, with where its services lie -/
structure Ent where
  e : E
  A : Option Addr
  cap : Nat
instance : Inhabited Ent := ⟨⟨default, none, 0⟩⟩
def entCs (t : Ent) : List Value := (enA t.e (.slice t.A t.e.sv.length t.cap)).toList
theorem entCs_length (t : Ent) : (entCs t).length = 13 := rfl
def flatEn (ts : List Ent) : List Value := ts.flatMap entCs
theorem flatEn_length (ts : List Ent) : (flatEn ts).length = ts.length * 13 := by
  induction ts with
  | nil => rfl
  | cons x xs ih => simp only [flatEn, List.flatMap_cons, List.length_append, List.length_cons, entCs_length] at ih ⊢; omega
theorem flatEn_append (xs ys : List Ent) : flatEn (xs ++ ys) = flatEn xs ++ flatEn ys := by simp [flatEn]
theorem flatEn_snoc (xs : List Ent) (t : Ent) : flatEn (xs ++ [t]) = flatEn xs ++ entCs t := by simp [flatEn]
theorem flatEn_one (ts : List Ent) : ∀ u ∈ flatEn ts, u.oneCell' = true := by
  intro u hu
  obtain ⟨x, _, hx⟩ := List.mem_flatMap.1 hu
  exact enA_one _ _ _ _ u hx
theorem flatEn_at (ts : List Ent) (i j : Nat) (t : Ent) (h : ts[i]? = some t) (hj : j < 13) : (flatEn ts)[i * 13 + j]? = (entCs t)[j]? := by
  induction ts generalizing i with
  | nil => simp at h
  | cons y ys ih =>
    cases i with
    | zero =>
      simp only [List.getElem?_cons_zero, Option.some.injEq] at h
      subst h
      simp only [flatEn, List.flatMap_cons]
      rw [List.getElem?_append_left (by rw [entCs_length]; omega)]
      simp
    | succ i =>
      have := ih i (by simpa using h)
      simp only [flatEn, List.flatMap_cons] at this ⊢
      rw [List.getElem?_append_right (by rw [entCs_length]; omega), entCs_length, show (i + 1) * 13 + j - 13 = i * 13 + j by omega]
      exact this
/-- the entries' services are there, off some blocks -/
def EntOk (S : List Nat) (w : World) (ts : List Ent) : Prop := ∀ t ∈ ts, Svs w t.e.sv t.A t.cap ∧ Off S t.A (strs t.e.sv)
theorem EntOk.kept {S S' : List Nat} {w w' : World} {ts : List Ent} (h : EntOk S w ts) (k : Kept S' w w') (hS : ∀ s ∈ S', s ∈ S ∨ w.heap.size ≤ s) : EntOk S w' ts := fun t ht => by
  obtain ⟨h1, h2⟩ := h t ht
  refine ⟨⟨h1.few, h1.le, h1.cap, ?_⟩, h2⟩
  rcases h1.lies with h3 | ⟨ad, e1, hb, hc⟩
  · exact .inl h3
  · rcases h2 with h2 | h2
    · exact .inl h2
    · have hn : ad.block ∉ S' := fun hm => by
        rcases hS _ hm with h | h
        · exact h2 ad e1 h
        · omega
      exact .inr ⟨ad, e1, Nat.lt_of_lt_of_le hb k.size, fun j u hu => (World.cell?_of_block (by rw [addr_block]; exact k.block _ hb hn)).trans (hc j u hu)⟩
theorem EntOk.below {S : List Nat} {w w' : World} {ts : List Ent} (h : EntOk S w ts) (k : Below w.heap.size w w') : EntOk S w' ts := h.kept (Kept.of k []) (by simp)
theorem EntOk.more {S S' : List Nat} {w : World} {ts : List Ent} (h : EntOk S w ts) (hS : ∀ s ∈ S', s ∈ S ∨ w.heap.size ≤ s) : EntOk S' w ts := fun t ht => by
  obtain ⟨h1, h2⟩ := h t ht
  refine ⟨h1, ?_⟩
  rcases h2 with h2 | h2
  · exact .inl h2
  · rcases h1.lies with h4 | ⟨ad, e1, hb, hc⟩
    · exact .inl h4
    · refine .inr fun ad' e2 hm => ?_
      rw [e1] at e2; injection e2 with e2; subst e2
      rcases hS _ hm with h5 | h5
      · exact h2 ad e1 h5
      · omega

theorem grown_kept {w w' : World} {row : Option Nat} (hg : w.grownBy w' row) : Kept row.toList w w' := ⟨hg.os, hg.tape, hg.output, hg.size, fun k hk hn => hg.block k hk (fun e => hn (by rw [← e]; simp))⟩
theorem at_ptr {w : World} {A : Option Addr} {p : Int → Nat} {l : List E} (h : Lies w A (ptrs p l)) (k : Nat) (hk : k < l.length) :
    ∃ ad, A = some ad ∧ ad.block < w.heap.size ∧ ∀ u, Below w.heap.size w u → u.cell? (ad.add k) = some (.pointer (some ⟨p l[k].id, 0, none⟩)) := by
  obtain ⟨ad, rfl, hadb, hc⟩ := h.at_ (k := k) (by rw [ptrs_length]; exact hk)
  refine ⟨ad, rfl, hadb, fun u hu => (hu.cell (by rw [addr_block]; exact hadb)).trans ?_⟩
  rw [hc]; simp [ptrs]

section
variable {R : List Nat} {w : World} {x b : Nat} {p : Int → Nat} {m : List E}
theorem idOf14 (g : Nat) (y : E) (s : Value) (w : World) (hB : BoxE w g y s) : Calls Try.prog 51 #[.pointer (some ⟨g, 0, none⟩)] w fun e w' => e = .returned (.int .i64 y.id) ∧ w' = w := by
  obtain ⟨c0, -⟩ := hB.all
  clear hB
  go_enter Try.func51, Try.ntmps51
  go_wp2
  go_ret
  exact ⟨rfl, rfl⟩
theorem itemOf14 (g : Nat) (y : E) (s : Value) (w : World) (hB : BoxE w g y s) : Calls Try.prog 57 #[.pointer (some ⟨g, 0, none⟩)] w fun e w' => e = .returned (itV (itemE y)) ∧ Below w.heap.size w w' := by
  have hlt := Blk.lt hB
  obtain ⟨c0, c1, c2, c3, c4, -⟩ := hB.all
  clear hB
  obtain ⟨yid, ycl, yti, yco, ypi, ybi, ylo, yhi, yma, ysv, yse, ypl, ysz⟩ := y
  simp only [itV, itemE] at *
  go_enter Try.func57, Try.ntmps57
  go_wp2
  refine bodyPost_ret (v := .agg #[.int .i64 yid, .int .i64 ycl, .int .i64 yti, .int .i64 yco, .bool ypi]) (by simp [results, Try.results57, go_sem]) rfl ?_
  exact ⟨rfl, (Below.refl _ _).alloc (Nat.le_refl _) _⟩
theorem nums_append14 (a b : List Int) : nums (a ++ b) = nums a ++ nums b := by simp [nums]

set_option maxHeartbeats 4000000 in
theorem toldL14 (h : IsIdx R w x b p m) (A : Option Addr) (n cap : Nat) (M : List E) (hn : M.length = n) (hM : ∀ y ∈ M, y ∈ m) (h1 : n ≤ 1000) (hA : Lies w A (ptrs p M)) :
    Calls Try.prog 48 #[.slice A n cap, .func (.func 51) #[] #[]] w fun e w' => ∃ v, e = .returned v ∧ w'.ownsRow w.heap.size 2 1 v M.length (nums (M.map E.id)) ∧ Below w.heap.size w w' := by
  obtain ⟨i0, hi, hz0, hz1, hz2⟩ := info_parts infoL
  have HA := Lib.hid hA
  have HN := Lib.hid hn
  have HI := Lib.hid h
  have HM := Lib.hid hM
  clear hA h hM
  go_enter Try.func48, Try.ntmps48
  go_wp2
  go_loopw [5, 10] (fun s5 s10 wr => ∃ k : Nat, s10 = .int .i64 (k : Int) ∧ k ≤ n ∧ wr.ownsRow w.heap.size 2 1 s5 k (nums ((M.take k).map E.id)) ∧ Below w.heap.size w wr) (fun _ i _ => n - (intOf i).toNat)
  case atStart => exact ⟨0, rfl, Nat.zero_le _, World.ownsRow_nil _ _ _ _, Below.refl _ _⟩
  case round =>
    obtain ⟨k, rfl, hk, hrow, hbr⟩ := hrel
    have HROW := Lib.hid hrow
    have HBR := Lib.hid hbr
    clear hrow
    by_cases hlt : k < n
    · have hka : k < M.length := by rw [HN.out]; exact hlt
      obtain ⟨ad, rfl, hadb, hcl⟩ := at_ptr HA.out k hka
      have c0 := hcl wr hbr
      have HT1 := Lib.hid (show M.take (k + 1) = M.take k ++ [M[k]] from List.take_succ_eq_append_getElem hka)
      obtain ⟨A1, cap1, hE, hS, -⟩ := HI.out.ent M[k] (HM.out _ (List.getElem_mem hka))
      clear hcl
      generalize M[k] = y at *
      have HOF := Lib.hid (fun (W : World) (hW : Below w.heap.size w W) => idOf14 (p y.id) y _ W (BoxE.below hE hW))
      clear hE hS
      go_wp2_with fail
      refine (HOF.out wr HBR.out).mono ?_
      rintro e w2 ⟨rfl, rfl⟩
      have HTN := Lib.hid (show nums ((M.take k).map E.id) ++ [.int .i64 y.id] = nums ((M.take (k + 1)).map E.id) by rw [HT1.out, List.map_append, nums_append14]; rfl)
      generalize nums ((M.take k).map E.id) = F0 at *
      go_wp2_with (at_builtin; refine wpList_appK rfl _ _ 48 rfl w.heap.size 2 i0 (.int .i64 0) 1 8 Try.underlying48 hi hz0 hz1 hz2 rfl (by decide) _ k F0 rfl ?b1 (some ⟨w2.heap.size, 0, none⟩) 1 1 [.int .i64 y.id] rfl rfl ?b2 ?b3 ?b4 ?b5 ?b6 ?b7)
      case b1 => exact HROW.out.alloc _
      case b2 => exact Lies.new w2 #[.int .i64 y.id] _
      case b3 => simp [Value.oneCell']
      case b4 => unfold maxLen; omega
      case b5 => omega
      case b6 => have := HBR.out.size; simp; omega
      case b7 =>
        intro v3 w3 hown3 hg3 _
        have HB3 := Lib.hid ((HBR.out.alloc HBR.out.size (.cells #[.int .i64 y.id] 2)).grown hg3 (Nat.le_trans HBR.out.size (by simp)) (fun g e => by
          rcases HROW.out.2 with ⟨e2, -⟩ | ⟨g', cap, cur, e2, hbg, -⟩
          · rw [e2] at e; cases e
          · rw [e2] at e; injection e with e; rw [← e]; exact hbg))
        rw [HTN.out] at hown3
        have HO3 := Lib.hid hown3
        clear hown3 hg3
        go_wp2
        go_roundw
        case rel => exact ⟨k + 1, by go_num, by omega, HO3.out, HB3.out⟩
        case measure => simp [intOf]; omega
    · obtain rfl : k = n := by omega
      have HRE := Lib.hid (show nums ((M.take k).map E.id) = nums (M.map E.id) by rw [List.take_of_length_le (by rw [HN.out]; omega)])
      have HB := HBR.out
      go_wp2
      go_ret
      exact ⟨_, rfl, by rw [HN.out, ← HRE.out]; exact HROW.out, HB⟩

set_option maxHeartbeats 4000000 in
theorem toldI14 (h : IsIdx R w x b p m) (A : Option Addr) (n cap : Nat) (M : List E) (hn : M.length = n) (hM : ∀ y ∈ M, y ∈ m) (h1 : n ≤ 1000) (hA : Lies w A (ptrs p M)) :
    Calls Try.prog 56 #[.slice A n cap, .func (.func 57) #[] #[]] w fun e w' => ∃ v, e = .returned v ∧ w'.ownsRow w.heap.size 30 5 v M.length (flatI (M.map itemE)) ∧ Below w.heap.size w w' := by
  obtain ⟨i0, hi, hz0, hz1, hz2⟩ := info_parts infoIt
  have HA := Lib.hid hA
  have HN := Lib.hid hn
  have HI := Lib.hid h
  have HM := Lib.hid hM
  clear hA h hM
  go_enter Try.func56, Try.ntmps56
  go_wp2
  go_loopw [5, 10] (fun s5 s10 wr => ∃ k : Nat, s10 = .int .i64 (k : Int) ∧ k ≤ n ∧ wr.ownsRow w.heap.size 30 5 s5 k (flatI ((M.take k).map itemE)) ∧ Below w.heap.size w wr) (fun _ i _ => n - (intOf i).toNat)
  case atStart => exact ⟨0, rfl, Nat.zero_le _, World.ownsRow_nil _ _ _ _, Below.refl _ _⟩
  case round =>
    obtain ⟨k, rfl, hk, hrow, hbr⟩ := hrel
    have HROW := Lib.hid hrow
    have HBR := Lib.hid hbr
    clear hrow
    by_cases hlt : k < n
    · have hka : k < M.length := by rw [HN.out]; exact hlt
      obtain ⟨ad, rfl, hadb, hcl⟩ := at_ptr HA.out k hka
      have c0 := hcl wr hbr
      have HT1 := Lib.hid (show M.take (k + 1) = M.take k ++ [M[k]] from List.take_succ_eq_append_getElem hka)
      obtain ⟨A1, cap1, hE, hS, -⟩ := HI.out.ent M[k] (HM.out _ (List.getElem_mem hka))
      clear hcl
      generalize M[k] = y at *
      have HOF := Lib.hid (fun (W : World) (hW : Below w.heap.size w W) => itemOf14 (p y.id) y _ W (BoxE.below hE hW))
      clear hE hS
      go_wp2_with fail
      refine (HOF.out wr HBR.out).mono ?_
      rintro e w2 ⟨rfl, d2⟩
      have HROW2 := Lib.hid (row_keep HROW.out d2)
      have HBR2 := Lib.hid (HBR.out.trans (d2.mono HBR.out.size))
      have HTN := Lib.hid (show flatI ((M.take k).map itemE) ++ itCells (itemE y) = flatI ((M.take (k + 1)).map itemE) by rw [HT1.out, List.map_append, flatI_append]; simp [flatI])
      generalize flatI ((M.take k).map itemE) = F0 at *
      clear d2
      obtain ⟨yid, ycl, yti, yco, ypi, ybi, ylo, yhi, yma, ysv, yse, ypl, ysz⟩ := y
      simp only [itV, itemE, itCells] at *
      go_wp2_with (at_builtin; refine wpList_appK rfl _ _ 54 rfl w.heap.size 30 i0 (.agg #[.int .i64 0, .int .i64 0, .int .i64 0, .int .i64 0, .bool false]) 5 40 Try.underlying54 hi hz0 hz1 hz2 rfl (by decide) _ k F0 rfl ?b1 (some ⟨w2.heap.size, 0, none⟩) 1 1 [.int .i64 yid, .int .i64 ycl, .int .i64 yti, .int .i64 yco, .bool ypi] rfl rfl ?b2 ?b3 ?b4 ?b5 ?b6 ?b7)
      case b1 => exact HROW2.out.alloc _
      case b2 => exact Lies.new w2 #[.int .i64 yid, .int .i64 ycl, .int .i64 yti, .int .i64 yco, .bool ypi] _
      case b3 => simp [Value.oneCell']
      case b4 => unfold maxLen; omega
      case b5 => omega
      case b6 => have := HBR2.out.size; simp; omega
      case b7 =>
        intro v3 w3 hown3 hg3 _
        have HB3 := Lib.hid ((HBR2.out.alloc HBR2.out.size (.cells #[.int .i64 yid, .int .i64 ycl, .int .i64 yti, .int .i64 yco, .bool ypi] 30)).grown hg3 (Nat.le_trans HBR2.out.size (by simp)) (fun g e => by
          rcases HROW2.out.2 with ⟨e2, -⟩ | ⟨g', cap, cur, e2, hbg, -⟩
          · rw [e2] at e; cases e
          · rw [e2] at e; injection e with e; rw [← e]; exact hbg))
        rw [HTN.out] at hown3
        have HO3 := Lib.hid hown3
        clear hown3 hg3
        go_wp2
        go_roundw
        case rel => exact ⟨k + 1, by go_num, by omega, HO3.out, HB3.out⟩
        case measure => simp [intOf]; omega
    · obtain rfl : k = n := by omega
      have HRE := Lib.hid (show flatI ((M.take k).map itemE) = flatI (M.map itemE) by rw [List.take_of_length_le (by rw [HN.out]; omega)])
      have HB := HBR.out
      go_wp2
      go_ret
      exact ⟨_, rfl, by rw [HN.out, ← HRE.out]; exact HROW.out, HB⟩

set_option maxHeartbeats 8000000 in
theorem toldE14 (h : IsIdx R w x b p m) (A : Option Addr) (n cap : Nat) (M : List E) (hn : M.length = n) (hM : ∀ y ∈ M, y ∈ m) (h1 : n ≤ 1000) (hA : Lies w A (ptrs p M)) :
    Calls Try.prog 53 #[.slice A n cap, .func (.func 44) #[] #[]] w fun e w' => ∃ v ts, e = .returned v ∧ w'.ownsRow w.heap.size 35 13 v M.length (flatEn ts) ∧ ts.map Ent.e = M ∧ (∀ t ∈ ts, Svs w' t.e.sv t.A t.cap ∧ ∀ ad, t.A = some ad → w.heap.size ≤ ad.block) ∧ Below w.heap.size w w' := by
  obtain ⟨i0, hi, hz0, hz1, hz2⟩ := info_parts infoEn
  have HA := Lib.hid hA
  have HN := Lib.hid hn
  have HI := Lib.hid h
  have HM := Lib.hid hM
  clear hA h hM
  go_enter Try.func53, Try.ntmps53
  go_wp2
  go_loopw [5, 10] (fun s5 s10 wr => ∃ (k : Nat) (ts : List Ent), s10 = .int .i64 (k : Int) ∧ k ≤ n ∧ wr.ownsRow w.heap.size 35 13 s5 k (flatEn ts) ∧ ts.map Ent.e = M.take k ∧ (∀ t ∈ ts, Svs wr t.e.sv t.A t.cap ∧ (∀ ad, t.A = some ad → w.heap.size ≤ ad.block) ∧ Off s5.ownBlock.toList t.A (strs t.e.sv)) ∧ Below w.heap.size w wr) (fun _ i _ => n - (intOf i).toNat)
  case atStart => exact ⟨0, [], rfl, Nat.zero_le _, World.ownsRow_nil _ _ _ _, by simp, by simp, Below.refl _ _⟩
  case round =>
    obtain ⟨k, ts, rfl, hk, hrow, hts, hok, hbr⟩ := hrel
    have HROW := Lib.hid hrow
    have HBR := Lib.hid hbr
    have HTS := Lib.hid hts
    have HOKT := Lib.hid hok
    clear hrow hts hok
    by_cases hlt : k < n
    · have hka : k < M.length := by rw [HN.out]; exact hlt
      obtain ⟨ad, rfl, hadb, hcl⟩ := at_ptr HA.out k hka
      have c0 := hcl wr hbr
      have HT1 := Lib.hid (show M.take (k + 1) = M.take k ++ [M[k]] from List.take_succ_eq_append_getElem hka)
      obtain ⟨A1, cap1, hE, hS, -⟩ := HI.out.ent M[k] (HM.out _ (List.getElem_mem hka))
      clear hcl
      generalize M[k] = y at *
      obtain ⟨ny, hny⟩ : ∃ ny, y.sv.length = ny := ⟨_, rfl⟩
      rw [hny] at hE
      have HOF := Lib.hid (fun (W : World) (hW : Below w.heap.size w W) => own14_any (p y.id) y A1 ny cap1 W hny (BoxE.below hE hW) (hS.below hW))
      have HNY := Lib.hid hny
      have HNY9 := Lib.hid (show ny ≤ 9000 by have := hS.few; omega)
      clear hE hS hny
      go_wp2_with fail
      refine (HOF.out wr HBR.out).mono ?_
      rintro e w2 ⟨v, rfl, ho, d2⟩
      obtain ⟨A', cap', rfl, hS', hfr⟩ := row_svs ho HNY.out HNY9.out
      have HROW2 := Lib.hid (row_keep HROW.out d2)
      have HBR2 := Lib.hid (HBR.out.trans (d2.mono HBR.out.size))
      have HS2 := Lib.hid hS'
      have HFR := Lib.hid hfr
      have HOK2 := Lib.hid (show ∀ t ∈ ts, Svs w2 t.e.sv t.A t.cap ∧ (∀ ad, t.A = some ad → w.heap.size ≤ ad.block) ∧ Off u5.ownBlock.toList t.A (strs t.e.sv) from fun t ht => ⟨(HOKT.out t ht).1.below d2, (HOKT.out t ht).2⟩)
      have HLR := Lib.hid (show ∀ g, u5.ownBlock = some g → g < wr.heap.size ∧ w.heap.size ≤ g from fun g hg => by
        rcases HROW.out.2 with ⟨e2, -⟩ | ⟨g', cap, cur, e2, hbg, hgh, -⟩
        · rw [e2] at hg; cases hg
        · rw [e2] at hg; injection hg with hg; rw [← hg]; exact ⟨(Array.getElem?_eq_some_iff.1 hgh).1, hbg⟩)
      have HSW := Lib.hid (show w2.heap.size ≥ wr.heap.size from d2.size)
      have HTN := Lib.hid (flatEn_snoc ts ⟨y, A', cap'⟩)
      unfold entCs at HTN
      simp only [HNY.out] at HTN
      have HONE := Lib.hid (enA_one y A' ny cap')
      clear d2 ho hS' hfr
      obtain ⟨F0, hF0⟩ : ∃ F0, flatEn ts = F0 := ⟨_, rfl⟩
      have HF0 := Lib.hid hF0
      rw [hF0] at HROW2 HTN
      clear hF0
      obtain ⟨yid, ycl, yti, yco, ypi, ybi, ylo, yhi, yma, ysv, yse, ypl, ysz⟩ := y
      unfold enA at *
      simp only at *
      go_wp2_with (at_builtin; refine wpList_appK rfl _ _ 51 rfl w.heap.size 35 i0 _ 13 120 Try.underlying51 hi hz0 hz1 hz2 rfl (by decide) _ k F0 rfl ?b1 (some ⟨w2.heap.size, 0, none⟩) 1 1 [.int .i64 yid, .int .i64 ycl, .int .i64 yti, .int .i64 yco, .bool ypi, .int .i64 ybi, .int .i64 ylo, .int .i64 yhi, .int .i64 yma, .slice A' ny cap', .int .i64 yse, .int .i64 ypl, .int .i64 ysz] rfl rfl ?b2 ?b3 ?b4 ?b5 ?b6 ?b7)
      case b1 => exact HROW2.out.alloc _
      case b2 => exact Lies.new w2 #[.int .i64 yid, .int .i64 ycl, .int .i64 yti, .int .i64 yco, .bool ypi, .int .i64 ybi, .int .i64 ylo, .int .i64 yhi, .int .i64 yma, .slice A' ny cap', .int .i64 yse, .int .i64 ypl, .int .i64 ysz] _
      case b3 => exact HONE.out
      case b4 => unfold maxLen; omega
      case b5 => omega
      case b6 => have := HBR2.out.size; simp; omega
      case b7 =>
        intro v3 w3 hown3 hg3 hb3
        have HB3 := Lib.hid ((HBR2.out.alloc HBR2.out.size (.cells #[.int .i64 yid, .int .i64 ycl, .int .i64 yti, .int .i64 yco, .bool ypi, .int .i64 ybi, .int .i64 ylo, .int .i64 yhi, .int .i64 yma, .slice A' ny cap', .int .i64 yse, .int .i64 ypl, .int .i64 ysz] 35)).grown hg3 (Nat.le_trans HBR2.out.size (by simp)) (fun g e => (HLR.out g e).2))
        have HO3 := Lib.hid (show w3.ownsRow w.heap.size 35 13 v3 (k + 1) (flatEn (ts ++ [⟨⟨yid, ycl, yti, yco, ypi, ybi, ylo, yhi, yma, ysv, yse, ypl, ysz⟩, A', cap'⟩])) by rw [HTN.out]; exact hown3)
        have hkw := grown_kept hg3
        have key : ∀ (sv : List (List UInt8)) (B : Option Addr) (c : Nat), Svs w2 sv B c → Off u5.ownBlock.toList B (strs sv) → Svs w3 sv B c ∧ Off v3.ownBlock.toList B (strs sv) := fun sv B c h1 h2 => by
          refine ⟨(h1.below ((Below.refl _ _).alloc (Nat.le_refl _) _)).kept h2 hkw, ?_⟩
          rcases hb3 with e3 | e3
          · rw [e3]; exact h2
          · rw [e3]
            exact Off.of h1.lies (by simp)
        have HOK3 := Lib.hid (show ∀ t ∈ ts ++ [⟨⟨yid, ycl, yti, yco, ypi, ybi, ylo, yhi, yma, ysv, yse, ypl, ysz⟩, A', cap'⟩], Svs w3 t.e.sv t.A t.cap ∧ (∀ ad, t.A = some ad → w.heap.size ≤ ad.block) ∧ Off v3.ownBlock.toList t.A (strs t.e.sv) from fun t ht => by
          rcases List.mem_append.1 ht with ht | ht
          · obtain ⟨h1, h2, h3⟩ := HOK2.out t ht
            obtain ⟨h4, h5⟩ := key _ _ _ h1 h3
            exact ⟨h4, h2, h5⟩
          · rw [List.mem_singleton.1 ht]
            obtain ⟨h4, h5⟩ := key ysv A' cap' HS2.out (.inr fun ad e hm => by
              have h6 := HFR.out ad e
              have h7 := HLR.out ad.block (by simpa using hm)
              omega)
            exact ⟨h4, fun ad e => by have := HFR.out ad e; have := HBR.out.size; omega, h5⟩)
        have HL3 := Lib.hid (show (ts ++ [(⟨⟨yid, ycl, yti, yco, ypi, ybi, ylo, yhi, yma, ysv, yse, ypl, ysz⟩, A', cap'⟩ : Ent)]).map Ent.e = M.take (k + 1) by rw [List.map_append, HTS.out, HT1.out]; rfl)
        clear hown3 hg3 hb3 hkw key
        go_wp2
        go_roundw
        case rel => exact ⟨k + 1, _, by go_num, by omega, HO3.out, HL3.out, HOK3.out, HB3.out⟩
        case measure => simp [intOf]; omega
    · obtain rfl : k = n := by omega
      have HRE := Lib.hid (show ts.map Ent.e = M by rw [HTS.out, List.take_of_length_le (by rw [HN.out]; omega)])
      have HB := HBR.out
      go_wp2
      go_ret
      exact ⟨_, ts, rfl, by rw [HN.out]; exact HROW.out, HRE.out, fun t ht => ⟨(HOKT.out t ht).1, (HOKT.out t ht).2.1⟩, HB⟩
end
end Go.Proofs.Ytepfbpljkhchbaa
