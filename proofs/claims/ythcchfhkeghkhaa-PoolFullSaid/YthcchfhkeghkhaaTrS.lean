/-
  Layer 5: trace.Sort: what it answers, of any spans: the same ones in a trace's order, or none. The library's sorting is met by the shelf's contracts. Nothing is assumed but that the spans lie in memory.
-/
import Derived.Test.YthcchfhkeghkhaaTrA
import Derived.Test.YthcchfhkeghkhaaLay
import Derived.Shelf.SlSortCmp.WholeK
import Derived.Shelf.SlicesE.Clone

namespace Go.Proofs.Ythcchfhkeghkhaa
open Go.RowKit Go.Sort
set_option maxRecDepth 100000

instance : Inhabited Plain.Sp := ⟨Plain.Sp.zero⟩

theorem less_grow (t i p s d : Int) (SV NM : ByteArray) (t' i' p' s' d' : Int) (SV' NM' : ByteArray) (w : World) :
    Calls Try.prog 74 #[.agg #[.int .i64 t, .int .i64 i, .int .i64 p, .int .i64 s, .int .i64 d, .string SV, .string NM], .agg #[.int .i64 t', .int .i64 i', .int .i64 p', .int .i64 s', .int .i64 d', .string SV', .string NM']] w fun e w' => e = .returned (.bool (lessN s i s' i')) ∧ ∃ os, w' = grow w os := by
  unfold lessN
  by_cases h : s = s'
  · subst h
    rw [if_pos rfl]
    go_enter Try.func74, Try.ntmps74
    go_wp2
    go_ret
    exact ⟨rfl, _, by rw [alloc_eq_grow, alloc_eq_grow, grow_grow]⟩
  · rw [if_neg h]
    go_enter Try.func74, Try.ntmps74
    go_wp2
    go_ret
    exact ⟨rfl, _, by rw [alloc_eq_grow, alloc_eq_grow, grow_grow]⟩

/-- compare, as a number -/
def cmpS (x y : Plain.Sp) : Int := if Plain.lt x y then -1 else if Plain.lt y x then 1 else 0
theorem ltOf_cmpS (x y : Plain.Sp) : ltOf cmpS x y = Plain.lt x y := by
  unfold ltOf cmpS
  cases h1 : Plain.lt x y <;> cases h2 : Plain.lt y x <;> simp
theorem swoS : SWO (ltOf cmpS) where
  irrefl x := by rw [ltOf_cmpS, Bool.eq_false_iff, ne_eq, Plain.lt_iff]; omega
  trans x y z h1 h2 := by rw [ltOf_cmpS, Plain.lt_iff] at *; omega
  ntrans x y z h1 h2 := by
    rw [ltOf_cmpS, Bool.eq_false_iff, ne_eq, Plain.lt_iff] at *; omega

set_option maxHeartbeats 2000000 in
theorem compare_grow (x y : Plain.Sp) (w : World) :
    Calls Try.prog 56 #[.agg #[.int .i64 x.t, .int .i64 x.i, .int .i64 x.p, .int .i64 x.s, .int .i64 x.d, .string (str x.sv), .string (str x.nm)], .agg #[.int .i64 y.t, .int .i64 y.i, .int .i64 y.p, .int .i64 y.s, .int .i64 y.d, .string (str y.sv), .string (str y.nm)]] w fun e w' => e = .returned (.int .i64 (cmpS x y)) ∧ ∃ os, w' = grow w os := by
  have HC := Lib.hid (show cmpS x y = if lessN x.s x.i y.s y.i then -1 else if lessN y.s y.i x.s x.i then 1 else 0 from rfl)
  generalize cmpS x y = C at *
  obtain ⟨xt, xi, xp, xs, xd, xv, xn⟩ := x
  obtain ⟨yt, yi, yp, ys, yd, yv, yn⟩ := y
  simp only at *
  generalize str xv = XV at *
  generalize str xn = XN at *
  generalize str yv = YV at *
  generalize str yn = YN at *
  have H1 := Lib.hid (fun W => less_grow xt xi xp xs xd XV XN yt yi yp ys yd YV YN W)
  have H2 := Lib.hid (fun W => less_grow yt yi yp ys yd YV YN xt xi xp xs xd XV XN W)
  generalize lessN xs xi ys yi = L1 at *
  generalize lessN ys yi xs xi = L2 at *
  have hbx := Blk.new w #[.int .i64 xt, .int .i64 xi, .int .i64 xp, .int .i64 xs, .int .i64 xd, .string XV, .string XN] 45
  obtain ⟨W0, hW0⟩ : ∃ W0, w.alloc (.cells #[.int .i64 xt, .int .i64 xi, .int .i64 xp, .int .i64 xs, .int .i64 xd, .string XV, .string XN] 45) = W0 := ⟨_, rfl⟩
  have hby := Blk.new W0 #[.int .i64 yt, .int .i64 yi, .int .i64 yp, .int .i64 ys, .int .i64 yd, .string YV, .string YN] 45
  have hs0 : W0.heap.size = w.heap.size + 1 := by rw [← hW0]; simp
  rw [hW0] at hbx
  have hbx2 := (Kept.of ((Below.refl W0.heap.size W0).alloc (Nat.le_refl _) (.cells #[.int .i64 yt, .int .i64 yi, .int .i64 yp, .int .i64 ys, .int .i64 yd, .string YV, .string YN] 45)) []).blk hbx (by simp)
  rw [hs0] at hby
  have HBX := Lib.hid (fun (os : Array Obj) => (Kept.of (show Below (W0.alloc (.cells #[.int .i64 yt, .int .i64 yi, .int .i64 yp, .int .i64 ys, .int .i64 yd, .string YV, .string YN] 45)).heap.size (W0.alloc (.cells #[.int .i64 yt, .int .i64 yi, .int .i64 yp, .int .i64 ys, .int .i64 yd, .string YV, .string YN] 45)) (grow (W0.alloc (.cells #[.int .i64 yt, .int .i64 yi, .int .i64 yp, .int .i64 ys, .int .i64 yd, .string YV, .string YN] 45)) os) from ⟨rfl, rfl, rfl, by simp, fun k hk => heap_grow_old _ _ hk⟩) []).blk hbx2 (by simp))
  have HBY := Lib.hid (fun (os : Array Obj) => (Kept.of (show Below (W0.alloc (.cells #[.int .i64 yt, .int .i64 yi, .int .i64 yp, .int .i64 ys, .int .i64 yd, .string YV, .string YN] 45)).heap.size (W0.alloc (.cells #[.int .i64 yt, .int .i64 yi, .int .i64 yp, .int .i64 ys, .int .i64 yd, .string YV, .string YN] 45)) (grow (W0.alloc (.cells #[.int .i64 yt, .int .i64 yi, .int .i64 yp, .int .i64 ys, .int .i64 yd, .string YV, .string YN] 45)) os) from ⟨rfl, rfl, rfl, by simp, fun k hk => heap_grow_old _ _ hk⟩) []).blk hby (by simp))
  have HG := Lib.hid (show W0.alloc (.cells #[.int .i64 yt, .int .i64 yi, .int .i64 yp, .int .i64 ys, .int .i64 yd, .string YV, .string YN] 45) = grow w (#[.cells #[.int .i64 xt, .int .i64 xi, .int .i64 xp, .int .i64 xs, .int .i64 xd, .string XV, .string XN] 45] ++ #[.cells #[.int .i64 yt, .int .i64 yi, .int .i64 yp, .int .i64 ys, .int .i64 yd, .string YV, .string YN] 45]) by rw [← hW0, alloc_eq_grow, alloc_eq_grow, grow_grow])
  have HW0 := Lib.hid hW0
  clear hbx hby hbx2 hs0 hW0
  go_enter Try.func56, Try.ntmps56
  go_wp2_with fail
  rw [HW0.out] at *
  generalize W0.alloc (.cells #[.int .i64 yt, .int .i64 yi, .int .i64 yp, .int .i64 ys, .int .i64 yd, .string YV, .string YN] 45) = V at *
  refine (H1.out _).mono ?_
  rintro e w1 ⟨rfl, os, rfl⟩
  rcases L1 with _ | _
  rotate_left
  · go_wp2
    go_ret
    exact ⟨by rw [HC.out]; rfl, _, by rw [HG.out, grow_grow]⟩
  obtain ⟨x0, x1, x2, x3, x4, x5, x6⟩ := (HBX.out os).seven
  obtain ⟨y0, y1, y2, y3, y4, y5, y6⟩ := (HBY.out os).seven
  have HG2 := Lib.hid (show grow V os = grow w (#[.cells #[.int .i64 xt, .int .i64 xi, .int .i64 xp, .int .i64 xs, .int .i64 xd, .string XV, .string XN] 45] ++ #[.cells #[.int .i64 yt, .int .i64 yi, .int .i64 yp, .int .i64 ys, .int .i64 yd, .string YV, .string YN] 45] ++ os) by rw [HG.out, grow_grow])
  generalize grow V os = V2 at *
  go_wp2_with fail
  clear x0 x1 x2 x3 x4 x5 x6 y0 y1 y2 y3 y4 y5 y6
  refine (H2.out _).mono ?_
  rintro e w2 ⟨rfl, os2, rfl⟩
  rcases L2 with _ | _
  · go_wp2
    go_ret
    exact ⟨by rw [HC.out]; rfl, _, by rw [HG2.out, grow_grow]⟩
  · go_wp2
    go_ret
    exact ⟨by rw [HC.out]; rfl, _, by rw [HG2.out, grow_grow]⟩
end Go.Proofs.Ythcchfhkeghkhaa

namespace Go.Proofs.Ythcchfhkeghkhaa
open Go.RowKit Go.Sort
set_option maxRecDepth 100000

theorem cmpLays_any (blk off size : Nat) (w : World) : CmpLays Try.prog 56 #[] spanCells 7 cmpS blk off size w := fun _ _ _ _ x y =>
  (compare_grow x y _).mono fun _ _ ⟨he, os', hw⟩ => ⟨he, 0, os', hw⟩
theorem flatK_flat (l : List Plain.Sp) : flatK spanCells 7 l.toArray = (flat l).toArray := by
  refine ext_get! (by simp [flat_length]) fun t ht => ?_
  have ht' : t < l.length * 7 := by simpa using ht
  rw [get_flatK _ _ _ t (by simpa using ht')]
  have hi : t / 7 < l.length := by omega
  have h := flat_at l (t / 7) (t % 7) l[t / 7] (List.getElem?_eq_getElem hi) (by omega)
  rw [show t / 7 * 7 + t % 7 = t by omega] at h
  have e1 : (l.toArray)[t / 7]! = l[t / 7] := by simp [hi]
  rw [e1]
  have hf : t < (flat l).length := by rw [flat_length]; exact ht'
  have hs : t % 7 < (spanCells l[t / 7]).length := by rw [spanCells_length]; omega
  rw [List.getElem?_eq_getElem hf, List.getElem?_eq_getElem hs] at h
  simp [hf, hs, Option.some.inj h]
theorem sortWorld_below (B : Nat) (w : World) (blk off m : Nat) (dk : Array Plain.Sp) (os : Array Obj) (hB : B ≤ blk) (hb : blk < w.heap.size) : Below B w (sortWorldK spanCells 7 w blk off m dk os) := by
  unfold sortWorldK putRowK putRow mapBlock
  refine ⟨rfl, rfl, rfl, ?_, fun k hk => ?_⟩
  · rw [size_grow]; simp [Sort.ahead]
  · rw [heap_grow_old _ _ (by simp [Sort.ahead]; omega)]
    simp only [Sort.ahead, Array.getElem?_modify]
    rw [if_neg (by omega)]
theorem perm_of {d d' : Array Plain.Sp} (h : PermIn 0 d.size d d') : d'.toList.Perm d.toList := by
  have h1 := h.2.2
  have e1 : d'.extract 0 d.size = d' := by rw [← h.1]; exact Array.extract_size ..
  have e2 : d.extract 0 d.size = d := Array.extract_size ..
  rwa [e1, e2] at h1
theorem sorted_of {d d' : Array Plain.Sp} (hs : d'.size = d.size) (h : SortedIn (ltOf cmpS) 0 d.size d') : d'.toList.Pairwise (fun a b => Plain.le a b = true) := by
  rw [List.pairwise_iff_getElem]
  intro i j hi hj hij
  have := h i j (Nat.zero_le _) hij (by rw [← hs]; simpa using hj)
  rw [ltOf_cmpS] at this
  unfold Plain.le
  have hi' : i < d'.size := by simpa using hi
  have hj' : j < d'.size := by simpa using hj
  rw [getElem!_pos d' i hi', getElem!_pos d' j hj'] at this
  simp only [Array.getElem_toList]
  rw [this]; rfl

theorem sortFunc_any (g cap n : Nat) (l : List Plain.Sp) (w : World) (hn : l.length = n) (hg : g < w.heap.size) (hc : ∀ j, j < (flat l).length → w.cell? ⟨g, j, none⟩ = some (flat l)[j]! ∧ w.frozen? ⟨g, j, none⟩ = false) (hsz : n ≤ 1000000) :
    Calls Try.prog 55 #[.slice (some ⟨g, 0, none⟩) n cap, .func (.func 56) #[] #[]] w fun e w' => e = .returned (.tuple #[]) ∧ ∃ m : List Plain.Sp, m.Perm l ∧ m.Pairwise (fun a b => Plain.le a b = true) ∧ Lies w' (some ⟨g, 0, none⟩) (flat m) ∧ ∀ B, B ≤ g → Below B w w' := by
  subst hn
  have hH : HoldsK spanCells 7 w g 0 l.toArray := by
    unfold HoldsK
    rw [flatK_flat]
    intro j hj
    have hj' : j < (flat l).length := by simpa using hj
    have := hc j hj'
    rw [Nat.zero_add]
    simpa [hj'] using this
  have eg : ∀ args w, (callFunc 56 args).run Try.prog w = .ok (.enter 56 args) w := enters_of Try.func56 (by kernel_rfl) rfl
  have hcon := AnyQ.slices_SortFunc Try.sortF 7 Try.isAgg45 Try.sizeOf45 spanCells (fun _ => rfl) (fun x v hv => by simp [spanCells] at hv; rcases hv with rfl | rfl | rfl | rfl | rfl | rfl | rfl <;> rfl) cmpS swoS 56 #[] g 0 cap l.toArray w eg (cmpLays_any g 0 l.toArray.size w) hH hg (by simp; omega)
  rw [List.size_toArray] at hcon
  refine Calls.mono (show Calls Try.prog 55 _ _ _ from hcon) ?_
  rintro e w' ⟨rfl, d', q, os, hp, hs, rfl⟩
  refine ⟨rfl, d'.toList, ?_, ?_, ?_, fun B hB => sortWorld_below B w g 0 q d' os hB hg⟩
  · exact perm_of (d := l.toArray) (by simpa using hp)
  · exact sorted_of (d := l.toArray) hp.1 (by simpa using hs)
  · have h2 := holdsK_sortWorldK_c spanCells 7 w g 0 l.toArray d' q os hH hg hp.1
    refine .inr ⟨_, rfl, ?_, ?_⟩
    · exact Nat.lt_of_lt_of_le hg (size_sortWorldK_c spanCells 7 w g 0 q d' os)
    · intro j u hu
      unfold HoldsK at h2
      have e : flatK spanCells 7 d' = (flat d'.toList).toArray := flatK_flat d'.toList
      rw [e] at h2
      have hj : j < (flat d'.toList).length := by
        rcases Nat.lt_or_ge j (flat d'.toList).length with h | h
        · exact h
        · rw [List.getElem?_eq_none h] at hu; cases hu
      have h3 := (h2 j (by simpa using hj)).1
      rw [List.getElem?_eq_getElem hj] at hu
      have e2 : (⟨g, 0, none⟩ : Addr).add j = ⟨g, j, none⟩ := by unfold Addr.add; split <;> simp_all
      rw [e2]
      rw [Nat.zero_add] at h3
      rw [h3]
      simpa [hj] using hu


/-- slices.Clone: the same spans, in memory of one's own -/
theorem cloneS_any (A : Option Addr) (n cap : Nat) (l : List Plain.Sp) (w : World) (hn : l.length = n) (h1 : 1 ≤ n) (h2 : n ≤ 1000000) (hA : Lies w A (flat l)) :
    Calls Try.prog 31 #[.slice A n cap] w fun e w' => ∃ v, e = .returned v ∧ w'.ownsRow w.heap.size 45 7 v n (flat l) ∧ Below w.heap.size w w' := by
  obtain ⟨i0, hi, hz0, hz1, hz2⟩ := info_parts infoSp
  have hfl : (flat l).length = n * 7 := by rw [flat_length, hn]
  obtain ⟨ad, rfl⟩ : ∃ ad, A = some ad := by
    rcases hA with hA | ⟨ad, rfl, _⟩
    · rw [hA] at hfl; simp at hfl; omega
    · exact ⟨ad, rfl⟩
  have HA := Lib.hid hA
  have HFL := Lib.hid hfl
  have HF1 := Lib.hid (flat_one l)
  have HH := Lib.hid (show (w.alloc (.cells #[] 45)).ownsRow w.heap.size 45 7 (.slice (some ⟨w.heap.size, 0, none⟩) 0 0) 0 [] by
    have := World.ownsRow_lit (base := w.heap.size) (e := 45) (size := 7) w #[] 0 (Nat.le_refl _) (by unfold maxLen; omega) rfl
    simpa using this)
  have q22 : ∀ (w : World) (a : Option Addr) (n c n' c' : Nat), (binOp .eql 29 (.slice a n c) (.slice none n' c')).run Try.prog w = .ok (.bool a.isNone) w := fun w a n c n' c' => Lib.run_eql_slice_nil w _ _ a n c n' c' Try.underlying29
  clear hA hfl hn
  generalize flat l = F at *
  go_enter Try.func31, Try.ntmps31
  go_wp2_with (at_builtin; refine wpList_appK rfl _ _ 29 rfl w.heap.size 45 i0 (.agg #[.int .i64 0, .int .i64 0, .int .i64 0, .int .i64 0, .int .i64 0, .string ⟨#[]⟩, .string ⟨#[]⟩]) 7 72 Try.underlying29 hi hz0 hz1 hz2 rfl (by omega) (.slice (some ⟨w.heap.size, 0, none⟩) 0 0) 0 [] rfl HH.out (some ad) n cap F rfl HFL.out (HA.out.keep (by simp) fun p hp => World.cell?_alloc_lt w _ p hp) HF1.out (by unfold maxLen; omega) (by omega) (by simp) ?_; intro v1 w1 hown1 hg1 _)
  go_ret
  refine ⟨_, rfl, by simpa using hown1, ?_⟩
  exact ((Below.refl _ _).alloc (Nat.le_refl _) _).grown hg1 (by simp) (fun g hg => by simp [Value.ownBlock] at hg; omega)
end Go.Proofs.Ythcchfhkeghkhaa

namespace Go.Proofs.Ythcchfhkeghkhaa
open Go.RowKit Go.Sort
set_option maxRecDepth 100000

set_option maxHeartbeats 2000000 in
theorem tsort_any (A : Option Addr) (n cap : Nat) (l : List Plain.Sp) (w : World) (hn : l.length = n) (hm : n ≤ maxLen) (hA : Lies w A (flat l)) (hS : Fine l) :
    Calls Try.prog 43 #[.slice A n cap] w fun e w' => ∃ v, e = .returned (.tuple #[v, .bool (Plain.isT (Plain.srt l))]) ∧ GivesS w w' (Plain.ts l) v := by
  have hsl : (Plain.srt l).length = n := by rw [(Plain.srt_perm l).length_eq, hn]
  by_cases h64 : 1 ≤ n ∧ n ≤ 64
  rotate_left
  · have hF : Plain.isT (Plain.srt l) = false := by
      rcases Nat.lt_or_ge n 1 with h | h
      · exact Plain.isT_empty (by omega)
      · exact Plain.isT_long (by omega)
    have hT := Plain.ts_no hF
    rw [hF, hT]
    clear hA hS hF hT hsl hn
    unfold maxLen at hm
    go_enter Try.func43, Try.ntmps43
    go_wp2_with fail
    refine (fits_any n w false (by rw [decide_eq_false_iff_not]; omega)).mono ?_
    rintro e w' ⟨rfl, rfl⟩
    go_wp2
    go_returns
    exact ⟨.slice none 0 0, rfl, GivesS.nil (Below.refl _ _)⟩
  obtain ⟨h1, h2⟩ := h64
  have HC := Lib.hid (cloneS_any A n cap l w hn h1 (by omega) hA)
  have HFL := Lib.hid (show (flat l).length = n * 7 by rw [flat_length, hn])
  have HN := Lib.hid hn
  have HS := Lib.hid hS
  have HO := Lib.hid (fun (d : List Plain.Sp) (hp : d.Perm l) (hs : d.Pairwise (fun a b => Plain.le a b = true)) => Plain.ts_of hp hs)
  have HNO := Lib.hid (Plain.ts_no (l := l))
  generalize Plain.ts l = T at *
  generalize Plain.isT (Plain.srt l) = R at *
  clear hA hS hsl hn hm
  go_enter Try.func43, Try.ntmps43
  go_wp2_with fail
  refine (fits_any n w true (by rw [decide_eq_true_eq]; omega)).mono ?_
  rintro e w' ⟨rfl, rfl⟩
  go_wp2_with fail
  refine HC.out.mono ?_
  rintro e w1 ⟨v1, rfl, ho1, c1⟩
  rcases ho1.2 with ⟨-, h0⟩ | ⟨g, cap1, cur, rfl, hbg, hgh, hl1, hm1, hcs, htk⟩
  · omega
  have hg1 : g < w1.heap.size := (ho1.lt g rfl).2
  have HSF := Lib.hid (sortFunc_any g cap1 n l w1 HN.out hg1 (fun j hj => by
    have hc := ho1.cells (g := g) rfl j _ (List.getElem?_eq_getElem hj)
    have e2 : (⟨g, 0, none⟩ : Addr).add j = ⟨g, j, none⟩ := by unfold Addr.add; split <;> simp_all
    rw [e2] at hc
    refine ⟨by rw [hc]; simp [hj], ?_⟩
    simp [World.frozen?, hgh]) (by omega))
  clear ho1 hgh hcs htk
  go_wp2_with fail
  refine HSF.out.mono ?_
  rintro e w2 ⟨rfl, m, hp, hs, hL, hB⟩
  have d2 := hB w.heap.size hbg
  have c2 := c1.trans d2
  obtain ⟨ho1, ho2⟩ := HO.out m hp hs
  have HML := Lib.hid (show m.length = n by rw [hp.length_eq, HN.out])
  have HR := Lib.hid (tright_any (some ⟨g, 0, none⟩) n cap1 m w2 HML.out (by unfold maxLen; omega) hL (fun x hx => HS.out x (hp.mem_iff.1 hx)))
  rw [ho1] at HR ho2
  have HO2 := Lib.hid ho2
  have HL := Lib.hid hL
  clear ho2 hL hp hs hB HSF ho1
  go_wp2_with fail
  refine HR.out.mono ?_
  rintro e w3 ⟨rfl, d3⟩
  have c3 := c2.trans (d3.mono c2.size)
  rcases R with _ | _
  · go_wp2
    go_returns
    rw [HNO.out (by trivial)]
    exact ⟨.slice none 0 0, rfl, GivesS.nil c3⟩
  · go_wp2
    go_returns
    rw [← HO2.out (by trivial)]
    exact ⟨.slice (some ⟨g, 0, none⟩) n cap1, rfl, some ⟨g, 0, none⟩, cap1, by rw [HML.out], by rw [HML.out]; exact hl1, hm1, HL.out.below d3, c3⟩
end Go.Proofs.Ythcchfhkeghkhaa
