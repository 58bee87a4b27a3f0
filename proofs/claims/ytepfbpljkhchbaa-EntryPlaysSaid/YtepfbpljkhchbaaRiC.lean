/-
  Layer 14, the document's answer: set, Pin, Class, Move of its index: what they answer, of any index. Nothing is assumed but that it lies in memory. (Made by gen14/ric.py.)
-/
import Derived.Test.YtepfbpljkhchbaaRiB
import Derived.Test.YtepfbpljkhchbaaSec

namespace Go.Proofs.Ytepfbpljkhchbaa
open Go.RowKit Go.Maps En
set_option maxRecDepth 100000

theorem lies_range {w : World} {g : Nat} {xs : List Value} (hx : xs ≠ []) : Lies w (some ⟨g, 0, none⟩) xs ↔ g < w.heap.size ∧ w.rangeAt g 0 xs := by
  constructor
  · rintro (h | ⟨ad, e, hb, hc⟩)
    · exact absurd h hx
    · injection e with e; subst e
      exact ⟨hb, fun j v hv => by have := hc j v hv; rwa [Addr.add_mid] at this⟩
  · rintro ⟨h1, h2⟩
    exact .inr ⟨_, rfl, h1, fun j v hv => by rw [Addr.add_mid]; exact h2 j v hv⟩
theorem range_app {w : World} {g o : Nat} {xs ys : List Value} (h1 : w.rangeAt g o xs) (h2 : w.rangeAt g (o + xs.length) ys) : w.rangeAt g o (xs ++ ys) := fun j v hv => by
  rcases Nat.lt_or_ge j xs.length with h | h
  · exact h1 j v (by rwa [List.getElem?_append_left h] at hv)
  · rw [List.getElem?_append_right h] at hv
    have := h2 _ v hv
    rwa [show o + xs.length + (j - xs.length) = o + j by omega] at this
theorem range_left {w : World} {g o : Nat} {xs ys : List Value} (h : w.rangeAt g o (xs ++ ys)) : w.rangeAt g o xs := fun j v hv => h j v (by
  rw [List.getElem?_append_left (List.getElem?_eq_some_iff.1 hv).1]; exact hv)
theorem range_right {w : World} {g o : Nat} {xs ys : List Value} (h : w.rangeAt g o (xs ++ ys)) : w.rangeAt g (o + xs.length) ys := fun j v hv => by
  have := h (xs.length + j) v (by rw [List.getElem?_append_right (by omega)]; simpa using hv)
  rwa [← Nat.add_assoc] at this
theorem flat_set (ts : List Ent) (k : Nat) (hk : k < ts.length) (t : Ent) : flatEn (ts.set k t) = flatEn (ts.take k) ++ (entCs t ++ flatEn (ts.drop (k + 1))) := by
  rw [List.set_eq_take_append_cons_drop, if_pos hk, flatEn_append]
  simp [flatEn]
/-- one entry of a row is written over -/
theorem lies_set {w : World} {g : Nat} {ts : List Ent} {k : Nat} (hk : k < ts.length) (t : Ent) (hl : Lies w (some ⟨g, 0, none⟩) (flatEn ts)) (hf : ∀ j, w.frozen? ⟨g, j, none⟩ = false) :
    w.there g (k * 13) 13 ∧ Lies (w.setCells g (k * 13) (entCs t)) (some ⟨g, 0, none⟩) (flatEn (ts.set k t)) := by
  have hne : ∀ us : List Ent, k < us.length → flatEn us ≠ [] := fun us hu e => by
    have := flatEn_length us
    rw [e] at this; simp at this; omega
  obtain ⟨hg, hr⟩ := (lies_range (hne ts hk)).1 hl
  have hself : ts = ts.set k ts[k] := by simp
  rw [hself, flat_set ts k hk] at hr
  have hlen : (flatEn (ts.take k)).length = k * 13 := by rw [flatEn_length, List.length_take, Nat.min_eq_left (by omega)]
  have h1 := range_left hr
  have h2 := range_right hr
  rw [hlen, Nat.zero_add] at h2
  have h3 := range_left h2
  have h4 := range_right h2
  rw [entCs_length] at h4
  have hth : w.there g (k * 13) 13 := fun j hj => ⟨by
    have := h3 j ((entCs ts[k])[j]'(by rw [entCs_length]; exact hj)) (List.getElem?_eq_getElem _)
    rw [this]; rfl, hf _⟩
  refine ⟨hth, (lies_range (hne _ (by simpa using hk))).2 ⟨by rw [setCells_size]; exact hg, ?_⟩⟩
  rw [flat_set ts k hk]
  refine range_app (World.rangeAt_setCells_apart h1 g _ _ (.inr (.inl (by rw [hlen]; omega)))) ?_
  rw [hlen, Nat.zero_add]
  refine range_app (World.rangeAt_setCells_same w g _ _ (by rw [entCs_length]; exact hth)) ?_
  rw [entCs_length]
  exact World.rangeAt_setCells_apart h4 g _ _ (.inr (.inr (by rw [entCs_length]; omega)))

section
variable {S : List Nat} {w : World} {r : Nat} {m : List E}
set_option maxHeartbeats 4000000 in
theorem rset14_any (h : IsRef S w r m) (hS : ∀ s ∈ S, s < w.heap.size) (k : Nat) (hk : k < m.length) (y : E) (yA : Option Addr) (sn yc : Nat) (hsn : y.sv.length = sn) (hsv : Svs w y.sv yA yc) (hyo : Off (r :: S) yA (strs y.sv)) :
    Calls Try.prog 41 #[.pointer (some ⟨r, 0, none⟩), .int .i64 (k : Int), .agg (enA y (.slice yA sn yc))] w fun e w' => e = .returned (.bool true) ∧ IsRef S w' r (m.set k y) ∧ Kept [r] w w' := by
  obtain ⟨i0, hi, hz0, hz1, hz2⟩ := info_parts infoEn
  obtain ⟨A, cap, ts, hbx, ht, h1, h2, hl, ho, hok⟩ := h.row
  have c0 : w.cell? ⟨r, 0, none⟩ = some (.slice A m.length cap) := hbx.cell 0
  have hrl := hbx.lt
  have h1000 := h.few
  have HOUT := Lib.hid h.out
  have hb1 := BoxE.new w y (.slice yA sn yc)
  have hB1 : Below w.heap.size w (w.alloc (.cells (enA y (.slice yA sn yc)) 35)) := (Below.refl _ _).alloc (Nat.le_refl _) _
  have hz1' : (w.alloc (.cells (enA y (.slice yA sn yc)) 35)).heap.size = w.heap.size + 1 := by simp
  obtain ⟨W1, hW1⟩ : ∃ W1, w.alloc (.cells (enA y (.slice yA sn yc)) 35) = W1 := ⟨_, rfl⟩
  rw [hW1] at hb1 hB1 hz1'
  have hk2 : Below W1.heap.size W1 (W1.alloc (.cells #[] 35)) := (Below.refl _ _).alloc (Nat.le_refl _) _
  obtain ⟨W2, hW2⟩ : ∃ W2, W1.alloc (.cells #[] 35) = W2 := ⟨_, rfl⟩
  have hH : W2.ownsRow (w.heap.size + 1) 35 13 (.slice (some ⟨w.heap.size + 1, 0, none⟩) 0 0) 0 [] := by
    have := World.ownsRow_lit (base := w.heap.size + 1) (e := 35) (size := 13) W1 #[] 0 (by omega) (by unfold maxLen; omega) rfl
    rw [← hW2, ← hz1']
    simpa [hz1'] using this
  rw [hW2] at hk2
  have hB2 := hB1.trans (hk2.mono hB1.size)
  have HB2 := Lib.hid hB2
  have HX2 := Lib.hid (hb1.below hk2)
  have HL2 := Lib.hid (hl.below hB2)
  have hlen : ts.length = m.length := by rw [← ht, List.length_map]
  have hms : (ts.set k ⟨y, yA, yc⟩).map Ent.e = m.set k y := by rw [List.map_set, ht]
  have HMS := Lib.hid (show (ts.set k ⟨y, yA, yc⟩).map Ent.e = m.set k y ∧ (m.set k y).length = m.length from ⟨hms, by simp⟩)
  have hOK := hok
  obtain ⟨n, hn⟩ : ∃ n, m.length = n := ⟨_, rfl⟩
  rw [hn] at c0 h1 h1000 hlen hk hbx HMS
  have HBX := Lib.hid hbx
  have HLEN := Lib.hid hlen
  have HFL := Lib.hid (show (flatEn ts).length = n * 13 by rw [flatEn_length, hlen])
  have HF1 := Lib.hid (flatEn_one ts)
  have HH := Lib.hid hH
  have HW1 := Lib.hid (show w.alloc (.cells #[.int .i64 y.id, .int .i64 y.cl, .int .i64 y.tick, .int .i64 y.cost, .bool y.pin, .int .i64 y.bid, .int .i64 y.lo, .int .i64 y.hi, .int .i64 y.many, .slice yA sn yc, .int .i64 y.seq, .int .i64 y.pl, .int .i64 y.sz] 35) = W1 from hW1)
  have HW2 := Lib.hid hW2
  have HZ1 := Lib.hid hz1'
  have HOK := Lib.hid hOK
  have HSV := Lib.hid (And.intro hsv hyo)
  have HSN := Lib.hid hsn
  have HS := Lib.hid hS
  clear h hbx ht hl ho hok hb1 hB1 hz1' hW1 hk2 hW2 hH hB2 hlen hms hOK hn hsv hyo hsn hS
  unfold maxLen at h2
  unfold enA
  go_enter Try.func41, Try.ntmps41
  go_wp2_with (at_builtin; refine wpList_appK rfl _ _ 51 rfl (w.heap.size + 1) 35 i0 _ 13 120 Try.underlying51 hi hz0 hz1 hz2 rfl (by omega) (.slice (some ⟨w.heap.size + 1, 0, none⟩) 0 0) 0 [] rfl ?b1 A n cap (flatEn ts) rfl HFL.out ?b2 HF1.out ?b4 ?b5 ?b6 ?b7)
  case b1 => rw [HW1.out, HW2.out]; exact HH.out
  case b2 => rw [HW1.out, HW2.out]; exact HL2.out
  case b4 => unfold maxLen; omega
  case b5 => omega
  case b6 => simp
  case b7 =>
    rw [HW1.out, HW2.out]
    intro v4 w4 ho4 hg4 _
    have hg4' : W2.grownBy w4 (some (w.heap.size + 1)) := hg4
    have hk4 := grown_kept hg4'
    have hB4 := Kept.below HB2.out hk4 (by simp)
    obtain ⟨hxs, hx⟩ := ho4
    rcases hx with ⟨-, h0⟩ | ⟨g, cap', cur, rfl, hbg, hgh, hc1, hc2, hcs, hct⟩
    · omega
    have hbg' : Blk w4 g cur 35 := hgh
    have hl4 : Lies w4 (some ⟨g, 0, none⟩) (flatEn ts) := by
      refine .inr ⟨_, rfl, hbg'.lt, fun j v hv => ?_⟩
      rw [Addr.add_mid, Nat.zero_add, hbg'.cell j]
      have hv' : (cur.toList.take (n * 13))[j]? = some v := by rw [hct]; simpa using hv
      rw [List.getElem?_take] at hv'
      split at hv'
      · simpa using hv'
      · cases hv'
    obtain ⟨hth, hl5⟩ := lies_set (k := k) (by rw [HLEN.out]; exact hk) ⟨y, yA, yc⟩ hl4 (fun j => hbg'.frozen j)
    have hx4 := hk4.blk HX2.out (by simp)
    have hld := run_loadEn w4 w.heap.size y yA sn yc hx4
    have hst := run_storeAt_mid (P := Try.prog) w4 g (k * 13) 35 (enA y (.slice yA sn yc)) hth (by rw [hi, enA_size]; simpa using hz1) (by simp [enA, Value.oneCell'])
    have hix := fun (W : World) => show (Instr.indexAt 51 (.slice (some ⟨g, 0, none⟩) n cap') (.int .i64 (k : Int))).run Try.prog W = .ok (.pointer (some ⟨g, k * 13, none⟩)) W by
      have : (⟨g, 0, none⟩ : Addr).add (k * 13) = ⟨g, k * 13, none⟩ := by rw [Addr.add_mid, Nat.zero_add]
      rw [← this]
      have := hc1
      go_simp
    have hec : (enA y (.slice yA sn yc)).toList = entCs ⟨y, yA, yc⟩ := by unfold entCs; simp only [HSN.out]
    rw [hec] at hst
    obtain ⟨w5, hw5⟩ : ∃ w5, w4.setCells g (k * 13) (entCs ⟨y, yA, yc⟩) = w5 := ⟨_, rfl⟩
    have hk5 : Kept [g] w4 w5 := by rw [← hw5]; exact (Kept.refl _ _).setCells (by simp) _ _
    rw [hw5] at hl5 hst
    have hB5 := Kept.below hB4 hk5 (by simp; omega)
    have hr5 := (Kept.of hB5 []).blk HBX.out (by simp)
    have r0 := hr5.cell 0
    have rf := hr5.frozen 0
    simp at r0
    have HR5 := Lib.hid hr5
    have HB5 := Lib.hid hB5
    have HL5 := Lib.hid hl5
    have HGE := Lib.hid (show w.heap.size + 1 ≤ g from hbg)
    have HC1 := Lib.hid hc1
    have HC2 := Lib.hid hc2
    unfold enA at hld hst
    have HLD := Lib.hid hld
    have HST := Lib.hid hst
    clear hg4 hg4' hk4 hB4 hxs hgh hcs hct hbg' hl4 hth hl5 hx4 hld hst hec hw5 hk5 hB5 hr5 c0 HX2 HL2 HF1 HFL HH
    go_wp2_with (first | refine wpList_loadW rfl 35 _ rfl _ _ rfl HLD.out ?_ | refine wpList_storeW rfl 35 _ _ rfl _ _ rfl rfl HST.out ?_)
    go_ret
    have hk6 : Kept [r] w (w5.setCell ⟨r, 0, none⟩ (.slice (some ⟨g, 0, none⟩) n cap')) := (Kept.of HB5.out [r]).setCell (by simp) _
    refine ⟨rfl, ⟨by rw [HMS.out.2]; exact h1000, HOUT.out, some ⟨g, 0, none⟩, cap', ts.set k ⟨y, yA, yc⟩, ?_, HMS.out.1, by rw [HMS.out.2]; exact HC1.out, HC2.out, ?_, ?_, ?_⟩, hk6⟩
    · rw [HMS.out.2]
      exact Blk.set HR5.out 0 (.slice (some ⟨g, 0, none⟩) n cap')
    · refine HL5.out.kept (S := [r]) (.inr fun ad e hm => ?_) ((Kept.refl _ _).setCell (by simp) _)
      injection e with e; subst e
      have := HGE.out
      have hm' := List.mem_singleton.1 hm
      simp only at hm'
      omega
    · refine .inr fun ad e hm => ?_
      injection e with e; subst e
      have := HGE.out
      rcases List.mem_cons.1 hm with h | h
      · simp only at h; omega
      · have := HS.out _ h; simp only at this; omega
    · intro t ht
      rcases List.mem_or_eq_of_mem_set ht with ht | rfl
      · exact HOK.out.kept hk6 (fun s hs => .inl (by rw [List.mem_singleton.1 hs]; exact List.mem_cons_self ..)) t ht
      · refine ⟨HSV.out.1.kept (HSV.out.2.mono fun s hs => ?_) hk6, HSV.out.2⟩
        rw [List.mem_singleton.1 hs]; exact List.mem_cons_self ..
set_option maxHeartbeats 4000000 in
theorem rpin14_any (h : IsRef S w r m) (hu : Uq m) (hS : ∀ s ∈ S, s < w.heap.size) (i : Int) (is : Bool) :
    Calls Try.prog 16 #[.pointer (some ⟨r, 0, none⟩), .int .i64 i, .bool is] w fun e w' => e = .returned (.bool (En.get m i).isSome) ∧ IsRef S w' r (En.upd m i (pinU is)) ∧ Kept [r] w w' := by
  have HAT := Lib.hid (rat14_any h i)
  have HI := Lib.hid h
  obtain ⟨A, cap, ts, hbx, ht, h1, h2, hl, -, hok⟩ := h.row
  have c0 : w.cell? ⟨r, 0, none⟩ = some (.slice A m.length cap) := hbx.cell 0
  have hrl := hbx.lt
  have h1000 := h.few
  have HU := Lib.hid hu
  have HS := Lib.hid hS
  have HL := Lib.hid hl
  have HT := Lib.hid ht
  have HOK := Lib.hid hok
  obtain ⟨n, hn⟩ : ∃ n, m.length = n := ⟨_, rfl⟩
  rw [hn] at c0 h1 h1000
  have HN := Lib.hid hn
  clear h hbx ht hl hok hn hu hS
  unfold maxLen at h2
  go_enter Try.func16, Try.ntmps16
  go_wp2_with fail
  refine HAT.out.mono ?_
  rintro e w2 ⟨v, rfl, hat, rfl⟩
  rcases hat with ⟨rfl, hg⟩ | ⟨k, hk, rfl, hmk⟩
  · have HG := Lib.hid hg
    clear hg HAT
    go_wp2_with fail
    go_ret
    rw [HG.out, upd_none _ HG.out]
    exact ⟨rfl, HI.out, Kept.refl _ _⟩
  · have hg : En.get m i = some m[k] := by rw [← hmk]; exact get_of HU.out (List.getElem_mem hk)
    have HG := Lib.hid (show (En.get m i).isSome = true ∧ En.upd m i (pinU is) = m.set k (pinU is m[k]) from ⟨by rw [hg]; rfl, by rw [← hmk]; exact upd_at HU.out hk _⟩)
    have hkn : k < n := by rw [← HN.out]; exact hk
    have hkt : k < ts.length := by have := congrArg List.length HT.out; simp at this; omega
    obtain ⟨ad, rfl, hadb, hcl⟩ := at_ent HL.out k hkt
    have hte : ts[k].e = m[k] := by have := HT.out; subst this; simp
    have hsv := HOK.out ts[k] (List.getElem_mem hkt)
    have hld := run_loadRow w2 (ad.add (k * 13)) ts[k] (hcl w2 (Below.refl _ _))
    have hix := fun (W : World) => show (Instr.indexAt 51 (.slice (some ad) n cap) (.int .i64 (k : Int))).run Try.prog W = .ok (.pointer (some (ad.add (k * 13)))) W by go_simp
    have hlt0 : decide ((k : Int) < 0) = false := by simp
    have HK := Lib.hid hk
    generalize m[k] = y at *
    obtain ⟨t, ht⟩ : ∃ t, ts[k] = t := ⟨_, rfl⟩
    rw [ht] at hte hsv hld
    obtain ⟨y', tA, tc⟩ := t
    simp only at hte hsv hld
    subst hte
    obtain ⟨sn, hsn⟩ : ∃ sn, y'.sv.length = sn := ⟨_, rfl⟩
    rw [hsn] at hld
    have hb3 : Below w2.heap.size w2 (w2.alloc (.cells (enA (pinU is y') (.slice tA sn tc)) 35)) := (Below.refl _ _).alloc (Nat.le_refl _) _
    have HSET := Lib.hid (rset14_any (HI.out.below hb3) (fun s hs => Nat.lt_of_lt_of_le (HS.out s hs) hb3.size) k hk (pinU is y') tA sn tc hsn (hsv.1.below hb3) hsv.2)
    have HB3 := Lib.hid hb3
    generalize ad.add (k * 13) = q at *
    obtain ⟨W3, hW3⟩ : ∃ W3, w2.alloc (.cells (enA (pinU is y') (.slice tA sn tc)) 35) = W3 := ⟨_, rfl⟩
    rw [hW3] at HSET HB3
    unfold enA pinU at hW3
    unfold enA at hld HSET
    have HW3 := Lib.hid hW3
    have HLD := Lib.hid hld
    clear hld hsn hsv ht hcl hg hmk HAT hkt hb3 hW3 hk
    simp only [pinU] at HSET HW3
    go_wp2_with (refine wpList_loadW rfl 35 _ rfl _ _ rfl HLD.out ?_)
    rw [HW3.out]
    refine HSET.out.mono ?_
    rintro e w4 ⟨rfl, hI4, hk4⟩
    have HI4 := Lib.hid hI4
    have HK4 := Lib.hid ((Kept.of HB3.out [r]).trans hk4)
    clear hI4 hk4 HSET
    go_wp2
    go_ret
    rw [HG.out.1, HG.out.2]
    exact ⟨rfl, HI4.out, HK4.out⟩
set_option maxHeartbeats 4000000 in
theorem rclass14_any (h : IsRef S w r m) (hu : Uq m) (hS : ∀ s ∈ S, s < w.heap.size) (i : Int) (cl : Int) :
    Calls Try.prog 18 #[.pointer (some ⟨r, 0, none⟩), .int .i64 i, .int .i64 cl] w fun e w' => e = .returned (.bool (En.get m i).isSome) ∧ IsRef S w' r (En.upd m i (classU cl)) ∧ Kept [r] w w' := by
  have HAT := Lib.hid (rat14_any h i)
  have HI := Lib.hid h
  obtain ⟨A, cap, ts, hbx, ht, h1, h2, hl, -, hok⟩ := h.row
  have c0 : w.cell? ⟨r, 0, none⟩ = some (.slice A m.length cap) := hbx.cell 0
  have hrl := hbx.lt
  have h1000 := h.few
  have HU := Lib.hid hu
  have HS := Lib.hid hS
  have HL := Lib.hid hl
  have HT := Lib.hid ht
  have HOK := Lib.hid hok
  obtain ⟨n, hn⟩ : ∃ n, m.length = n := ⟨_, rfl⟩
  rw [hn] at c0 h1 h1000
  have HN := Lib.hid hn
  clear h hbx ht hl hok hn hu hS
  unfold maxLen at h2
  go_enter Try.func18, Try.ntmps18
  go_wp2_with fail
  refine HAT.out.mono ?_
  rintro e w2 ⟨v, rfl, hat, rfl⟩
  rcases hat with ⟨rfl, hg⟩ | ⟨k, hk, rfl, hmk⟩
  · have HG := Lib.hid hg
    clear hg HAT
    go_wp2_with fail
    go_ret
    rw [HG.out, upd_none _ HG.out]
    exact ⟨rfl, HI.out, Kept.refl _ _⟩
  · have hg : En.get m i = some m[k] := by rw [← hmk]; exact get_of HU.out (List.getElem_mem hk)
    have HG := Lib.hid (show (En.get m i).isSome = true ∧ En.upd m i (classU cl) = m.set k (classU cl m[k]) from ⟨by rw [hg]; rfl, by rw [← hmk]; exact upd_at HU.out hk _⟩)
    have hkn : k < n := by rw [← HN.out]; exact hk
    have hkt : k < ts.length := by have := congrArg List.length HT.out; simp at this; omega
    obtain ⟨ad, rfl, hadb, hcl⟩ := at_ent HL.out k hkt
    have hte : ts[k].e = m[k] := by have := HT.out; subst this; simp
    have hsv := HOK.out ts[k] (List.getElem_mem hkt)
    have hld := run_loadRow w2 (ad.add (k * 13)) ts[k] (hcl w2 (Below.refl _ _))
    have hix := fun (W : World) => show (Instr.indexAt 51 (.slice (some ad) n cap) (.int .i64 (k : Int))).run Try.prog W = .ok (.pointer (some (ad.add (k * 13)))) W by go_simp
    have hlt0 : decide ((k : Int) < 0) = false := by simp
    have HK := Lib.hid hk
    generalize m[k] = y at *
    obtain ⟨t, ht⟩ : ∃ t, ts[k] = t := ⟨_, rfl⟩
    rw [ht] at hte hsv hld
    obtain ⟨y', tA, tc⟩ := t
    simp only at hte hsv hld
    subst hte
    obtain ⟨sn, hsn⟩ : ∃ sn, y'.sv.length = sn := ⟨_, rfl⟩
    rw [hsn] at hld
    have hb3 : Below w2.heap.size w2 (w2.alloc (.cells (enA (classU cl y') (.slice tA sn tc)) 35)) := (Below.refl _ _).alloc (Nat.le_refl _) _
    have HSET := Lib.hid (rset14_any (HI.out.below hb3) (fun s hs => Nat.lt_of_lt_of_le (HS.out s hs) hb3.size) k hk (classU cl y') tA sn tc hsn (hsv.1.below hb3) hsv.2)
    have HB3 := Lib.hid hb3
    generalize ad.add (k * 13) = q at *
    obtain ⟨W3, hW3⟩ : ∃ W3, w2.alloc (.cells (enA (classU cl y') (.slice tA sn tc)) 35) = W3 := ⟨_, rfl⟩
    rw [hW3] at HSET HB3
    unfold enA classU at hW3
    unfold enA at hld HSET
    have HW3 := Lib.hid hW3
    have HLD := Lib.hid hld
    clear hld hsn hsv ht hcl hg hmk HAT hkt hb3 hW3 hk
    simp only [classU] at HSET HW3
    go_wp2_with (refine wpList_loadW rfl 35 _ rfl _ _ rfl HLD.out ?_)
    rw [HW3.out]
    refine HSET.out.mono ?_
    rintro e w4 ⟨rfl, hI4, hk4⟩
    have HI4 := Lib.hid hI4
    have HK4 := Lib.hid ((Kept.of HB3.out [r]).trans hk4)
    clear hI4 hk4 HSET
    go_wp2
    go_ret
    rw [HG.out.1, HG.out.2]
    exact ⟨rfl, HI4.out, HK4.out⟩
set_option maxHeartbeats 4000000 in
theorem rmove14_any (h : IsRef S w r m) (hu : Uq m) (hS : ∀ s ∈ S, s < w.heap.size) (i : Int) (sq pl sz : Int) :
    Calls Try.prog 20 #[.pointer (some ⟨r, 0, none⟩), .int .i64 i, .int .i64 sq, .int .i64 pl, .int .i64 sz] w fun e w' => e = .returned (.bool (En.get m i).isSome) ∧ IsRef S w' r (En.upd m i (moveU sq pl sz)) ∧ Kept [r] w w' := by
  have HAT := Lib.hid (rat14_any h i)
  have HI := Lib.hid h
  obtain ⟨A, cap, ts, hbx, ht, h1, h2, hl, -, hok⟩ := h.row
  have c0 : w.cell? ⟨r, 0, none⟩ = some (.slice A m.length cap) := hbx.cell 0
  have hrl := hbx.lt
  have h1000 := h.few
  have HU := Lib.hid hu
  have HS := Lib.hid hS
  have HL := Lib.hid hl
  have HT := Lib.hid ht
  have HOK := Lib.hid hok
  obtain ⟨n, hn⟩ : ∃ n, m.length = n := ⟨_, rfl⟩
  rw [hn] at c0 h1 h1000
  have HN := Lib.hid hn
  clear h hbx ht hl hok hn hu hS
  unfold maxLen at h2
  go_enter Try.func20, Try.ntmps20
  go_wp2_with fail
  refine HAT.out.mono ?_
  rintro e w2 ⟨v, rfl, hat, rfl⟩
  rcases hat with ⟨rfl, hg⟩ | ⟨k, hk, rfl, hmk⟩
  · have HG := Lib.hid hg
    clear hg HAT
    go_wp2_with fail
    go_ret
    rw [HG.out, upd_none _ HG.out]
    exact ⟨rfl, HI.out, Kept.refl _ _⟩
  · have hg : En.get m i = some m[k] := by rw [← hmk]; exact get_of HU.out (List.getElem_mem hk)
    have HG := Lib.hid (show (En.get m i).isSome = true ∧ En.upd m i (moveU sq pl sz) = m.set k (moveU sq pl sz m[k]) from ⟨by rw [hg]; rfl, by rw [← hmk]; exact upd_at HU.out hk _⟩)
    have hkn : k < n := by rw [← HN.out]; exact hk
    have hkt : k < ts.length := by have := congrArg List.length HT.out; simp at this; omega
    obtain ⟨ad, rfl, hadb, hcl⟩ := at_ent HL.out k hkt
    have hte : ts[k].e = m[k] := by have := HT.out; subst this; simp
    have hsv := HOK.out ts[k] (List.getElem_mem hkt)
    have hld := run_loadRow w2 (ad.add (k * 13)) ts[k] (hcl w2 (Below.refl _ _))
    have hix := fun (W : World) => show (Instr.indexAt 51 (.slice (some ad) n cap) (.int .i64 (k : Int))).run Try.prog W = .ok (.pointer (some (ad.add (k * 13)))) W by go_simp
    have hlt0 : decide ((k : Int) < 0) = false := by simp
    have HK := Lib.hid hk
    generalize m[k] = y at *
    obtain ⟨t, ht⟩ : ∃ t, ts[k] = t := ⟨_, rfl⟩
    rw [ht] at hte hsv hld
    obtain ⟨y', tA, tc⟩ := t
    simp only at hte hsv hld
    subst hte
    obtain ⟨sn, hsn⟩ : ∃ sn, y'.sv.length = sn := ⟨_, rfl⟩
    rw [hsn] at hld
    have hb3 : Below w2.heap.size w2 (w2.alloc (.cells (enA (moveU sq pl sz y') (.slice tA sn tc)) 35)) := (Below.refl _ _).alloc (Nat.le_refl _) _
    have HSET := Lib.hid (rset14_any (HI.out.below hb3) (fun s hs => Nat.lt_of_lt_of_le (HS.out s hs) hb3.size) k hk (moveU sq pl sz y') tA sn tc hsn (hsv.1.below hb3) hsv.2)
    have HB3 := Lib.hid hb3
    generalize ad.add (k * 13) = q at *
    obtain ⟨W3, hW3⟩ : ∃ W3, w2.alloc (.cells (enA (moveU sq pl sz y') (.slice tA sn tc)) 35) = W3 := ⟨_, rfl⟩
    rw [hW3] at HSET HB3
    unfold enA moveU at hW3
    unfold enA at hld HSET
    have HW3 := Lib.hid hW3
    have HLD := Lib.hid hld
    clear hld hsn hsv ht hcl hg hmk HAT hkt hb3 hW3 hk
    simp only [moveU] at HSET HW3
    go_wp2_with (refine wpList_loadW rfl 35 _ rfl _ _ rfl HLD.out ?_)
    rw [HW3.out]
    refine HSET.out.mono ?_
    rintro e w4 ⟨rfl, hI4, hk4⟩
    have HI4 := Lib.hid hI4
    have HK4 := Lib.hid ((Kept.of HB3.out [r]).trans hk4)
    clear hI4 hk4 HSET
    go_wp2
    go_ret
    rw [HG.out.1, HG.out.2]
    exact ⟨rfl, HI4.out, HK4.out⟩
end
end Go.Proofs.Ytepfbpljkhchbaa
