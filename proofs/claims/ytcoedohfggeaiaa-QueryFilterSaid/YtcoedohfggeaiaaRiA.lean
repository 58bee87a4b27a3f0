/-
  Layer 14, the document's answer: how its index lies in memory (a row of entries, in order); New, Many, at, own: what they answer, of any index. Nothing is assumed but that it lies so.
-/
import Derived.Test.YtcoedohfggeaiaaLwR
import Derived.Test.YtcoedohfggeaiaaEnE
import Derived.BigQuiet

namespace Go.Proofs.Ytcoedohfggeaiaa
open Go.RowKit Go.Maps En
set_option maxRecDepth 100000

/-- what lies off some blocks lies off new ones too -/
theorem Off.fresh {S S' : List Nat} {w : World} {A : Option Addr} {xs : List Value} (hl : Lies w A xs) (h : Off S A xs) (hS : ∀ s ∈ S', s ∈ S ∨ w.heap.size ≤ s) : Off S' A xs := by
  rcases h with h | h
  · exact .inl h
  · rcases hl with h1 | ⟨ad, e1, hb, -⟩
    · exact .inl h1
    · refine .inr fun ad' e2 hm => ?_
      rw [e1] at e2; injection e2 with e2; subst e2
      rcases hS _ hm with h5 | h5
      · exact h ad e1 h5
      · omega

/-- the document's index at r: a row that reads as m, off the blocks S (others write into those) -/
structure IsRef (S : List Nat) (w : World) (r : Nat) (m : List E) : Prop where
  few : m.length ≤ 1000
  out : r ∉ S
  row : ∃ (A : Option Addr) (cap : Nat) (ts : List Ent), Blk w r #[.slice A m.length cap] 59 ∧ ts.map Ent.e = m ∧ m.length ≤ cap ∧ cap ≤ maxLen ∧ Lies w A (flatEn ts) ∧ Off (r :: S) A (flatEn ts) ∧ EntOk (r :: S) w ts
theorem IsRef.lt {S : List Nat} {w : World} {r : Nat} {m : List E} (h : IsRef S w r m) : r < w.heap.size := by
  obtain ⟨A, cap, ts, hb, -⟩ := h.row
  exact hb.lt
/-- others wrote into theirs, and memory grew -/
theorem IsRef.keep {S S' : List Nat} {w w' : World} {r : Nat} {m : List E} (h : IsRef S w r m) (k : Kept S' w w') (hS : ∀ s ∈ S', s ∈ S ∨ w.heap.size ≤ s) : IsRef S w' r m := by
  obtain ⟨A, cap, ts, hb, ht, h1, h2, hl, ho, hk⟩ := h.row
  have hS2 : ∀ s ∈ S', s ∈ r :: S ∨ w.heap.size ≤ s := fun s hs => (hS s hs).imp (List.mem_cons_of_mem _) id
  refine ⟨h.few, h.out, A, cap, ts, k.blk hb (fun hm => ?_), ht, h1, h2, hl.kept (Off.fresh hl ho hS2) k, ho, hk.kept k hS2⟩
  rcases hS r hm with h5 | h5
  · exact h.out h5
  · have := hb.lt; omega
theorem IsRef.below {S : List Nat} {w w' : World} {r : Nat} {m : List E} (h : IsRef S w r m) (k : Below w.heap.size w w') : IsRef S w' r m := h.keep (Kept.of k []) (by simp)
theorem IsRef.more {S S' : List Nat} {w : World} {r : Nat} {m : List E} (h : IsRef S w r m) (hS : ∀ s ∈ S', s ∈ S ∨ w.heap.size ≤ s) : IsRef S' w r m := by
  obtain ⟨A, cap, ts, hb, ht, h1, h2, hl, ho, hk⟩ := h.row
  have hS2 : ∀ s ∈ r :: S', s ∈ r :: S ∨ w.heap.size ≤ s := fun s hs => by
    rcases List.mem_cons.1 hs with rfl | hs
    · exact .inl (List.mem_cons_self ..)
    · exact (hS s hs).imp (List.mem_cons_of_mem _) id
  refine ⟨h.few, fun hm => ?_, A, cap, ts, hb, ht, h1, h2, hl, Off.fresh hl ho hS2, hk.more hS2⟩
  rcases hS r hm with h5 | h5
  · exact h.out h5
  · have := hb.lt; omega

theorem rnew14_any (S : List Nat) (w : World) (hS : ∀ s ∈ S, s < w.heap.size) :
    Calls Try.prog 27 #[] w fun e w' => ∃ r, e = .returned (.pointer (some ⟨r, 0, none⟩)) ∧ IsRef S w' r [] ∧ w.heap.size ≤ r ∧ Below w.heap.size w w' := by
  have hb := Blk.new w #[.slice none 0 0] 59
  have HI := Lib.hid (show IsRef S (w.alloc (.cells #[.slice none 0 0] 59)) w.heap.size [] from ⟨by simp, fun hm => by have := hS _ hm; omega, none, 0, [], hb, rfl, Nat.le_refl _, by unfold maxLen; omega, .inl rfl, .inl rfl, fun _ h => by cases h⟩)
  have HB := Lib.hid (show Below w.heap.size w (w.alloc (.cells #[.slice none 0 0] 59)) from (Below.refl _ _).alloc (Nat.le_refl _) _)
  clear hb hS
  go_enter Try.func27, Try.ntmps27
  go_wp2
  go_ret
  exact ⟨_, rfl, HI.out, Nat.le_refl _, HB.out⟩

section
variable {S : List Nat} {w : World} {r : Nat} {m : List E}
/-- where an entry is -/
def At14 (m : List E) (i v : Int) : Prop := (v = -1 ∧ En.get m i = none) ∨ ∃ k, ∃ hk : k < m.length, v = (k : Int) ∧ m[k].id = i
set_option maxHeartbeats 1000000 in
theorem rat14_any (h : IsRef S w r m) (i : Int) : Calls Try.prog 34 #[.pointer (some ⟨r, 0, none⟩), .int .i64 i] w fun e w' => ∃ v, e = .returned (.int .i64 v) ∧ At14 m i v ∧ w' = w := by
  obtain ⟨A, cap, ts, hb, ht, h1, h2, hl, -⟩ := h.row
  have c0 : w.cell? ⟨r, 0, none⟩ = some (.slice A m.length cap) := hb.cell 0
  have h1000 := h.few
  have HL := Lib.hid hl
  have HT := Lib.hid ht
  obtain ⟨n, hn⟩ : ∃ n, m.length = n := ⟨_, rfl⟩
  rw [hn] at c0 h1 h1000
  have HN := Lib.hid hn
  clear h hb ht hl hn
  unfold maxLen at h2
  go_enter Try.func34, Try.ntmps34
  go_wp2
  go_loopw [5] (fun s wr => ∃ k : Nat, s = .int .i64 (k : Int) ∧ k ≤ n ∧ wr = w ∧ ∀ j (hj : j < m.length), j < k → m[j].id ≠ i) (fun s _ => n - (intOf s).toNat)
  case atStart => exact ⟨0, rfl, Nat.zero_le _, rfl, fun j _ h => by omega⟩
  case round =>
    obtain ⟨k, rfl, hk, rfl, hno⟩ := hrel
    have HNO := Lib.hid hno
    clear hno
    by_cases hlt : k < n
    · have hkm : k < m.length := by rw [HN.out]; exact hlt
      have hkt : k < ts.length := by have := congrArg List.length HT.out; simp at this; omega
      obtain ⟨ad, rfl, hadb, hcl⟩ := at_ent HL.out k hkt
      obtain ⟨d0, -⟩ := ent_all (hcl wr (Below.refl _ _))
      obtain ⟨j, hj⟩ : ∃ j, (m[k]'hkm).id = j := ⟨_, rfl⟩
      have hte : (ts[k]'hkt).e.id = j := by rw [← hj]; have := HT.out; subst this; simp
      rw [hte] at d0
      have hix := fun (W : World) => show (Instr.indexAt 22 (.slice (some ad) n cap) (.int .i64 (k : Int))).run Try.prog W = .ok (.pointer (some (ad.add (k * 13)))) W by go_simp
      have HKM := Lib.hid hkm
      have HJ := Lib.hid hj
      clear hcl hte hj
      generalize ad.add (k * 13) = q at *
      by_cases hid : j = i
      · have hq : (j == i) = true := by simpa using hid
        have HID := Lib.hid hid
        clear hid
        go_wp2_with fail
        go_ret
        exact ⟨_, rfl, .inr ⟨k, HKM.out, rfl, by rw [HJ.out, HID.out]⟩, rfl⟩
      · have hq : (j == i) = false := by simpa using hid
        have HID := Lib.hid hid
        clear hid
        go_wp2_with fail
        go_roundw
        case rel =>
          refine ⟨k + 1, by go_num, by omega, by trivial, fun j' hj' hlt' => ?_⟩
          by_cases e : j' < k
          · exact HNO.out j' hj' e
          · obtain rfl : j' = k := by omega
            rw [HJ.out]; exact HID.out
        case measure => simp [intOf]; omega
    · obtain rfl : k = n := by omega
      go_wp2
      go_ret
      refine ⟨_, rfl, .inl ⟨rfl, get_none.2 fun e he => ?_⟩, rfl⟩
      obtain ⟨j, hj, rfl⟩ := List.getElem_of_mem he
      exact HNO.out j hj (by have := HN.out; omega)
end

set_option maxHeartbeats 4000000 in
theorem rown14_any (x : E) (A : Option Addr) (n cap : Nat) (w : World) (hn : x.sv.length = n) (hS : Svs w x.sv A cap) :
    Calls Try.prog 33 #[.agg (enA x (.slice A n cap))] w fun e w' => ∃ v, e = .returned (.agg (enA x v)) ∧ w'.ownsRow w.heap.size 9 1 v n (strs x.sv) ∧ Below w.heap.size w w' := by
  obtain ⟨i0, hi, hz0, hz1, hz2⟩ := info_parts infoStr14
  have hb1 := BoxE.new w x (.slice A n cap)
  have hB1 : Below w.heap.size w (w.alloc (.cells (enA x (.slice A n cap)) 29)) := (Below.refl _ _).alloc (Nat.le_refl _) _
  have hz1' : (w.alloc (.cells (enA x (.slice A n cap)) 29)).heap.size = w.heap.size + 1 := by simp
  obtain ⟨W1, hW1⟩ : ∃ W1, w.alloc (.cells (enA x (.slice A n cap)) 29) = W1 := ⟨_, rfl⟩
  rw [hW1] at hb1 hB1 hz1'
  have hb0 := BoxE.new W1 E.zero (.slice none 0 0)
  rw [hz1'] at hb0
  have hk2 : Below W1.heap.size W1 (W1.alloc (.cells (enA E.zero (.slice none 0 0)) 29)) := (Below.refl _ _).alloc (Nat.le_refl _) _
  have hz2' : (W1.alloc (.cells (enA E.zero (.slice none 0 0)) 29)).heap.size = w.heap.size + 2 := by simp [hz1']
  obtain ⟨W2, hW2⟩ : ∃ W2, W1.alloc (.cells (enA E.zero (.slice none 0 0)) 29) = W2 := ⟨_, rfl⟩
  rw [hW2] at hb0 hk2 hz2'
  have hk3 : Below W2.heap.size W2 (W2.alloc (.cells #[] 9)) := (Below.refl _ _).alloc (Nat.le_refl _) _
  obtain ⟨W3, hW3⟩ : ∃ W3, W2.alloc (.cells #[] 9) = W3 := ⟨_, rfl⟩
  have hz3 : W3.heap.size = w.heap.size + 3 := by rw [← hW3]; simp [hz2']
  have hH : W3.ownsRow (w.heap.size + 2) 9 1 (.slice (some ⟨w.heap.size + 2, 0, none⟩) 0 0) 0 [] := by
    have := World.ownsRow_lit (base := w.heap.size + 2) (e := 9) (size := 1) W2 #[] 0 (by omega) (by unfold maxLen; omega) rfl
    rw [← hW3, ← hz2']
    simpa [hz2'] using this
  rw [hW3] at hk3
  have hB2 := hB1.trans (hk2.mono hB1.size)
  have hB3 := hB2.trans (hk3.mono hB2.size)
  have HB3 := Lib.hid hB3
  have HX0 := Lib.hid ((hb0.below hk3))
  have HX1 := Lib.hid ((hb1.below hk2).below hk3)
  have hx1 := HX1.out.cell 9
  have HL3 := Lib.hid (hS.lies.below hB3)
  have HN := Lib.hid hn
  have HN9 := Lib.hid (show n ≤ 9000 by have := hS.few; omega)
  have HFL := Lib.hid (show (strs x.sv).length = n * 1 by rw [strs_length, hn, Nat.mul_one])
  have HF1 := Lib.hid (strs_one x.sv)
  have HH := Lib.hid hH
  have HW1 := Lib.hid hW1
  have HW2 := Lib.hid hW2
  have HW3 := Lib.hid hW3
  have HZ3 := Lib.hid hz3
  have HSZ2 := Lib.hid hz2'
  have hx1l := HX1.out.lt
  clear hb1 hB1 hz1' hb0 hk2 hz2' hk3 hB2 hB3 hH hW1 hW2 hW3 hz3 hn hS
  simp [enA] at hx1
  obtain ⟨xid, xcl, xti, xco, xpi, xbi, xlo, xhi, xma, xsv, xse, xpl, xsz⟩ := x
  simp only at HN HFL HF1 HL3
  unfold enA at HW1 HW2
  unfold enA
  simp only [E.zero] at HW2
  go_enter Try.func33, Try.ntmps33
  go_wp2_with (at_builtin; refine wpList_appK rfl _ _ 25 rfl (w.heap.size + 2) 9 i0 (.string .empty) 1 16 Try.underlying25 hi hz0 hz1 hz2 rfl (by omega) (.slice (some ⟨w.heap.size + 2, 0, none⟩) 0 0) 0 [] rfl ?b1 A n cap (strs xsv) rfl HFL.out ?b2 HF1.out ?b4 ?b5 ?b6 ?b7)
  case b1 => rw [HW1.out, HW2.out, HW3.out]; exact HH.out
  case b2 => rw [HW1.out, HW2.out, HW3.out]; exact HL3.out
  case b4 => have := HN9.out; unfold maxLen; omega
  case b5 => have := HN9.out; omega
  case b7 =>
    rw [HW1.out, HW2.out, HW3.out]
    intro v4 w4 ho4 hg4 _
    have hg4' : W3.grownBy w4 (some (w.heap.size + 2)) := hg4
    have hk4 := grown_kept hg4'
    have hb0 := hk4.blk HX0.out (by simp)
    have hb1 := hk4.blk HX1.out (by simp)
    have HB4 := Lib.hid (Kept.below HB3.out hk4 (by simp))
    obtain ⟨A', cap', rfl, -, -⟩ := row_svs (w0 := w) (own_mono14 ho4 (by omega)) HN.out HN9.out
    have HO := Lib.hid (own_kept14 ho4 (S := [w.heap.size, w.heap.size + 1]) (w' := (w4.setCell ⟨w.heap.size, 9, none⟩ (.slice A' n cap'))) (((Kept.refl _ _).setCell (by simp) _)) (by simp))
    have HKZ := Lib.hid (show Kept [w.heap.size] w4 (w4.setCell ⟨w.heap.size, 9, none⟩ (.slice A' n cap')) from (Kept.refl _ _).setCell (by simp) _)
    have HBZ := Lib.hid (HKZ.out.blk hb0 (by simp))
    have HS4 := Lib.hid (show w.heap.size + 3 ≤ w4.heap.size from HZ3.out ▸ hk4.size)
    obtain ⟨a0, a1, a2, a3, a4, a5, a6, a7, a8, a9, a10, a11, a12⟩ := BoxE.all hb0
    obtain ⟨f0, f1, f2, f3, f4, f5, f6, f7, f8, f9, f10, f11, f12⟩ := BoxE.melt hb0
    obtain ⟨b0, b1, b2, b3, b4, b5, b6, b7, b8, b9, b10, b11, b12⟩ := BoxE.all hb1
    have g9 := hb1.frozen 9
    simp only [E.zero] at a0 a1 a2 a3 a4 a5 a6 a7 a8 a9 a10 a11 a12 b0 b1 b2 b3 b4 b5 b6 b7 b8 b9 b10 b11 b12
    clear ho4 hg4 hg4' hk4 hb0 hb1 HX0 HX1 HL3 HH HB3
    go_wp2_with fail
    have HF := BoxE.over HBZ.out ⟨xid, xcl, xti, xco, xpi, xbi, xlo, xhi, xma, xsv, xse, xpl, xsz⟩ (.slice A' n cap')
    have HK := kept13 (w4.setCell ⟨w.heap.size, 9, none⟩ (.slice A' n cap')) (w.heap.size + 1) ⟨xid, xcl, xti, xco, xpi, xbi, xlo, xhi, xma, xsv, xse, xpl, xsz⟩ (.slice A' n cap')
    have hB5 := Kept.below (Kept.below HB4.out HKZ.out (by simp)) HK (by simp)
    have hO5 := own_mono14 (own_kept14 HO.out HK (by simp)) (base' := w.heap.size) (by omega)
    simp only at HF hB5 hO5
    clear HK HO HBZ HKZ HB4 a0 a1 a2 a3 a4 a5 a6 a7 a8 a9 a10 a11 a12 f0 f1 f2 f3 f4 f5 f6 f7 f8 f9 f10 f11 f12 b0 b1 b2 b3 b4 b5 b6 b7 b8 b9 b10 b11 b12 g9
    revert HF hB5 hO5
    generalize World.setCell _ _ _ = wf
    intro HF hB5 hO5
    obtain ⟨y0, y1, y2, y3, y4, y5, y6, y7, y8, y9, y10, y11, y12⟩ := HF.all
    refine bodyPost_ret (v := .agg #[.int .i64 xid, .int .i64 xcl, .int .i64 xti, .int .i64 xco, .bool xpi, .int .i64 xbi, .int .i64 xlo, .int .i64 xhi, .int .i64 xma, .slice A' n cap', .int .i64 xse, .int .i64 xpl, .int .i64 xsz]) (w := wf) (by simp [results, Try.results33, go_sem, y0, y1, y2, y3, y4, y5, y6, y7, y8, y9, y10, y11, y12]) rfl ?_
    exact ⟨_, rfl, hO5, hB5⟩
end Go.Proofs.Ytcoedohfggeaiaa
