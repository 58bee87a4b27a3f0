/-
  TbU: Layer 9: table.told: the table that bytes would be of. Assumed: that the bytes lie in memory.
  TbG: Layer 9: bytes.Equal, and table.Get: what it answers, of any bytes. Assumed: that the bytes lie in memory, and that the program's table holds what its text lays there.
-/
import Derived.Test.YtehnhjnkbclnlaaGreatDoorTabP

namespace Go.Proofs.YtehnhjnkbclnlaaGreatDoor
open Go.RowKit
set_option maxRecDepth 100000

theorem flatX_set (q l : Int) : ∀ (xs : List Tb.Ext) (i : Nat), i < xs.length → ((flatX xs).set (i * 2) (.int .i64 q)).set (i * 2 + 1) (.int .i64 l) = flatX (xs.set i ⟨q, l⟩)
  | [], _, h => by simp at h
  | x :: xs, 0, _ => rfl
  | x :: xs, i + 1, h => by
    have ih := flatX_set q l xs i (by simpa using h)
    have e : flatX (x :: xs) = .int .i64 x.q :: .int .i64 x.l :: flatX xs := rfl
    have e2 : flatX ((x :: xs).set (i + 1) ⟨q, l⟩) = .int .i64 x.q :: .int .i64 x.l :: flatX (xs.set i ⟨q, l⟩) := rfl
    rw [e, e2, ← ih, show (i + 1) * 2 = i * 2 + 1 + 1 by omega]
    rfl
/-- the first ones filled -/
def filled (f : Nat → Tb.Ext) (i n : Nat) : List Tb.Ext := (List.range n).map fun j => if j < i then f j else ⟨0, 0⟩
theorem filled_length (f : Nat → Tb.Ext) (i n : Nat) : (filled f i n).length = n := by simp [filled]
theorem filled_zero (f : Nat → Tb.Ext) (n : Nat) : filled f 0 n = List.replicate n ⟨0, 0⟩ := by
  unfold filled
  apply List.ext_getElem
  · simp
  · intro j h1 h2
    simp
theorem filled_all (f : Nat → Tb.Ext) (n : Nat) : filled f n n = (List.range n).map f := by
  unfold filled
  apply List.map_congr_left
  intro j hj
  rw [if_pos (List.mem_range.1 hj)]
theorem filled_set (f : Nat → Tb.Ext) (i n : Nat) : (filled f i n).set i (f i) = filled f (i + 1) n := by
  unfold filled
  apply List.ext_getElem
  · simp
  · intro j h1 h2
    rw [List.getElem_set]
    simp only [List.getElem_map, List.getElem_range]
    by_cases h : i = j
    · subst h; simp
    · rw [if_neg h]
      by_cases h3 : j < i
      · rw [if_pos h3, if_pos (by omega)]
      · rw [if_neg h3, if_neg (by omega)]
theorem infoEx : (Tryz.prog.info? 81).map (fun i => (i.zero, i.size, i.bytes)) = some (some (.agg #[.int .i64 0, .int .i64 0]), 2, 16) := by kernel_rfl
theorem made_exts (n : Nat) (hn : n ≤ 8) : madeCells #[.int .i64 0, .int .i64 0] (n * 2) = (flatX (List.replicate n ⟨0, 0⟩)).toArray := by
  obtain rfl | rfl | rfl | rfl | rfl | rfl | rfl | rfl | rfl : n = 0 ∨ n = 1 ∨ n = 2 ∨ n = 3 ∨ n = 4 ∨ n = 5 ∨ n = 6 ∨ n = 7 ∨ n = 8 := by omega
  all_goals kernel_rfl
theorem make_exts (w : World) (n : Nat) (hn : n ≤ 8) : (Instr.makeSlice 29 (.int .i64 (n : Int)) (.int .i64 (n : Int))).run Tryz.prog w = .ok (.slice (some ⟨w.heap.size, 0, none⟩) n n) (w.alloc (.cells (flatX (List.replicate n ⟨0, 0⟩)).toArray 81)) := by
  obtain ⟨i0, hi, hz0, hz1, hz2⟩ := info_parts infoEx
  have h := run_make (P := Tryz.prog) w 29 81 i0 (.agg #[.int .i64 0, .int .i64 0]) Tryz.underlying29 hi hz0 .i64 .i64 (n : Int) (n : Int) (by omega) (by omega) (by rw [hz2]; omega) (by omega)
  rw [Int.toNat_natCast] at h
  rw [← made_exts n hn]
  simpa [hz1, Value.cells] using h
theorem num_one (bs : List UInt8) (k : Nat) (hk : k < bs.length) : Tb.num ((bs.drop k).take 1) = (bs.getD k 0).toNat := by
  rw [List.drop_eq_getElem_cons hk, List.take_succ_cons, List.take_zero, Tb.num, Tb.num, List.getD_eq_getElem?_getD, List.getElem?_eq_getElem hk]
  rfl
theorem Blk.stored3 {W : World} {s : Nat} {a b c : Value} {t : TypeId} (h : Blk W s #[a, b, c] t) (x y z : Value) : Blk (((W.setCell ⟨s, 0, none⟩ x).setCell ⟨s, 1, none⟩ y).setCell ⟨s, 2, none⟩ z) s #[x, y, z] t := ((h.set 0 x).set 1 y).set 2 z
theorem Blk.three {W : World} {s : Nat} {a b c : Value} {t : TypeId} (h : Blk W s #[a, b, c] t) : W.cell? ⟨s, 0, none⟩ = some a ∧ W.cell? ⟨s, 1, none⟩ = some b ∧ W.cell? ⟨s, 2, none⟩ = some c := ⟨h.cell 0, h.cell 1, h.cell 2⟩
theorem Kept.stored3 {W W0 : World} {S : List Nat} (h : Kept S W0 W) {s : Nat} (hs : s ∈ S) (x y z : Value) : Kept S W0 (((W.setCell ⟨s, 0, none⟩ x).setCell ⟨s, 1, none⟩ y).setCell ⟨s, 2, none⟩ z) := ((h.setCell (p := ⟨s, 0, none⟩) hs x).setCell (p := ⟨s, 1, none⟩) hs y).setCell (p := ⟨s, 2, none⟩) hs z
def toldIs (bs : List UInt8) : Tb.T := if (bs.getD 4 0).toNat ≤ 8 then Tb.toldT bs else Tb.T.zero

set_option maxHeartbeats 4000000 in
theorem told_any (bb bo cap : Nat) (bs : List UInt8) (hbs : bs.length = 63) (hc : 63 ≤ cap) (w : World) (hbb : bb < w.heap.size) (hr : w.rangeAt bb bo (cells bs)) :
    Calls Tryz.prog 59 #[.slice (some ⟨bb, bo, none⟩) 63 cap] w fun e w' => ∃ A n c, e = .returned (tabV (toldIs bs).gen (toldIs bs).opn A n c) ∧ (toldIs bs).xs.length = n ∧ n ≤ c ∧ Lies w' A (flatX (toldIs bs).xs) ∧ Below w.heap.size w w' ∧ ∀ ad, A = some ad → w.heap.size ≤ ad.block := by
  have HBS := Lib.hid hbs
  have HRNG := Lib.hid (fun (W : World) (e : W.heap[bb]? = w.heap[bb]?) => rangeAt_block hr e)
  have HD4 := Lib.hid (show (bs.drop 4).length = 59 by rw [List.length_drop, hbs])
  have HRNk := Lib.hid (fun (k : Nat) (W : World) (e : W.heap[bb]? = w.heap[bb]?) => show W.rangeAt bb (bo + k) (cells (bs.drop k)) from fun j v hv => by
    have := rangeAt_block hr e (k + j) v (by rw [← cells_drop, List.getElem?_drop] at hv; exact hv)
    rwa [← Nat.add_assoc] at this)
  have HRN4 := Lib.hid (fun (W : World) (e : W.heap[bb]? = w.heap[bb]?) => show W.rangeAt bb (bo + 4) (cells (bs.drop 4)) from fun j v hv => by
    have := rangeAt_block hr e (4 + j) v (by rw [← cells_drop, List.getElem?_drop] at hv; exact hv)
    rwa [← Nat.add_assoc] at this)
  have HB0 := Lib.hid ((((((Below.refl w.heap.size w).alloc (Nat.le_refl _) (.cells #[.int .i64 0, .int .i64 0, .slice none 0 0] 31)).alloc (by simp) (.cells #[.int .i64 0, .int .i64 0, .slice none 0 0] 31)).alloc (by simp; omega) (.cells #[.int .i64 0] 3)).alloc (by simp; omega) (.cells #[.int .i64 0] 3)))
  have hg0 := Blk.new w #[.int .i64 0, .int .i64 0, .slice none 0 0] 31
  obtain ⟨WA, hWA⟩ : ∃ WA, w.alloc (.cells #[.int .i64 0, .int .i64 0, .slice none 0 0] 31) = WA := ⟨_, rfl⟩
  rw [hWA] at hg0 HB0
  have hsA : WA.heap.size = w.heap.size + 1 := by rw [← hWA]; simp
  have hg1 := Blk.new WA #[.int .i64 0, .int .i64 0, .slice none 0 0] 31
  obtain ⟨WB, hWB⟩ : ∃ WB, WA.alloc (.cells #[.int .i64 0, .int .i64 0, .slice none 0 0] 31) = WB := ⟨_, rfl⟩
  rw [hWB] at hg1 HB0
  have hsB : WB.heap.size = w.heap.size + 2 := by rw [← hWB]; simp; omega
  have hg2 := Blk.new WB #[.int .i64 0] 3
  obtain ⟨WC, hWC⟩ : ∃ WC, WB.alloc (.cells #[.int .i64 0] 3) = WC := ⟨_, rfl⟩
  rw [hWC] at hg2 HB0
  have hsC : WC.heap.size = w.heap.size + 3 := by rw [← hWC]; simp; omega
  have hg3 := Blk.new WC #[.int .i64 0] 3
  obtain ⟨WD, hWD⟩ : ∃ WD, WC.alloc (.cells #[.int .i64 0] 3) = WD := ⟨_, rfl⟩
  rw [hWD] at hg3 HB0
  have hsD : WD.heap.size = w.heap.size + 4 := by rw [← hWD]; simp; omega
  have bAB : Below WA.heap.size WA WB := by rw [← hWB]; exact (Below.refl _ _).alloc (Nat.le_refl _) _
  have bBC : Below WB.heap.size WB WC := by rw [← hWC]; exact (Below.refl _ _).alloc (Nat.le_refl _) _
  have bCD : Below WC.heap.size WC WD := by rw [← hWD]; exact (Below.refl _ _).alloc (Nat.le_refl _) _
  rw [hsA] at hg1
  rw [hsB] at hg2
  rw [hsC] at hg3
  have HG0 := Lib.hid (((hg0.below bAB (Nat.le_refl _)).below bBC (Nat.le_refl _)).below bCD (Nat.le_refl _))
  have HG1 := Lib.hid ((hg1.below bBC (Nat.le_refl _)).below bCD (Nat.le_refl _))
  have HG2 := Lib.hid (hg2.below bCD (Nat.le_refl _))
  have HG3 := Lib.hid hg3
  have HWS := Lib.hid hsD
  have HWALL := Lib.hid (show (((w.alloc (.cells #[.int .i64 0, .int .i64 0, .slice none 0 0] 31)).alloc (.cells #[.int .i64 0, .int .i64 0, .slice none 0 0] 31)).alloc (.cells #[.int .i64 0] 3)).alloc (.cells #[.int .i64 0] 3) = WD by rw [hWA, hWB, hWC, hWD])
  clear hr hbs hg0 hg1 hg2 hg3 hsA hsB hsC hsD bAB bBC bCD hWA hWB hWC hWD
  go_enter Tryz.func59, Tryz.ntmps59
  go_wp2_with fail
  rw [HWALL.out]
  refine (take_L 4 63 cap bb bo (w.heap.size + 1) 0 1 (by omega) (by omega) hc bs HBS.out #[.int .i64 0, .int .i64 0, .slice none 0 0] 31 ⟨w.heap.size + 1 + 1 + 1 + 1, 0, none⟩ _ (HG1.out.below ((Below.refl _ _).alloc (Nat.le_refl _) _) (Nat.le_refl _)) (by simp) ⟨0, ?t1⟩ ?t2 ?t3).mono ?_
  case t1 => exact (HG1.out.below ((Below.refl _ _).alloc (Nat.le_refl _) _) (Nat.le_refl _)).cell 0
  case t2 =>
    intro W hW
    refine HRNG.out W ((hW.block bb (by have := HWS.out; simp; omega) (by simp; omega)).trans ?_)
    exact (((Below.refl WD.heap.size WD).alloc (Nat.le_refl _) _).block bb (by have := HWS.out; omega)).trans (HB0.out.block bb hbb)
  case t3 => have := (Blk.new WD #[.pointer (some ⟨w.heap.size + 1, 0, none⟩)] 111).cell 0; rw [HWS.out] at this; exact this
  rintro e w1 ⟨rfl, hb1, hk1⟩
  have hkD := ((Kept.refl [w.heap.size + 1] WD).alloc (.cells #[.pointer (some ⟨w.heap.size + 1, 0, none⟩)] 111)).trans hk1
  have HG0a := Lib.hid (hkD.blk HG0.out (by simp))
  have HG1a := Lib.hid hb1
  have HG2a := Lib.hid (hkD.blk HG2.out (by simp))
  have HG3a := Lib.hid (hkD.blk HG3.out (by simp))
  have HB1 := Lib.hid (Kept.below HB0.out hkD (by simp))
  have HS1 := Lib.hid (show w.heap.size + 4 ≤ w1.heap.size by have := hkD.size; have := HWS.out; omega)
  clear hb1 hk1 hkD
  go_wp2_with fail
  refine (take_two 1 59 (cap - 4) bb (bo + 4) (w.heap.size + 1 + 1) (w.heap.size + 1 + 1 + 1) 2 (by omega) (by omega) (by omega) (by omega) (bs.drop 4) HD4.out #[.int .i64 0] #[.int .i64 0] 3 3 w1.heap.size _ (HG2a.out.below ((Below.refl _ _).alloc (Nat.le_refl _) _) (Nat.le_refl _)) (HG3a.out.below ((Below.refl _ _).alloc (Nat.le_refl _) _) (Nat.le_refl _)) (by simp) (by simp) ⟨0, ?t1⟩ ⟨0, ?t2⟩ ?t3 ?t4).mono ?_
  case t1 => exact (HG2a.out.below ((Below.refl _ _).alloc (Nat.le_refl _) _) (Nat.le_refl _)).cell 0
  case t2 => exact (HG3a.out.below ((Below.refl _ _).alloc (Nat.le_refl _) _) (Nat.le_refl _)).cell 0
  case t3 =>
    intro W hW
    refine HRN4.out W ((hW.block bb (by have := HS1.out; simp; omega) (by simp; omega)).trans ?_)
    exact (((Below.refl w1.heap.size w1).alloc (Nat.le_refl _) _).block bb (by have := HS1.out; omega)).trans (HB1.out.block bb hbb)
  case t4 =>
    intro W hW
    have h := hW.blk (Blk.new w1 #[.pointer (some ⟨w.heap.size + 1 + 1, 0, none⟩), .pointer (some ⟨w.heap.size + 1 + 1 + 1, 0, none⟩)] 113) (by have := HS1.out; simp; omega)
    exact ⟨h.cell 0, h.cell 1⟩
  rintro e w2 ⟨rfl, hb2, hb3, hk2⟩
  have hkE := ((Kept.refl [w.heap.size + 1 + 1, w.heap.size + 1 + 1 + 1] w1).alloc (.cells #[.pointer (some ⟨w.heap.size + 1 + 1, 0, none⟩), .pointer (some ⟨w.heap.size + 1 + 1 + 1, 0, none⟩)] 113)).trans hk2
  have HG0b := Lib.hid (hkE.blk HG0a.out (by simp <;> omega))
  have hg1b := hkE.blk HG1a.out (by simp <;> omega)
  have HG1b := Lib.hid hg1b
  rw [num_one bs 4 (by rw [HBS.out]; omega)] at hb2
  rw [List.drop_drop, num_one bs 5 (by rw [HBS.out]; omega)] at hb3
  have HB2 := Lib.hid (Kept.below HB1.out hkE (by simp <;> omega))
  have HS2 := Lib.hid (show w.heap.size + 4 ≤ w2.heap.size by have := hkE.size; have := HS1.out; omega)
  have HMN := Lib.hid (bs.getD 4 0).toNat_lt
  have HNX := Lib.hid (bs.getD 5 0).toNat_lt
  have HTI := Lib.hid (show toldIs bs = if (bs.getD 4 0).toNat ≤ 8 then ⟨(Tb.num (bs.take 4) : Int), ((bs.getD 5 0).toNat : Int) - 1, (List.range (min (bs.getD 4 0).toNat 8)).map (Tb.extAt (bs.drop 6))⟩ else Tb.T.zero from rfl)
  generalize (bs.getD 4 0).toNat = mn at *
  generalize (bs.getD 5 0).toNat = nx at *
  generalize Tb.num (bs.take 4) = gn at *
  clear hk2 hkE
  have z2 : w2.cell? ⟨w.heap.size + 1 + 1, 0, none⟩ = some (.int .i64 (mn : Int)) := hb2.cell 0
  have z3 : w2.cell? ⟨w.heap.size + 1 + 1 + 1, 0, none⟩ = some (.int .i64 (nx : Int)) := hb3.cell 0
  clear hb2 hb3 hg1b
  by_cases h8 : 8 < mn
  · have hd : decide ((8 : Int) < (mn : Int)) = true := by simp; omega
    have HTZ := Lib.hid (show toldIs bs = Tb.T.zero by rw [HTI.out, if_neg (by omega)])
    have hgz := HG0b.out
    have q0 : w2.cell? ⟨w.heap.size, 0, none⟩ = some (.int .i64 0) := hgz.cell 0
    have q1 : w2.cell? ⟨w.heap.size, 1, none⟩ = some (.int .i64 0) := hgz.cell 1
    have q2 : w2.cell? ⟨w.heap.size, 2, none⟩ = some (.slice none 0 0) := hgz.cell 2
    have f0 := hgz.frozen 0
    have f1 := hgz.frozen 1
    have f2 := hgz.frozen 2
    clear hgz
    go_wp2
    have hf := HG0b.out.stored3 (.int .i64 0) (.int .i64 0) (.slice none 0 0)
    have hk := Kept.below HB2.out ((Kept.refl [w.heap.size] w2).stored3 (s := w.heap.size) (by simp) (.int .i64 0) (.int .i64 0) (.slice none 0 0)) (by simp)
    generalize ((w2.setCell ⟨w.heap.size, 0, none⟩ (.int .i64 0)).setCell ⟨w.heap.size, 1, none⟩ (.int .i64 0)).setCell ⟨w.heap.size, 2, none⟩ (.slice none 0 0) = wf at *
    obtain ⟨y0, y1, y2⟩ := hf.three
    refine bodyPost_ret (v := tabV 0 0 none 0 0) (w := wf) (by simp [results, Tryz.results59, go_sem, y0, y1, y2]) rfl ?_
    rw [HTZ.out]
    exact ⟨none, 0, 0, rfl, rfl, Nat.le_refl _, Lies.nil, hk, fun _ h => by cases h⟩
  · have hd : decide ((8 : Int) < (mn : Int)) = false := by simp; omega
    have hmk := fun W => make_exts W mn (by omega)
    have HG1c := Lib.hid (show Blk w2 (w.heap.size + 1) #[.int .i64 (gn : Int), .int .i64 0, .slice none 0 0] 31 from HG1b.out)
    obtain ⟨p0, p1, p2⟩ := HG1c.out.three
    have f1 := HG1c.out.frozen 1
    have f2 := HG1c.out.frozen 2
    have hnz : IntKind.i64.wrap ((nx : Int) - 1) = (nx : Int) - 1 := by have := HNX.out; rw [IntKind.wrap_i64]; omega
    have HGd := Lib.hid (show Blk ((w2.setCell ⟨w.heap.size + 1, 1, none⟩ (.int .i64 ((nx : Int) - 1))).alloc (.cells (flatX (List.replicate mn ⟨0, 0⟩)).toArray 81)) (w.heap.size + 1) #[.int .i64 (gn : Int), .int .i64 ((nx : Int) - 1), .slice none 0 0] 31 from (HG1c.out.set 1 _).below ((Below.refl _ _).alloc (Nat.le_refl _) _) (Nat.le_refl _))
    have hhd := Blk.new (w2.setCell ⟨w.heap.size + 1, 1, none⟩ (.int .i64 ((nx : Int) - 1))) (flatX (List.replicate mn ⟨0, 0⟩)).toArray 81
    rw [show (w2.setCell ⟨w.heap.size + 1, 1, none⟩ (.int .i64 ((nx : Int) - 1))).heap.size = w2.heap.size by simp] at hhd
    have HHd := Lib.hid hhd
    clear hhd
    have r2 := HGd.out.cell 2
    have q2 := HGd.out.frozen 2
    have hKd := (((Kept.refl [w.heap.size + 1] w2).setCell (p := ⟨w.heap.size + 1, 1, none⟩) (by simp) (.int .i64 ((nx : Int) - 1))).alloc (.cells (flatX (List.replicate mn ⟨0, 0⟩)).toArray 81)).setCell (p := ⟨w.heap.size + 1, 2, none⟩) (by simp) (.slice (some ⟨w2.heap.size, 0, none⟩) mn mn)
    have HG0e := Lib.hid (hKd.blk HG0b.out (by simp))
    have hk2 := (Kept.refl [w.heap.size + 1] ((w2.setCell ⟨w.heap.size + 1, 1, none⟩ (.int .i64 ((nx : Int) - 1))).alloc (.cells (flatX (List.replicate mn ⟨0, 0⟩)).toArray 81))).setCell (p := ⟨w.heap.size + 1, 2, none⟩) (by simp) (.slice (some ⟨w2.heap.size, 0, none⟩) mn mn)
    have HHe := Lib.hid (hk2.blk HHd.out (by have := HS2.out; simp; omega))
    have HG1e := Lib.hid (HGd.out.set 2 (.slice (some ⟨w2.heap.size, 0, none⟩) mn mn))
    have HBe := Lib.hid (Kept.below HB2.out hKd (by simp))
    have HSe := Lib.hid hKd.size
    clear hKd hk2
    go_wp2_with fail
    have HH := Lib.hid (show w.heap.size + 4 ≤ w2.heap.size from HS2.out)
    generalize w2.heap.size = h at *
    clear hmk p0 p1 p2 f1 f2 hnz r2 q2 hd z2 z3 HGd HHd
    generalize ((w2.setCell ⟨w.heap.size + 1, 1, none⟩ (.int .i64 ((nx : Int) - 1))).alloc (.cells (flatX (List.replicate mn ⟨0, 0⟩)).toArray 81)).setCell ⟨w.heap.size + 1, 2, none⟩ (.slice (some ⟨h, 0, none⟩) mn mn) = w3 at *
    have HG1f := Lib.hid (show Blk w3 (w.heap.size + 1) #[.int .i64 (gn : Int), .int .i64 ((nx : Int) - 1), .slice (some ⟨h, 0, none⟩) mn mn] 31 from HG1e.out)
    go_loopw [0, 27] (fun vb vi wr => ∃ i : Nat, vi = .int .i64 i ∧ i ≤ mn ∧ vb = .slice (some ⟨bb, bo + (6 + 6 * i), none⟩) (57 - 6 * i) (cap - (6 + 6 * i)) ∧ Blk wr h (flatX (filled (Tb.extAt (bs.drop 6)) i mn)).toArray 81 ∧ Blk wr (w.heap.size + 1) #[.int .i64 (gn : Int), .int .i64 ((nx : Int) - 1), .slice (some ⟨h, 0, none⟩) mn mn] 31 ∧ Blk wr w.heap.size #[.int .i64 0, .int .i64 0, .slice none 0 0] 31 ∧ Below w.heap.size w wr) (fun _ vi _ => mn - (intOf vi).toNat)
    case atStart => exact ⟨0, rfl, by omega, by rw [show bo + (6 + 6 * 0) = bo + 4 + 1 + 1 by omega, show cap - (6 + 6 * 0) = cap - 4 - 1 - 1 by omega], by rw [filled_zero]; exact HHe.out, HG1f.out, HG0e.out, HBe.out⟩
    case round =>
      obtain ⟨i, rfl, him, rfl, hbh, hb1, hb0, hbr⟩ := hrel
      have HBH := Lib.hid hbh
      have HBT := Lib.hid hb1
      have HBZ := Lib.hid hb0
      obtain ⟨p0, p1, p2⟩ := hb1.three
      clear hbh hb1 hb0 p0 p1
      by_cases hin : i < mn
      · have hi8 : i < 8 := by omega
        have HL := Lib.hid (show (bs.drop (6 + 6 * i)).length = 57 - 6 * i by rw [List.length_drop, HBS.out]; omega)
        have HL2 := Lib.hid (show (bs.drop (6 + 6 * i + 4)).length = 57 - 6 * i - 4 by rw [List.length_drop, HBS.out]; omega)
        have HFI := Lib.hid (show Tb.extAt (bs.drop 6) i = ⟨(Tb.num ((bs.drop (6 + 6 * i)).take 4) : Int), (Tb.num ((bs.drop (6 + 6 * i + 4)).take 2) : Int)⟩ by
          unfold Tb.extAt
          rw [List.drop_drop, List.drop_drop, ← Nat.add_assoc])
        have HSET := Lib.hid (show ((flatX (filled (Tb.extAt (bs.drop 6)) i mn)).set (i * 2) (.int .i64 (Tb.num ((bs.drop (6 + 6 * i)).take 4) : Int))).set (i * 2 + 1) (.int .i64 (Tb.num ((bs.drop (6 + 6 * i + 4)).take 2) : Int)) = flatX (filled (Tb.extAt (bs.drop 6)) (i + 1) mn) by
          rw [flatX_set _ _ _ _ (by rw [filled_length]; exact hin), ← HFI.out, filled_set])
        have HSZ := Lib.hid (show (flatX (filled (Tb.extAt (bs.drop 6)) i mn)).length = mn * 2 by rw [flatX_length, filled_length])
        have HVV := Lib.hid (show ∀ k, k < mn * 2 → ∃ x, (flatX (filled (Tb.extAt (bs.drop 6)) i mn))[k]? = some (.int .i64 x) from fun k hk => by
          have hk2 : k / 2 < (filled (Tb.extAt (bs.drop 6)) i mn).length := by rw [filled_length]; omega
          have hf := flatX_at _ (k / 2) (k % 2) _ (List.getElem?_eq_getElem hk2) (by omega)
          rw [show k / 2 * 2 + k % 2 = k by omega] at hf
          rw [hf]
          rcases (by omega : k % 2 = 0 ∨ k % 2 = 1) with e | e <;> rw [e]
          · exact ⟨_, rfl⟩
          · exact ⟨_, rfl⟩)
        obtain ⟨F2, hF2⟩ : ∃ F2, flatX (filled (Tb.extAt (bs.drop 6)) (i + 1) mn) = F2 := ⟨_, rfl⟩
        rw [hF2] at HSET
        have HF2 := Lib.hid hF2
        clear hF2
        generalize flatX (filled (Tb.extAt (bs.drop 6)) i mn) = F at *
        have HIN := Lib.hid (show i + 1 ≤ mn by omega)
        have HBRS := Lib.hid hbr.size
        go_wp2_with fail
        refine (take_L 4 (57 - 6 * i) (cap - (6 + 6 * i)) bb (bo + (6 + 6 * i)) h (i * 2) 1 (by omega) (by omega) (by omega) (bs.drop (6 + 6 * i)) HL.out F.toArray 81 ⟨wr.heap.size, 0, none⟩ _ (HBH.out.below ((Below.refl _ _).alloc (Nat.le_refl _) _) (Nat.le_refl _)) (by have := HSZ.out; simp; omega) ?t1 ?t2 ?t3).mono ?_
        case t1 =>
          obtain ⟨x, hx⟩ := HVV.out (i * 2) (by omega)
          exact ⟨x, ((HBH.out.below ((Below.refl _ _).alloc (Nat.le_refl _) _) (Nat.le_refl _)).cell _).trans (by simpa using hx)⟩
        case t2 =>
          intro W hW
          refine HRNk.out (6 + 6 * i) W ((hW.block bb (by have := HBRS.out; simp; omega) (by have := HH.out; simp; omega)).trans ?_)
          exact (((Below.refl wr.heap.size wr).alloc (Nat.le_refl _) _).block bb (by have := HBRS.out; omega)).trans (hbr.block bb hbb)
        case t3 => exact (Blk.new wr #[.pointer (some ⟨h, i * 2, none⟩)] 111).cell 0
        rintro e w4 ⟨rfl, hb4, hk4⟩
        have hkX := ((Kept.refl [h] wr).alloc (.cells #[.pointer (some ⟨h, i * 2, none⟩)] 111)).trans hk4
        have HB4 := Lib.hid (show Blk w4 h (F.set (i * 2) (.int .i64 (Tb.num ((bs.drop (6 + 6 * i)).take 4) : Int))).toArray 81 by simpa using hb4)
        have HKX := Lib.hid hkX
        have HBr4 := Lib.hid (Kept.below hbr hkX (by have := HH.out; simp; omega))
        have HSX := Lib.hid hkX.size
        clear hb4 hk4 hkX p2
        go_wp2_with fail
        refine (take_I 2 (57 - 6 * i - 4) (cap - (6 + 6 * i) - 4) bb (bo + (6 + 6 * i) + 4) h (i * 2 + 1) 1 (by omega) (by omega) (by omega) (bs.drop (6 + 6 * i + 4)) HL2.out (F.set (i * 2) (.int .i64 (Tb.num ((bs.drop (6 + 6 * i)).take 4) : Int))).toArray 81 ⟨w4.heap.size, 0, none⟩ _ (HB4.out.below ((Below.refl _ _).alloc (Nat.le_refl _) _) (Nat.le_refl _)) (by have := HSZ.out; simp; omega) ?u1 ?u2 ?u3).mono ?_
        case u1 =>
          obtain ⟨x, hx⟩ := HVV.out (i * 2 + 1) (by omega)
          exact ⟨x, ((HB4.out.below ((Below.refl _ _).alloc (Nat.le_refl _) _) (Nat.le_refl _)).cell _).trans (by rw [List.getElem?_toArray, List.getElem?_set_ne (by omega)]; exact hx)⟩
        case u2 =>
          intro W hW
          have := HRNk.out (6 + 6 * i + 4) W ((hW.block bb (by have := HBRS.out; have := HSX.out; simp; omega) (by have := HH.out; simp; omega)).trans ((((Below.refl w4.heap.size w4).alloc (Nat.le_refl _) _).block bb (by have := HBRS.out; have := HSX.out; omega)).trans (HBr4.out.block bb hbb)))
          rwa [← Nat.add_assoc] at this
        case u3 => exact (Blk.new w4 #[.pointer (some ⟨h, i * 2 + 1, none⟩)] 113).cell 0
        rintro e w5 ⟨rfl, hb5, hk5⟩
        have hkY := (HKX.out.alloc (.cells #[.pointer (some ⟨h, i * 2 + 1, none⟩)] 113)).trans hk5
        have HB5 := Lib.hid (show Blk w5 h F2.toArray 81 by rw [← HSET.out]; simpa using hb5)
        have HBT5 := Lib.hid (hkY.blk HBT.out (by have := HH.out; simp; omega))
        have HBZ5 := Lib.hid (hkY.blk HBZ.out (by have := HH.out; simp; omega))
        have HBr5 := Lib.hid (Kept.below hbr hkY (by have := HH.out; simp; omega))
        clear hb5 hk5 hkY
        go_wp2
        go_roundw
        case rel =>
          refine ⟨i + 1, by go_num, HIN.out, ?_, by rw [HF2.out]; exact HB5.out, HBT5.out, HBZ5.out, HBr5.out⟩
          rw [show bo + (6 + 6 * i) + 4 + 2 = bo + (6 + 6 * (i + 1)) by omega, show 57 - 6 * i - 4 - 2 = 57 - 6 * (i + 1) by omega, show cap - (6 + 6 * i) - 4 - 2 = cap - (6 + 6 * (i + 1)) by omega]
        case measure => have := HIN.out; first | omega | (simp [intOf]; omega)
      · obtain rfl : i = mn := by omega
        obtain ⟨p0, p1, p2⟩ := HBT.out.three
        obtain ⟨q0, q1, q2⟩ := HBZ.out.three
        have f0 := HBZ.out.frozen 0
        have f1 := HBZ.out.frozen 1
        have f2 := HBZ.out.frozen 2
        have HTY := Lib.hid (show toldIs bs = ⟨(gn : Int), (nx : Int) - 1, filled (Tb.extAt (bs.drop 6)) i i⟩ by rw [HTI.out, if_pos (by omega), filled_all, Nat.min_eq_left (by omega)])
        go_wp2
        have hf := HBZ.out.stored3 (.int .i64 (gn : Int)) (.int .i64 ((nx : Int) - 1)) (.slice (some ⟨h, 0, none⟩) i i)
        have hkz := (Kept.refl [w.heap.size] wr).stored3 (s := w.heap.size) (by simp) (.int .i64 (gn : Int)) (.int .i64 ((nx : Int) - 1)) (.slice (some ⟨h, 0, none⟩) i i)
        have hk := Kept.below hbr hkz (by simp)
        have hbh := hkz.blk HBH.out (by have := HH.out; simp; omega)
        clear hkz
        generalize ((wr.setCell ⟨w.heap.size, 0, none⟩ (.int .i64 (gn : Int))).setCell ⟨w.heap.size, 1, none⟩ (.int .i64 ((nx : Int) - 1))).setCell ⟨w.heap.size, 2, none⟩ (.slice (some ⟨h, 0, none⟩) i i) = wf at *
        obtain ⟨y0, y1, y2⟩ := hf.three
        refine bodyPost_ret (v := tabV (gn : Int) ((nx : Int) - 1) (some ⟨h, 0, none⟩) i i) (w := wf) (by simp [results, Tryz.results59, go_sem, y0, y1, y2]) rfl ?_
        rw [HTY.out]
        refine ⟨some ⟨h, 0, none⟩, i, i, rfl, filled_length _ _ _, Nat.le_refl _, .inr ⟨_, rfl, hbh.lt, fun j u hu => ?_⟩, hk, fun ad h => by injection h with h; subst h; have := HH.out; simp; omega⟩
        rw [Addr.add_mid, hbh.cell]
        simpa using hu
end Go.Proofs.YtehnhjnkbclnlaaGreatDoor

namespace Go.Proofs.YtehnhjnkbclnlaaGreatDoor
open Go.RowKit
set_option maxRecDepth 100000

theorem okIs {s : List UInt8} (hs : s.length = 64) : decide (Tb.put (toldIs (s.drop 1)) = s) = Tb.ok s ∧ (Tb.ok s = true → toldIs (s.drop 1) = Tb.got s) := by
  have h1 : Tb.ok s = true → toldIs (s.drop 1) = Tb.told s := fun h => by
    unfold toldIs Tb.told
    rw [if_pos (Tb.ok_many h)]
  refine ⟨?_, fun h => by unfold Tb.got; rw [if_pos h, h1 h]⟩
  rw [Bool.eq_iff_iff, decide_eq_true_eq]
  constructor
  · intro h
    by_cases h8 : ((s.drop 1).getD 4 0).toNat ≤ 8
    · have e : toldIs (s.drop 1) = Tb.told s := by unfold toldIs Tb.told; rw [if_pos h8]
      rw [e] at h
      exact Tb.ok_iff.2 ⟨hs, h⟩
    · have e : toldIs (s.drop 1) = Tb.T.zero := by unfold toldIs; rw [if_neg h8]
      rw [e, Tb.put_no Tb.zero_wrong] at h
      rw [← h] at hs; cases hs
  · intro h
    rw [h1 h]
    exact (Tb.ok_iff.1 h).2

/-- what Get hands back: the table, or a zero one -/
def Gives9B (w : World) (s : List UInt8) (e : Ending) (w' : World) : Prop :=
  ∃ A m c, e = .returned (.tuple #[tabV (Tb.got s).gen (Tb.got s).opn A m c, .bool (Tb.ok s)]) ∧ (Tb.got s).xs.length = m ∧ m ≤ c ∧ Lies w' A (flatX (Tb.got s).xs) ∧ Below w.heap.size w w'
/-- .. in memory that was made meanwhile -/
def Gives9A (w : World) (s : List UInt8) (e : Ending) (w' : World) : Prop :=
  ∃ A m c, e = .returned (.tuple #[tabV (Tb.got s).gen (Tb.got s).opn A m c, .bool (Tb.ok s)]) ∧ (Tb.got s).xs.length = m ∧ m ≤ c ∧ Lies w' A (flatX (Tb.got s).xs) ∧ Below w.heap.size w w' ∧ ∀ ad, A = some ad → w.heap.size ≤ ad.block
theorem Gives9A.weak {w : World} {s : List UInt8} {e : Ending} {w' : World} (h : Gives9A w s e w') : Gives9B w s e w' := by
  obtain ⟨A, m, c, h1, h2, h3, h4, h5, -⟩ := h
  exact ⟨A, m, c, h1, h2, h3, h4, h5⟩

set_option maxHeartbeats 2000000 in
theorem tget_64 (bb bo cap : Nat) (s : List UInt8) (w : World) (hs : s.length = 64) (hc : 64 ≤ cap) (hbb : bb < w.heap.size) (hr : w.rangeAt bb bo (cells s)) (hT : Tab w) :
    Calls Tryz.prog 43 #[.slice (some ⟨bb, bo, none⟩) 64 cap] w (Gives9A w s) := by
  unfold Gives9A
  have HT := Lib.hid hT
  obtain ⟨hok1, hok2⟩ := okIs hs
  have HOK1 := Lib.hid hok1
  have HOK2 := Lib.hid hok2
  have HGN := Lib.hid (show Tb.ok s = false → Tb.got s = Tb.T.zero from fun h => by unfold Tb.got; rw [if_neg (by rw [h]; simp)])
  have hsl := fun W => slice_past W bb bo 64 cap 1 (by omega) hc
  have HLS := Lib.hid (show Lies w (some ⟨bb, bo, none⟩) (cells s) from .inr ⟨_, rfl, hbb, fun j u hu => by rw [Addr.add_mid]; exact hr j u hu⟩)
  have HSL := Lib.hid hs
  have HR1 := Lib.hid (fun (W : World) (e : W.heap[bb]? = w.heap[bb]?) => show W.rangeAt bb (bo + 1) (cells (s.drop 1)) from fun j v hv => by
    have := rangeAt_block hr e (1 + j) v (by rw [← cells_drop, List.getElem?_drop] at hv; exact hv)
    rwa [← Nat.add_assoc] at this)
  have HD1 := Lib.hid (show (s.drop 1).length = 63 by rw [List.length_drop, hs])
  have HZ := Lib.hid (Blk.new w #[.int .i64 0, .int .i64 0, .slice none 0 0] 31)
  have HB0 := Lib.hid ((Below.refl w.heap.size w).alloc (Nat.le_refl _) (.cells #[.int .i64 0, .int .i64 0, .slice none 0 0] 31))
  have HW0 := Lib.hid (show (w.alloc (.cells #[.int .i64 0, .int .i64 0, .slice none 0 0] 31)).heap.size = w.heap.size + 1 by simp)
  have HTD := Lib.hid (fun (W : World) (e : W.heap[bb]? = w.heap[bb]?) (hb : bb < W.heap.size) => told_any bb (bo + 1) (cap - 1) (s.drop 1) HD1.out (by omega) W hb (HR1.out W e))
  generalize toldIs (s.drop 1) = T at *
  clear hT hr hok1 hok2 hs
  go_enter Tryz.func43, Tryz.ntmps43
  go_wp2_with fail
  have HTD0 := Lib.hid (HTD.out _ (HB0.out.block bb hbb) (by have := HW0.out; omega))
  generalize w.alloc (.cells #[.int .i64 0, .int .i64 0, .slice none 0 0] 31) = w0 at *
  refine HTD0.out.mono ?_
  rintro e w1 ⟨A, n, c, rfl, hn, hnc, hA, d1, hAf⟩
  obtain ⟨g, o, xs⟩ := T
  simp only at hn hA
  have HB1 := Lib.hid (HB0.out.trans (d1.mono HB0.out.size))
  have HZ1 := Lib.hid (HZ.out.below d1 (Nat.le_refl _))
  have bx := Blk.new w1 #[.int .i64 g, .int .i64 o, .slice A n c] 31
  have HAX := Lib.hid (hA.below ((Below.refl w1.heap.size w1).alloc (Nat.le_refl _) (.cells #[.int .i64 g, .int .i64 o, .slice A n c] 31)))
  have HBX := Lib.hid bx
  have HAO := Lib.hid (show ∀ ad, A = some ad → ad.block ≠ w.heap.size from fun ad ha => by have := hAf ad ha; have := HW0.out; omega)
  have HAN := Lib.hid (show ∀ ad, A = some ad → w.heap.size ≤ ad.block from fun ad ha => by have := hAf ad ha; have := HW0.out; omega)
  clear hAf
  have HZX := Lib.hid (HZ1.out.below ((Below.refl w1.heap.size w1).alloc (Nat.le_refl _) (.cells #[.int .i64 g, .int .i64 o, .slice A n c] 31)) (Nat.le_refl _))
  have HB2 := Lib.hid (HB1.out.alloc HB1.out.size (.cells #[.int .i64 g, .int .i64 o, .slice A n c] 31))
  have HN := Lib.hid hn
  have HNC := Lib.hid hnc
  have HS1 := Lib.hid (show w.heap.size < w1.heap.size by have := d1.size; have := HW0.out; omega)
  clear hn hnc hA d1 bx hsl HTD0 HTD
  go_wp2_with fail
  have HT2 := Lib.hid (HT.out.below HB2.out (Nat.le_refl _))
  have HLS2 := Lib.hid (HLS.out.below HB2.out)
  generalize w1.alloc (.cells #[.int .i64 g, .int .i64 o, .slice A n c] 31) = w2 at *
  have HPW := Lib.hid (tput_lies g o A c n _ xs w2 HN.out HNC.out rfl HAX.out HT2.out)
  obtain ⟨PB, hPB⟩ : ∃ PB, Tb.put ⟨g, o, xs⟩ = PB := ⟨_, rfl⟩
  rw [hPB] at HPW HOK1
  obtain ⟨L, hL⟩ : ∃ L, PB.length = L := ⟨_, rfl⟩
  rw [hL] at HPW
  have HL := Lib.hid hL
  clear hPB hL
  refine HPW.out.mono ?_
  rintro e w3 ⟨A3, c3, rfl, hA3, d3⟩
  have HA3 := Lib.hid hA3
  have HLS3 := Lib.hid (HLS2.out.below d3)
  have HBX3 := Lib.hid (HBX.out.below d3 (Nat.le_refl _))
  have HZ3 := Lib.hid (HZX.out.below d3 (Nat.le_refl _))
  have HAX3 := Lib.hid (HAX.out.below d3)
  have HB3 := Lib.hid (HB2.out.trans (d3.mono HB2.out.size))
  clear hA3 d3 HPW
  go_wp2_with fail
  refine (equal_walk A3 (some ⟨bb, bo, none⟩) L 64 c3 cap PB s w3 HL.out HSL.out HA3.out HLS3.out).mono ?_
  rintro e w4 ⟨rfl, rfl⟩
  rw [HOK1.out]
  obtain ⟨q0, q1, q2⟩ := HZ3.out.three
  have f0 := HZ3.out.frozen 0
  have f1 := HZ3.out.frozen 1
  have f2 := HZ3.out.frozen 2
  obtain ⟨B, hB⟩ : ∃ B, Tb.ok s = B := ⟨_, rfl⟩
  rw [hB] at HGN HOK2 ⊢
  have HBV := Lib.hid hB
  rcases B with _ | _
  · have HG := Lib.hid (HGN.out rfl)
    have hf := HZ3.out.stored3 (.int .i64 0) (.int .i64 0) (.slice none 0 0)
    have hk := Kept.below HB3.out ((Kept.refl [w.heap.size] w3).stored3 (s := w.heap.size) (by simp) (.int .i64 0) (.int .i64 0) (.slice none 0 0)) (by simp)
    have HF := Lib.hid hf
    have HK := Lib.hid hk
    clear hf hk hB
    go_wp2
    have HF2 := HF.out
    have HK2 := HK.out
    generalize ((w3.setCell ⟨w.heap.size, 0, none⟩ (.int .i64 0)).setCell ⟨w.heap.size, 1, none⟩ (.int .i64 0)).setCell ⟨w.heap.size, 2, none⟩ (.slice none 0 0) = wf at *
    obtain ⟨y0, y1, y2⟩ := HF2.three
    refine bodyPost_ret (v := .tuple #[tabV 0 0 none 0 0, .bool false]) (w := wf) (by simp [results, Tryz.results43, go_sem, y0, y1, y2]) rfl ?_
    rw [HG.out, HBV.out]
    exact ⟨none, 0, 0, rfl, rfl, Nat.le_refl _, Lies.nil, HK2, fun _ h => by cases h⟩
  · have HG := Lib.hid (HOK2.out rfl)
    obtain ⟨p0, p1, p2⟩ := HBX3.out.three
    have hkz := (Kept.refl [w.heap.size] w3).stored3 (s := w.heap.size) (by simp) (.int .i64 g) (.int .i64 o) (.slice A n c)
    have HF := Lib.hid (HZ3.out.stored3 (.int .i64 g) (.int .i64 o) (.slice A n c))
    have HK := Lib.hid (Kept.below HB3.out hkz (by simp))
    have HAF := Lib.hid (show Lies (((w3.setCell ⟨w.heap.size, 0, none⟩ (.int .i64 g)).setCell ⟨w.heap.size, 1, none⟩ (.int .i64 o)).setCell ⟨w.heap.size, 2, none⟩ (.slice A n c)) A (flatX xs) from by
      rcases HAX3.out with h | ⟨ad, rfl, hb, hc'⟩
      · exact .inl h
      · exact .inr ⟨ad, rfl, Nat.lt_of_lt_of_le hb hkz.size, fun j u hu => (World.cell?_of_block (by rw [addr_block]; exact hkz.block _ hb (by simpa using HAO.out ad rfl))).trans (hc' j u hu)⟩)
    clear hkz hB
    go_wp2
    have HF2 := HF.out
    have HK2 := HK.out
    have HA2 := HAF.out
    generalize ((w3.setCell ⟨w.heap.size, 0, none⟩ (.int .i64 g)).setCell ⟨w.heap.size, 1, none⟩ (.int .i64 o)).setCell ⟨w.heap.size, 2, none⟩ (.slice A n c) = wf at *
    obtain ⟨y0, y1, y2⟩ := HF2.three
    refine bodyPost_ret (v := .tuple #[tabV g o A n c, .bool true]) (w := wf) (by simp [results, Tryz.results43, go_sem, y0, y1, y2]) rfl ?_
    rw [← HG.out, HBV.out]
    exact ⟨A, n, c, rfl, HN.out, HNC.out, HA2, HK2, HAN.out⟩

theorem tget_new (A : Option Addr) (cap n : Nat) (s : List UInt8) (w : World) (hn : s.length = n) (hc : n ≤ cap) (hA : Lies w A (cells s)) (hT : Tab w) :
    Calls Tryz.prog 43 #[.slice A n cap] w (Gives9A w s) := by
  by_cases h64 : n = 64
  · subst h64
    rcases hA with h | ⟨ad, rfl, hb, hc'⟩
    · have : (cells s).length = 0 := by rw [h]; rfl
      rw [cells_length] at this; omega
    · obtain ⟨b, o, sp⟩ := ad
      have h0 := hc' 0 _ (List.getElem?_eq_getElem (by rw [cells_length]; omega))
      have hsp : sp = none := by
        cases sp with
        | none => rfl
        | some n =>
          simp only [Addr.add, if_true, World.cell?] at h0
          split at h0 <;> simp at h0
      subst hsp
      exact tget_64 b o cap s w hn hc hb (fun j u hu => by have := hc' j u hu; rwa [Addr.add_mid] at this) hT
  · have HNO := Lib.hid (Tb.ok_len (s := s) (by omega))
    have HG := Lib.hid (show Tb.got s = Tb.T.zero by unfold Tb.got; rw [if_neg (by rw [HNO.out]; simp)])
    have hne : ((n : Int) != 64) = true := by simp; omega
    have HZ := Lib.hid (Blk.new w #[.int .i64 0, .int .i64 0, .slice none 0 0] 31)
    have HB0 := Lib.hid ((Below.refl w.heap.size w).alloc (Nat.le_refl _) (.cells #[.int .i64 0, .int .i64 0, .slice none 0 0] 31))
    clear hA hn hT
    unfold Gives9A
    go_enter Tryz.func43, Tryz.ntmps43
    go_wp2
    have HF2 := HZ.out
    have HK2 := HB0.out
    generalize w.alloc (.cells #[.int .i64 0, .int .i64 0, .slice none 0 0] 31) = wf at *
    obtain ⟨y0, y1, y2⟩ := HF2.three
    refine bodyPost_ret (v := .tuple #[tabV 0 0 none 0 0, .bool false]) (w := wf) (by simp [results, Tryz.results43, go_sem, y0, y1, y2]) rfl ?_
    rw [HG.out, HNO.out]
    exact ⟨none, 0, 0, rfl, rfl, Nat.le_refl _, Lies.nil, HK2, fun _ h => by cases h⟩
theorem tget_any (A : Option Addr) (cap n : Nat) (s : List UInt8) (w : World) (hn : s.length = n) (hc : n ≤ cap) (hA : Lies w A (cells s)) (hT : Tab w) :
    Calls Tryz.prog 43 #[.slice A n cap] w (Gives9B w s) := (tget_new A cap n s w hn hc hA hT).mono fun _ _ h => h.weak
end Go.Proofs.YtehnhjnkbclnlaaGreatDoor
