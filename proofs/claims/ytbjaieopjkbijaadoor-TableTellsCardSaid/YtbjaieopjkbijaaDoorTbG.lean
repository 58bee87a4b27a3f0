/-
  Layer 9: bytes.Equal, and table.Get: what it answers, of any bytes. Assumed: that the bytes lie in memory, and that the program's table holds what its text lays there.
-/
import Derived.Test.YtbjaieopjkbijaaDoorTbU

namespace Go.Proofs.YtbjaieopjkbijaaDoor
open Go.RowKit
set_option maxRecDepth 100000

theorem okIs {s : List UInt8} (hs : s.length = 64) : decide (Tb.put (toldIs (s.drop 1)) = s) = Tb.ok s ∧ (Tb.ok s = true → toldIs (s.drop 1) = Tb.got s) := by
  have h1 : Tb.ok s = true → toldIs (s.drop 1) = Tb.told s := fun h => by
    unfold toldIs Tb.told
    rw [if_pos (Tb.ok_many h)]
  refine ⟨?_, fun h => by unfold Tb.got; rw [if_pos h, h1 h]⟩
  rw [Bool.eq_iff_iff, decide_eq_true_eq]
  constructor
  · intro h
    by_cases h8 : ((s.drop 1).getD 4 0).toNat ≤ 8
    · have e : toldIs (s.drop 1) = Tb.told s := by unfold toldIs Tb.told; rw [if_pos h8]
      rw [e] at h
      exact Tb.ok_iff.2 ⟨hs, h⟩
    · have e : toldIs (s.drop 1) = Tb.T.zero := by unfold toldIs; rw [if_neg h8]
      rw [e, Tb.put_no Tb.zero_wrong] at h
      rw [← h] at hs; cases hs
  · intro h
    rw [h1 h]
    exact (Tb.ok_iff.1 h).2

/-- what Get hands back: the table, or a zero one -/
def GivesB (w : World) (s : List UInt8) (e : Ending) (w' : World) : Prop :=
  ∃ A m c, e = .returned (.tuple #[tabV (Tb.got s).gen (Tb.got s).opn A m c, .bool (Tb.ok s)]) ∧ (Tb.got s).xs.length = m ∧ m ≤ c ∧ Lies w' A (flatX (Tb.got s).xs) ∧ Below w.heap.size w w'

set_option maxHeartbeats 2000000 in
theorem tget_64 (bb bo cap : Nat) (s : List UInt8) (w : World) (hs : s.length = 64) (hc : 64 ≤ cap) (hbb : bb < w.heap.size) (hr : w.rangeAt bb bo (cells s)) (hT : Tab w) :
    Calls Tryd.prog 11 #[.slice (some ⟨bb, bo, none⟩) 64 cap] w (GivesB w s) := by
  unfold GivesB
  have HT := Lib.hid hT
  obtain ⟨hok1, hok2⟩ := okIs hs
  have HOK1 := Lib.hid hok1
  have HOK2 := Lib.hid hok2
  have HGN := Lib.hid (show Tb.ok s = false → Tb.got s = Tb.T.zero from fun h => by unfold Tb.got; rw [if_neg (by rw [h]; simp)])
  have hsl := fun W => slice_past W bb bo 64 cap 1 (by omega) hc
  have HLS := Lib.hid (show Lies w (some ⟨bb, bo, none⟩) (cells s) from .inr ⟨_, rfl, hbb, fun j u hu => by rw [Addr.add_mid]; exact hr j u hu⟩)
  have HSL := Lib.hid hs
  have HR1 := Lib.hid (fun (W : World) (e : W.heap[bb]? = w.heap[bb]?) => show W.rangeAt bb (bo + 1) (cells (s.drop 1)) from fun j v hv => by
    have := rangeAt_block hr e (1 + j) v (by rw [← cells_drop, List.getElem?_drop] at hv; exact hv)
    rwa [← Nat.add_assoc] at this)
  have HD1 := Lib.hid (show (s.drop 1).length = 63 by rw [List.length_drop, hs])
  have HZ := Lib.hid (Blk.new w #[.int .i64 0, .int .i64 0, .slice none 0 0] 24)
  have HB0 := Lib.hid ((Below.refl w.heap.size w).alloc (Nat.le_refl _) (.cells #[.int .i64 0, .int .i64 0, .slice none 0 0] 24))
  have HW0 := Lib.hid (show (w.alloc (.cells #[.int .i64 0, .int .i64 0, .slice none 0 0] 24)).heap.size = w.heap.size + 1 by simp)
  have HTD := Lib.hid (fun (W : World) (e : W.heap[bb]? = w.heap[bb]?) (hb : bb < W.heap.size) => told_any bb (bo + 1) (cap - 1) (s.drop 1) HD1.out (by omega) W hb (HR1.out W e))
  generalize toldIs (s.drop 1) = T at *
  clear hT hr hok1 hok2 hs
  go_enter Tryd.func11, Tryd.ntmps11
  go_wp2_with fail
  have HTD0 := Lib.hid (HTD.out _ (HB0.out.block bb hbb) (by have := HW0.out; omega))
  generalize w.alloc (.cells #[.int .i64 0, .int .i64 0, .slice none 0 0] 24) = w0 at *
  refine HTD0.out.mono ?_
  rintro e w1 ⟨A, n, c, rfl, hn, hnc, hA, d1, hAf⟩
  obtain ⟨g, o, xs⟩ := T
  simp only at hn hA
  have HB1 := Lib.hid (HB0.out.trans (d1.mono HB0.out.size))
  have HZ1 := Lib.hid (HZ.out.below d1 (Nat.le_refl _))
  have bx := Blk.new w1 #[.int .i64 g, .int .i64 o, .slice A n c] 24
  have HAX := Lib.hid (hA.below ((Below.refl w1.heap.size w1).alloc (Nat.le_refl _) (.cells #[.int .i64 g, .int .i64 o, .slice A n c] 24)))
  have HBX := Lib.hid bx
  have HAO := Lib.hid (show ∀ ad, A = some ad → ad.block ≠ w.heap.size from fun ad ha => by have := hAf ad ha; have := HW0.out; omega)
  clear hAf
  have HZX := Lib.hid (HZ1.out.below ((Below.refl w1.heap.size w1).alloc (Nat.le_refl _) (.cells #[.int .i64 g, .int .i64 o, .slice A n c] 24)) (Nat.le_refl _))
  have HB2 := Lib.hid (HB1.out.alloc HB1.out.size (.cells #[.int .i64 g, .int .i64 o, .slice A n c] 24))
  have HN := Lib.hid hn
  have HNC := Lib.hid hnc
  have HS1 := Lib.hid (show w.heap.size < w1.heap.size by have := d1.size; have := HW0.out; omega)
  clear hn hnc hA d1 bx hsl HTD0 HTD
  go_wp2_with fail
  have HT2 := Lib.hid (HT.out.below HB2.out (Nat.le_refl _))
  have HLS2 := Lib.hid (HLS.out.below HB2.out)
  generalize w1.alloc (.cells #[.int .i64 g, .int .i64 o, .slice A n c] 24) = w2 at *
  have HPW := Lib.hid (tput_lies g o A c n _ xs w2 HN.out HNC.out rfl HAX.out HT2.out)
  obtain ⟨PB, hPB⟩ : ∃ PB, Tb.put ⟨g, o, xs⟩ = PB := ⟨_, rfl⟩
  rw [hPB] at HPW HOK1
  obtain ⟨L, hL⟩ : ∃ L, PB.length = L := ⟨_, rfl⟩
  rw [hL] at HPW
  have HL := Lib.hid hL
  clear hPB hL
  refine HPW.out.mono ?_
  rintro e w3 ⟨A3, c3, rfl, hA3, d3⟩
  have HA3 := Lib.hid hA3
  have HLS3 := Lib.hid (HLS2.out.below d3)
  have HBX3 := Lib.hid (HBX.out.below d3 (Nat.le_refl _))
  have HZ3 := Lib.hid (HZX.out.below d3 (Nat.le_refl _))
  have HAX3 := Lib.hid (HAX.out.below d3)
  have HB3 := Lib.hid (HB2.out.trans (d3.mono HB2.out.size))
  clear hA3 d3 HPW
  go_wp2_with fail
  refine (equal_walk A3 (some ⟨bb, bo, none⟩) L 64 c3 cap PB s w3 HL.out HSL.out HA3.out HLS3.out).mono ?_
  rintro e w4 ⟨rfl, rfl⟩
  rw [HOK1.out]
  obtain ⟨q0, q1, q2⟩ := HZ3.out.three
  have f0 := HZ3.out.frozen 0
  have f1 := HZ3.out.frozen 1
  have f2 := HZ3.out.frozen 2
  obtain ⟨B, hB⟩ : ∃ B, Tb.ok s = B := ⟨_, rfl⟩
  rw [hB] at HGN HOK2 ⊢
  have HBV := Lib.hid hB
  rcases B with _ | _
  · have HG := Lib.hid (HGN.out rfl)
    have hf := HZ3.out.stored3 (.int .i64 0) (.int .i64 0) (.slice none 0 0)
    have hk := Kept.below HB3.out ((Kept.refl [w.heap.size] w3).stored3 (s := w.heap.size) (by simp) (.int .i64 0) (.int .i64 0) (.slice none 0 0)) (by simp)
    have HF := Lib.hid hf
    have HK := Lib.hid hk
    clear hf hk hB
    go_wp2
    have HF2 := HF.out
    have HK2 := HK.out
    generalize ((w3.setCell ⟨w.heap.size, 0, none⟩ (.int .i64 0)).setCell ⟨w.heap.size, 1, none⟩ (.int .i64 0)).setCell ⟨w.heap.size, 2, none⟩ (.slice none 0 0) = wf at *
    obtain ⟨y0, y1, y2⟩ := HF2.three
    refine bodyPost_ret (v := .tuple #[tabV 0 0 none 0 0, .bool false]) (w := wf) (by simp [results, Tryd.results11, go_sem, y0, y1, y2]) rfl ?_
    rw [HG.out, HBV.out]
    exact ⟨none, 0, 0, rfl, rfl, Nat.le_refl _, Lies.nil, HK2⟩
  · have HG := Lib.hid (HOK2.out rfl)
    obtain ⟨p0, p1, p2⟩ := HBX3.out.three
    have hkz := (Kept.refl [w.heap.size] w3).stored3 (s := w.heap.size) (by simp) (.int .i64 g) (.int .i64 o) (.slice A n c)
    have HF := Lib.hid (HZ3.out.stored3 (.int .i64 g) (.int .i64 o) (.slice A n c))
    have HK := Lib.hid (Kept.below HB3.out hkz (by simp))
    have HAF := Lib.hid (show Lies (((w3.setCell ⟨w.heap.size, 0, none⟩ (.int .i64 g)).setCell ⟨w.heap.size, 1, none⟩ (.int .i64 o)).setCell ⟨w.heap.size, 2, none⟩ (.slice A n c)) A (flatX xs) from by
      rcases HAX3.out with h | ⟨ad, rfl, hb, hc'⟩
      · exact .inl h
      · exact .inr ⟨ad, rfl, Nat.lt_of_lt_of_le hb hkz.size, fun j u hu => (World.cell?_of_block (by rw [addr_block]; exact hkz.block _ hb (by simpa using HAO.out ad rfl))).trans (hc' j u hu)⟩)
    clear hkz hB
    go_wp2
    have HF2 := HF.out
    have HK2 := HK.out
    have HA2 := HAF.out
    generalize ((w3.setCell ⟨w.heap.size, 0, none⟩ (.int .i64 g)).setCell ⟨w.heap.size, 1, none⟩ (.int .i64 o)).setCell ⟨w.heap.size, 2, none⟩ (.slice A n c) = wf at *
    obtain ⟨y0, y1, y2⟩ := HF2.three
    refine bodyPost_ret (v := .tuple #[tabV g o A n c, .bool true]) (w := wf) (by simp [results, Tryd.results11, go_sem, y0, y1, y2]) rfl ?_
    rw [← HG.out, HBV.out]
    exact ⟨A, n, c, rfl, HN.out, HNC.out, HA2, HK2⟩

theorem tget_any (A : Option Addr) (cap n : Nat) (s : List UInt8) (w : World) (hn : s.length = n) (hc : n ≤ cap) (hA : Lies w A (cells s)) (hT : Tab w) :
    Calls Tryd.prog 11 #[.slice A n cap] w (GivesB w s) := by
  by_cases h64 : n = 64
  · subst h64
    rcases hA with h | ⟨ad, rfl, hb, hc'⟩
    · have : (cells s).length = 0 := by rw [h]; rfl
      rw [cells_length] at this; omega
    · obtain ⟨b, o, sp⟩ := ad
      have h0 := hc' 0 _ (List.getElem?_eq_getElem (by rw [cells_length]; omega))
      have hsp : sp = none := by
        cases sp with
        | none => rfl
        | some n =>
          simp only [Addr.add, if_true, World.cell?] at h0
          split at h0 <;> simp at h0
      subst hsp
      exact tget_64 b o cap s w hn hc hb (fun j u hu => by have := hc' j u hu; rwa [Addr.add_mid] at this) hT
  · have HNO := Lib.hid (Tb.ok_len (s := s) (by omega))
    have HG := Lib.hid (show Tb.got s = Tb.T.zero by unfold Tb.got; rw [if_neg (by rw [HNO.out]; simp)])
    have hne : ((n : Int) != 64) = true := by simp; omega
    have HZ := Lib.hid (Blk.new w #[.int .i64 0, .int .i64 0, .slice none 0 0] 24)
    have HB0 := Lib.hid ((Below.refl w.heap.size w).alloc (Nat.le_refl _) (.cells #[.int .i64 0, .int .i64 0, .slice none 0 0] 24))
    clear hA hn hT
    unfold GivesB
    go_enter Tryd.func11, Tryd.ntmps11
    go_wp2
    have HF2 := HZ.out
    have HK2 := HB0.out
    generalize w.alloc (.cells #[.int .i64 0, .int .i64 0, .slice none 0 0] 24) = wf at *
    obtain ⟨y0, y1, y2⟩ := HF2.three
    refine bodyPost_ret (v := .tuple #[tabV 0 0 none 0 0, .bool false]) (w := wf) (by simp [results, Tryd.results11, go_sem, y0, y1, y2]) rfl ?_
    rw [HG.out, HNO.out]
    exact ⟨none, 0, 0, rfl, rfl, Nat.le_refl _, Lies.nil, HK2⟩
end Go.Proofs.YtbjaieopjkbijaaDoor
