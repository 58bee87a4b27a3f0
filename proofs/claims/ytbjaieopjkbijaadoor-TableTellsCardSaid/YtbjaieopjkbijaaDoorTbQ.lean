/-
  Layer 9: table.Put: what it answers, of any table. Assumed: that the extents lie in memory, and that the program's table holds what its text lays there.
-/
import Derived.Test.YtbjaieopjkbijaaDoorTbP

namespace Go.Proofs.YtbjaieopjkbijaaDoor
open Go.RowKit
set_option maxRecDepth 100000

/-- what table.Put hands back: a sector of its own, or nothing -/
def GivesT (w : World) (t : Tb.T) (e : Ending) (w' : World) : Prop :=
  Below w.heap.size w w' ∧ ((Tb.right t = true ∧ ∃ g, e = .returned (.slice (some ⟨g, 0, none⟩) 64 64) ∧ w.heap.size ≤ g ∧ Blk w' g (cells (Tb.put t)).toArray 71) ∨ (Tb.right t = false ∧ e = .returned (.slice none 0 0)))
/-- a table's bytes up to its extents -/
def front (gn n o : Nat) : List UInt8 := Tb.le 4 gn ++ (Tb.le 1 n ++ Tb.le 1 o)
theorem bytes_front (gn n o : Nat) (xs : List Tb.Ext) (hn : xs.length = n) (t : Tb.T) (ht : t = ⟨(gn : Int), (o : Int) - 1, xs⟩) : Tb.bytes t = front gn n o ++ Tb.flatE xs := by
  subst ht
  unfold Tb.bytes front
  have e : ((o : Int) - 1 + 1).toNat = o := by omega
  simp only [Int.toNat_natCast, hn, e, Tb.le, List.append_assoc]
  rfl

set_option maxHeartbeats 4000000 in
theorem tput_yes (gn on : Nat) (A : Option Addr) (cap n : Nat) (xs : List Tb.Ext) (w : World) (hn : xs.length = n) (hc : n ≤ cap) (hA : Lies w A (flatX xs)) (hT : Tab w) (hr : Tb.right ⟨(gn : Int), (on : Int) - 1, xs⟩ = true) :
    Calls Tryd.prog 15 #[tabV (gn : Int) ((on : Int) - 1) A n cap] w fun e w' => Below w.heap.size w w' ∧ ∃ g, e = .returned (.slice (some ⟨g, 0, none⟩) 64 64) ∧ w.heap.size ≤ g ∧ Blk w' g (cells (Tb.put ⟨(gn : Int), (on : Int) - 1, xs⟩)).toArray 71 := by
  have hR := Tb.right_iff.1 hr
  have hn8 : n ≤ 8 := by rw [← hn]; exact hR.n2
  have hon : on ≤ 8 := by have := hR.open_lt; simp only at this; omega
  have HOKX := Lib.hid hR.ok
  have HCR := Lib.hid hR.cell
  have HPC := Lib.hid (show Tb.put ⟨(gn : Int), (on : Int) - 1, xs⟩ = Ce.put (gn : Int) 255 (front gn n on ++ Tb.flatE xs) by
    rw [Tb.put_cell hr, bytes_front gn n on xs hn _ rfl])
  have HRG := Lib.hid (fun (W : World) (hA : Lies W A (flatX xs)) => tright_any (gn : Int) ((on : Int) - 1) A cap n xs W hn hc hA)
  rw [hr] at HRG
  have HA := Lib.hid hA
  have HN := Lib.hid hn
  have HT := Lib.hid hT
  have ho1 : (on : Int) - 1 + 1 = (on : Int) := by omega
  have HFL := Lib.hid (show ∀ ys : List Tb.Ext, (front gn n on ++ Tb.flatE ys).length = 6 + ys.length * 6 from fun ys => by
    rw [List.length_append, Tb.flatE_length]; simp [front, Tb.le_length]; omega)
  have HB0 := Lib.hid ((Below.refl w.heap.size w).alloc (Nat.le_refl _) (.cells #[.int .i64 (gn : Int), .int .i64 ((on : Int) - 1), .slice A n cap] 24))
  have HBX := Lib.hid (Blk.new w #[.int .i64 (gn : Int), .int .i64 ((on : Int) - 1), .slice A n cap] 24)
  have HA0 := Lib.hid (hA.below HB0.out)
  generalize Tb.put ⟨(gn : Int), (on : Int) - 1, xs⟩ = PT at *
  clear hA hn hT hr hR
  go_enter Tryd.func15, Tryd.ntmps15
  go_wp2_with fail
  refine (HRG.out _ HA0.out).mono ?_
  rintro e w1 ⟨rfl, d1⟩
  have hb1 := HBX.out.below d1 (Nat.le_refl _)
  have HBX1 := Lib.hid hb1
  have HA1 := Lib.hid (HA0.out.below d1)
  have HB1 := Lib.hid (HB0.out.trans (d1.mono HB0.out.size))
  have HG1 := Lib.hid hb1.lt
  clear d1 HRG HA0 HB0 HBX
  have z0 : w1.cell? ⟨w.heap.size, 0, none⟩ = some (.int .i64 (gn : Int)) := hb1.cell 0
  clear hb1
  go_wp2_with fail
  refine (put_L w1.heap.size 4 0 1 1 (by omega) (.slice none 0 0) [] (some ⟨w1.heap.size, 0, none⟩) [gn] _ (by simp) rfl (by omega) rfl (by omega) (World.ownsRow_nil _ _ _ 1) (Lies.new w1 #[.int .i64 (gn : Int)] 2) (fun g ad hg _ => by simp [Value.ownBlock] at hg)).mono ?_
  rintro e w2 ⟨v2, rfl, hown2, hb2, -⟩
  have b2 : Below w1.heap.size w1 w2 := ((Below.refl _ _).alloc (Nat.le_refl _) _).trans hb2
  have hbx2 := HBX1.out.below b2 (Nat.le_refl _)
  have HBX2 := Lib.hid hbx2
  have HA2 := Lib.hid (HA1.out.below b2)
  have HO2 := Lib.hid (show w2.ownsRow w1.heap.size 5 1 v2 4 (cells (Tb.le 4 gn)) by simpa using hown2)
  have B2 := Lib.hid b2
  clear hown2 hb2 b2 z0
  have z1 : w2.cell? ⟨w.heap.size, 1, none⟩ = some (.int .i64 ((on : Int) - 1)) := hbx2.cell 1
  have z2 : w2.cell? ⟨w.heap.size, 2, none⟩ = some (.slice A n cap) := hbx2.cell 2
  clear hbx2
  have hoz : IntKind.i64.wrap ((on : Int) - 1 + 1) = (on : Int) := by rw [ho1, IntKind.wrap_i64]; omega
  go_wp2_with fail
  refine (put_I w1.heap.size 1 4 2 2 (by omega) v2 (Tb.le 4 gn) (some ⟨w2.heap.size, 0, none⟩) [n, on] _ (by have := B2.out.size; simp; omega) (Tb.le_length _ _) (by omega) rfl (by omega) (HO2.out.alloc _) (Lies.new w2 #[.int .i64 (n : Int), .int .i64 (on : Int)] 3) (Off.fresh HO2.out)).mono ?_
  rintro e w3 ⟨v3, rfl, hown3, hb3, -⟩
  have b3 : Below w1.heap.size w1 w3 := (B2.out.alloc B2.out.size _).trans hb3
  have hbx3 := HBX1.out.below b3 (Nat.le_refl _)
  have HA3 := Lib.hid (HA1.out.below b3)
  have HO3 := Lib.hid (show w3.ownsRow w1.heap.size 5 1 v3 6 (cells (front gn n on)) by simpa [front] using hown3)
  have B3 := Lib.hid b3
  clear hown3 hb3 b3 z1 z2 hoz
  have z2 : w3.cell? ⟨w.heap.size, 2, none⟩ = some (.slice A n cap) := hbx3.cell 2
  clear hbx3
  go_wp2_with fail
  go_loopw [3, 25] (fun vb vi wr => ∃ i : Nat, vi = .int .i64 i ∧ i ≤ n ∧ wr.ownsRow w1.heap.size 5 1 vb (6 + i * 6) (cells (front gn n on ++ Tb.flatE (xs.take i))) ∧ Below w1.heap.size w1 wr) (fun _ vi _ => n - (intOf vi).toNat)
  case atStart => exact ⟨0, rfl, by omega, by simpa [Tb.flatE] using HO3.out, B3.out⟩
  case round =>
    obtain ⟨i, rfl, hi, hown, hbr⟩ := hrel
    have HOW := Lib.hid hown
    have HSZ := Lib.hid hbr.size
    clear hown
    by_cases hin : i < n
    · have hil : i < xs.length := by have := HN.out; omega
      obtain ⟨ad, rfl, hadb, hcx⟩ := at_ext HA1.out i hil
      obtain ⟨x0, x1⟩ := hcx wr hbr
      have HX := Lib.hid (show front gn n on ++ Tb.flatE (xs.take (i + 1)) = (front gn n on ++ Tb.flatE (xs.take i)) ++ Tb.bytesE xs[i] by
        unfold Tb.flatE
        rw [List.take_succ_eq_append_getElem hil, List.flatMap_append, List.append_assoc, List.flatMap_cons, List.flatMap_nil, List.append_nil])
      have HXL := Lib.hid (show (front gn n on ++ Tb.flatE (xs.take i)).length = 6 + i * 6 by rw [HFL.out, List.length_take, Nat.min_eq_left (by omega)])
      obtain ⟨hq1, hq2, hq3, hq4, -⟩ := Tb.okE_iff.1 (HOKX.out _ (List.getElem_mem hil))
      have HIN := Lib.hid (show i + 1 ≤ n by omega)
      clear hcx
      generalize front gn n on ++ Tb.flatE (xs.take i) = X at *
      generalize xs[i] = x at *
      obtain ⟨xq, xl⟩ := x
      simp only at hq1 hq2 hq3 hq4
      obtain ⟨q, rfl⟩ := Int.eq_ofNat_of_zero_le hq1
      obtain ⟨l, rfl⟩ := Int.eq_ofNat_of_zero_le hq3
      have y0 : wr.cell? (ad.add (i * 2)) = some (.int .i64 (q : Int)) := x0
      have y1 : wr.cell? ⟨(ad.add (i * 2)).block, (ad.add (i * 2)).off + 1, none⟩ = some (.int .i64 (l : Int)) := x1
      have HBE := Lib.hid (show Tb.bytesE ⟨(q : Int), (l : Int)⟩ = Tb.le 4 q ++ Tb.le 2 l by simp [Tb.bytesE])
      have HEX := Lib.hid (Blk.new wr #[.int .i64 (q : Int), .int .i64 (l : Int)] 39)
      have HL9 := Lib.hid (show 6 + i * 6 ≤ 64 ∧ 6 + i * 6 + 4 ≤ 64 by omega)
      clear x0 x1 hq1 hq2 hq3 hq4
      go_wp2_with fail
      refine (put_L w1.heap.size 4 (6 + i * 6) 1 1 (by omega) u3 X (some ⟨wr.heap.size + 1, 0, none⟩) [q] _ (by have := HSZ.out; simp; omega) HXL.out HL9.out.1 rfl (by omega) ((HOW.out.alloc _).alloc _) (by simpa [nums] using Lies.new (wr.alloc (.cells #[.int .i64 (q : Int), .int .i64 (l : Int)] 39)) #[.int .i64 (q : Int)] 2) (by simpa using Off.fresh (HOW.out.alloc (.cells #[.int .i64 (q : Int), .int .i64 (l : Int)] 39)))).mono ?_
      rintro e w4 ⟨v4, rfl, hown4, hb4, hg4⟩
      have hex := hg4.blk (((HEX.out.below ((Below.refl _ _).alloc (Nat.le_refl _) (.cells #[.int .i64 (q : Int)] 2)) (Nat.le_refl _)))) (fun e => by have := (HOW.out.lt _ e).2; omega)
      have HO4 := Lib.hid (show w4.ownsRow w1.heap.size 5 1 v4 (6 + i * 6 + 4) (cells (X ++ Tb.le 4 q)) by simpa using hown4)
      have HB4 := Lib.hid (((hbr.alloc HSZ.out (.cells #[.int .i64 (q : Int), .int .i64 (l : Int)] 39)).alloc (by have := HSZ.out; simp; omega) (.cells #[.int .i64 (q : Int)] 2)).trans hb4)
      clear hown4 hb4 hg4 y0 y1
      have e1 : w4.cell? ⟨wr.heap.size, 1, none⟩ = some (.int .i64 (l : Int)) := hex.cell 1
      clear hex
      go_wp2_with fail
      refine (put_I w1.heap.size 2 (6 + i * 6 + 4) 1 1 (by omega) v4 (X ++ Tb.le 4 q) (some ⟨w4.heap.size, 0, none⟩) [l] _ (by have := HB4.out.size; simp; omega) (by rw [List.length_append, HXL.out, Tb.le_length]) HL9.out.2 rfl (by omega) (HO4.out.alloc _) (by simpa [nums] using Lies.new w4 #[.int .i64 (l : Int)] 3) (Off.fresh HO4.out)).mono ?_
      rintro e w5 ⟨v5, rfl, hown5, hb5, -⟩
      have HO5 := Lib.hid (show w5.ownsRow w1.heap.size 5 1 v5 (6 + (i + 1) * 6) (cells (front gn n on ++ Tb.flatE (xs.take (i + 1)))) by
        rw [HX.out, HBE.out, ← List.append_assoc, show 6 + (i + 1) * 6 = 6 + i * 6 + 4 + 2 by omega]; simpa using hown5)
      have HB5 := Lib.hid ((HB4.out.alloc HB4.out.size (.cells #[.int .i64 (l : Int)] 3)).trans hb5)
      clear hown5 hb5 e1
      go_wp2
      go_roundw
      case rel => exact ⟨i + 1, by go_num, HIN.out, HO5.out, HB5.out⟩
      case measure => have := HIN.out; first | omega | (simp [intOf]; omega)
    · obtain rfl : i = n := by omega
      have HTT := Lib.hid (show xs.take i = xs by rw [← HN.out, List.take_length])
      have hbx4 := HBX1.out.below hbr (Nat.le_refl _)
      have z0 : wr.cell? ⟨w.heap.size, 0, none⟩ = some (.int .i64 (gn : Int)) := hbx4.cell 0
      obtain ⟨AB, capb, rfl, -, -, -, hlb⟩ := own_form HOW.out
      rw [HTT.out] at hlb
      have HLB := Lib.hid hlb
      have HT4 := Lib.hid (HT.out.below (HB1.out.trans (hbr.mono HB1.out.size)) (Nat.le_refl _))
      have HBR := Lib.hid (HB1.out.trans (hbr.mono HB1.out.size))
      have HLN := Lib.hid (show (front gn i on ++ Tb.flatE xs).length = 6 + i * 6 by rw [HFL.out, HN.out])
      clear hbx4 hlb
      go_wp2_with fail
      refine (cput_yes (gn : Int) 255 AB capb (6 + i * 6) _ wr HLN.out HCR.out (by omega) HLB.out HT4.out).mono ?_
      rintro e w5 ⟨g, rfl, hg, hk, b5⟩
      have HG := Lib.hid (show w.heap.size ≤ g from Nat.le_trans HBR.out.size hg)
      have HK := Lib.hid hk
      have HB5 := Lib.hid (HBR.out.trans (b5.mono HBR.out.size))
      clear hg hk b5 z0
      go_wp2
      go_ret
      exact ⟨HB5.out, g, rfl, HG.out, by rw [HPC.out]; exact HK.out⟩

theorem tput_any (g o : Int) (A : Option Addr) (cap n : Nat) (xs : List Tb.Ext) (w : World) (hn : xs.length = n) (hc : n ≤ cap) (hA : Lies w A (flatX xs)) (hT : Tab w) :
    Calls Tryd.prog 15 #[tabV g o A n cap] w (GivesT w ⟨g, o, xs⟩) := by
  unfold GivesT
  by_cases hr : Tb.right ⟨g, o, xs⟩ = true
  · have hR := Tb.right_iff.1 hr
    obtain ⟨gn, rfl⟩ := Int.eq_ofNat_of_zero_le (show 0 ≤ g by have := hR.g1; simp only at this; omega)
    obtain ⟨on, ho⟩ := Int.eq_ofNat_of_zero_le (show 0 ≤ o + 1 by have := hR.open_ge; simp only at this; omega)
    obtain rfl : o = (on : Int) - 1 := by omega
    refine (tput_yes gn on A cap n xs w hn hc hA hT hr).mono ?_
    rintro e w' ⟨hb, h⟩
    exact ⟨hb, .inl ⟨hr, h⟩⟩
  · have HR := Lib.hid (show Tb.right ⟨g, o, xs⟩ = false by simpa using hr)
    have HRG := Lib.hid (fun (W : World) (hA : Lies W A (flatX xs)) => tright_any g o A cap n xs W hn hc hA)
    rw [HR.out] at HRG
    have HB0 := Lib.hid ((Below.refl w.heap.size w).alloc (Nat.le_refl _) (.cells #[.int .i64 g, .int .i64 o, .slice A n cap] 24))
    have HA0 := Lib.hid (hA.below HB0.out)
    clear hr hA hT hn
    go_enter Tryd.func15, Tryd.ntmps15
    go_wp2_with fail
    refine (HRG.out _ HA0.out).mono ?_
    rintro e w1 ⟨rfl, d1⟩
    have HB1 := Lib.hid (HB0.out.trans (d1.mono HB0.out.size))
    clear d1
    go_wp2
    go_ret
    exact ⟨HB1.out, .inr ⟨HR.out, rfl⟩⟩
/-- the same, as a slice that reads as the sector, whatever comes in -/
theorem tput_lies (g o : Int) (A : Option Addr) (cap n L : Nat) (xs : List Tb.Ext) (w : World) (hn : xs.length = n) (hc : n ≤ cap) (hL : (Tb.put ⟨g, o, xs⟩).length = L) (hA : Lies w A (flatX xs)) (hT : Tab w) :
    Calls Tryd.prog 15 #[tabV g o A n cap] w fun e w' => ∃ A' c, e = .returned (.slice A' L c) ∧ Lies w' A' (cells (Tb.put ⟨g, o, xs⟩)) ∧ Below w.heap.size w w' := by
  subst hL
  refine (tput_any g o A cap n xs w hn hc hA hT).mono ?_
  rintro e w' ⟨hb, ⟨h, g', h1, h2, h3⟩ | ⟨h, h1⟩⟩
  · rw [Tb.put_length, if_pos h]
    exact ⟨_, _, h1, h3.liesAll, hb⟩
  · rw [Tb.put_no h]
    exact ⟨_, _, h1, Lies.nil, hb⟩
end Go.Proofs.YtbjaieopjkbijaaDoor
