/-
  turntableref10: what Slot, Load and Save answer, of any device. Assumed: that the device stands in memory, and that a table's extents lie apart from it.
-/
import Derived.Test.YtehnhjnkbclnlaaGreatDoorRg9
import Derived.Test.YtehnhjnkbclnlaaGreatDoorRfA
import Derived.Test.YtehnhjnkbclnlaaGreatDoorOpS
import Derived.BigRegion

namespace Go.Proofs.YtehnhjnkbclnlaaGreatDoor
open Go.ChangeShapes Go.WideShapes Go.ChangeAt Go.RowKit
set_option maxRecDepth 100000

theorem tmod_two (x : Int) : (x.tmod 2 = 0 ∧ Su.slot x = 0) ∨ (x.tmod 2 = 1 ∧ Su.slot x = 1) ∨ (x.tmod 2 = -1 ∧ Su.slot x = 1) := by
  unfold Su.slot
  rcases Int.lt_or_le x 0 with h | h
  · have e := Int.neg_tmod (-x) 2
    rw [Int.neg_neg, Int.tmod_eq_emod_of_nonneg (show 0 ≤ -x by omega)] at e
    omega
  · rw [Int.tmod_eq_emod_of_nonneg h]; omega
theorem rslot_any (x : Int) (w : World) : Calls Tryz.prog 25 #[.int .i64 x] w fun e w' => e = .returned (.int .i64 (Su.slot x : Int)) ∧ w = w' := by
  rcases tmod_two x with ⟨h, hs⟩ | ⟨h, hs⟩ | ⟨h, hs⟩
  · rw [hs]
    clear hs
    go_enter Tryz.func25, Tryz.ntmps25
    go_wp2
    go_ret
    exact ⟨rfl, rfl⟩
  · rw [hs]
    clear hs
    go_enter Tryz.func25, Tryz.ntmps25
    go_wp2
    go_ret
    exact ⟨rfl, rfl⟩
  · rw [hs]
    clear hs
    go_enter Tryz.func25, Tryz.ntmps25
    go_wp2
    go_ret
    exact ⟨rfl, rfl⟩

/-- Load's rounds -/
def stp (d : Plain.Dv) : Nat → Tb.T × Bool
  | 0 => (Tb.T.zero, false)
  | i + 1 => Su.look (stp d i) i (d.sec i)
def GivesQ10 (w : World) (r : Tb.T × Bool × Nat) (e : Ending) (w' : World) : Prop :=
  ∃ A m c, e = .returned (.tuple #[tabV r.1.gen r.1.opn A m c, .bool r.2.1, .int .i64 (r.2.2 : Int)]) ∧ r.1.xs.length = m ∧ m ≤ c ∧ Lies w' A (flatX r.1.xs) ∧ Below w.heap.size w w'

set_option maxHeartbeats 4000000 in
theorem rload_any (w : World) (bk bw bl g : Nat) (d : Plain.Dv) (h : IsRef w bk bw bl g d) :
    Calls Tryz.prog 17 #[.pointer (some ⟨g, 0, none⟩)] w (GivesQ10 w (Su.load d)) := by
  unfold GivesQ10
  have hn1 := h.ok.one
  have HGG := Lib.hid h.lts
  have hs1 : (w.alloc (.cells #[.int .i64 0, .int .i64 0, .slice none 0 0] 31)).heap.size = w.heap.size + 1 := by simp
  have ba : Below w.heap.size w ((w.alloc (.cells #[.int .i64 0, .int .i64 0, .slice none 0 0] 31)).alloc (.cells #[.int .i64 0, .int .i64 0, .slice none 0 0] 31)) := ((Below.refl _ _).alloc (Nat.le_refl _) _).alloc (by rw [hs1]; omega) _
  have xa := (Blk.new w #[.int .i64 0, .int .i64 0, .slice none 0 0] 31).below ((Below.refl _ _).alloc (Nat.le_refl _) (.cells #[.int .i64 0, .int .i64 0, .slice none 0 0] 31)) (Nat.le_refl _)
  have xb := Blk.new (w.alloc (.cells #[.int .i64 0, .int .i64 0, .slice none 0 0] 31)) #[.int .i64 0, .int .i64 0, .slice none 0 0] 31
  rw [hs1] at xb
  have HZ := Lib.hid xa
  have HX := Lib.hid xb
  have B0 := Lib.hid ba
  have R0 := Lib.hid (h.below ba)
  clear h xa xb ba hs1
  go_enter Tryz.func17, Tryz.ntmps17
  go_wp2_with fail
  generalize (w.alloc (.cells #[.int .i64 0, .int .i64 0, .slice none 0 0] 31)).alloc (.cells #[.int .i64 0, .int .i64 0, .slice none 0 0] 31) = w0 at *
  go_loopw [6, 7] (fun vf vi wr => ∃ (i : Nat) (A : Option Addr) (n c : Nat), vi = .int .i64 i ∧ i ≤ 2 ∧ vf = .bool (stp d i).2 ∧ Blk wr (w.heap.size + 1) #[.int .i64 (stp d i).1.gen, .int .i64 (stp d i).1.opn, .slice A n c] 31 ∧ (stp d i).1.xs.length = n ∧ n ≤ c ∧ Lies wr A (flatX (stp d i).1.xs) ∧ (∀ ad, A = some ad → w.heap.size + 1 < ad.block) ∧ Blk wr w.heap.size #[.int .i64 0, .int .i64 0, .slice none 0 0] 31 ∧ IsRef wr bk bw bl g d ∧ Below w.heap.size w wr ∧ (i = 1 → d.down = false) ∧ (i = 2 → d.down = false ∧ 2 ≤ d.n)) (fun _ vi _ => 2 - (intOf vi).toNat)
  case atStart => exact ⟨0, none, 0, 0, rfl, by omega, rfl, HX.out, rfl, Nat.le_refl _, Lies.nil, (fun _ h => by cases h), HZ.out, R0.out, B0.out, (fun h => absurd h (by omega)), fun h => absurd h (by omega)⟩
  case round =>
    obtain ⟨i, A, n, c, rfl, hi, rfl, hbx, hbn, hnc, hbl, hfa, hz, hrf, hbr, hi1, hi2⟩ := hrel
    have BX := Lib.hid hbx
    have HBN := Lib.hid hbn
    have HBL := Lib.hid hbl
    have HFA := Lib.hid hfa
    have HZR := Lib.hid hz
    have RR := Lib.hid hrf
    have BR := Lib.hid hbr
    have HI1 := Lib.hid hi1
    have HI2 := Lib.hid hi2
    clear hbx hbn hbl hfa hz hrf hbr hi1 hi2 HZ HX B0 R0
    by_cases hin : i < 2
    · have HIN := Lib.hid (show i + 1 ≤ 2 by omega)
      have HRD := Lib.hid (rread_new wr bk bw bl g d (i : Int) RR.out)
      have hrc : (d.read (i : Int) = ([], 1) ∧ d.n < 2 ∧ i = 1 ∧ d.down = false) ∨ (d.read (i : Int) = ([], 71) ∧ d.down = true ∧ i = 0) ∨ (d.read (i : Int) = (d.sec i, 0) ∧ i < d.n ∧ d.down = false) := by
        unfold Plain.Dv.read
        by_cases hh : i < d.n
        · have e1 : d.has (i : Int) = true := (d.has_iff _).2 (by omega)
          rw [e1, if_neg (by simp)]
          cases hd : d.down with
          | true =>
            right; left
            refine ⟨by simp, rfl, ?_⟩
            rcases (by omega : i = 0 ∨ i = 1) with h | h
            · exact h
            · rw [HI1.out h] at hd; cases hd
          | false => right; right; exact ⟨by simp, hh, rfl⟩
        · have e1 : d.has (i : Int) = false := by
            cases hq : d.has (i : Int) with
            | false => rfl
            | true => have := (d.has_iff _).1 hq; omega
          rw [e1, if_pos rfl]
          left
          exact ⟨rfl, by omega, by omega, HI1.out (by omega)⟩
      rcases hrc with ⟨hrc, hn2, rfl, hdn⟩ | ⟨hrc, hdn, rfl⟩ | ⟨hrc, hid, hdn⟩
      · rw [hrc] at HRD
        have HLD := Lib.hid (show Su.load d = (Tb.T.zero, false, 1) by unfold Su.load; rw [if_neg (by simp [hdn]), if_pos hn2])
        clear hrc hdn
        go_wp2_with fail
        refine HRD.out.mono ?_
        rintro e w1 ⟨A1, c1, rfl, -, -, b1⟩
        have HZ1 := HZR.out.below b1 (Nat.le_refl _)
        obtain ⟨q0, q1, q2⟩ := HZ1.three
        have f0 := HZ1.frozen 0
        have f1 := HZ1.frozen 1
        have f2 := HZ1.frozen 2
        have HF := Lib.hid (HZ1.stored3 (.int .i64 0) (.int .i64 0) (.slice none 0 0))
        have HK := Lib.hid (Kept.below (BR.out.trans (b1.mono BR.out.size)) ((Kept.refl [w.heap.size] w1).stored3 (s := w.heap.size) (by simp) (.int .i64 0) (.int .i64 0) (.slice none 0 0)) (by simp))
        clear HZ1 b1
        go_wp2
        have HF2 := HF.out
        have HK2 := HK.out
        generalize ((w1.setCell ⟨w.heap.size, 0, none⟩ (.int .i64 0)).setCell ⟨w.heap.size, 1, none⟩ (.int .i64 0)).setCell ⟨w.heap.size, 2, none⟩ (.slice none 0 0) = wf at *
        obtain ⟨y0, y1, y2⟩ := HF2.three
        refine bodyPost_ret (v := .tuple #[tabV 0 0 none 0 0, .bool false, .int .i64 1]) (w := wf) (by simp [results, Tryz.results17, go_sem, y0, y1, y2]) rfl ?_
        rw [HLD.out]
        exact ⟨none, 0, 0, rfl, rfl, Nat.le_refl _, Lies.nil, HK2⟩
      · rw [hrc] at HRD
        have HLD := Lib.hid (show Su.load d = (Tb.T.zero, false, 71) by unfold Su.load; rw [if_pos hdn])
        clear hrc hdn
        go_wp2_with fail
        refine HRD.out.mono ?_
        rintro e w1 ⟨A1, c1, rfl, -, -, b1⟩
        have HZ1 := HZR.out.below b1 (Nat.le_refl _)
        obtain ⟨q0, q1, q2⟩ := HZ1.three
        have f0 := HZ1.frozen 0
        have f1 := HZ1.frozen 1
        have f2 := HZ1.frozen 2
        have HF := Lib.hid (HZ1.stored3 (.int .i64 0) (.int .i64 0) (.slice none 0 0))
        have HK := Lib.hid (Kept.below (BR.out.trans (b1.mono BR.out.size)) ((Kept.refl [w.heap.size] w1).stored3 (s := w.heap.size) (by simp) (.int .i64 0) (.int .i64 0) (.slice none 0 0)) (by simp))
        clear HZ1 b1
        go_wp2
        have HF2 := HF.out
        have HK2 := HK.out
        generalize ((w1.setCell ⟨w.heap.size, 0, none⟩ (.int .i64 0)).setCell ⟨w.heap.size, 1, none⟩ (.int .i64 0)).setCell ⟨w.heap.size, 2, none⟩ (.slice none 0 0) = wf at *
        obtain ⟨y0, y1, y2⟩ := HF2.three
        refine bodyPost_ret (v := .tuple #[tabV 0 0 none 0 0, .bool false, .int .i64 71]) (w := wf) (by simp [results, Tryz.results17, go_sem, y0, y1, y2]) rfl ?_
        rw [HLD.out]
        exact ⟨none, 0, 0, rfl, rfl, Nat.le_refl _, Lies.nil, HK2⟩
      · have hsl : (d.sec i).length = 64 := d.sec_length RR.out.ok i hid
        have hstp : stp d (i + 1) = Su.look (stp d i) i (d.sec i) := rfl
        have hi1' : i + 1 = 2 → 2 ≤ d.n := fun h => by omega
        have HI1' := Lib.hid hi1'
        rw [hrc] at HRD
        unfold GivesU at HRD
        simp only [hsl] at HRD
        generalize d.sec i = s at *
        obtain ⟨nx, hnx⟩ : ∃ nx, stp d (i + 1) = nx := ⟨_, rfl⟩
        have HNX := Lib.hid hnx
        rw [hnx] at hstp
        have HST := Lib.hid hstp
        have HDN := Lib.hid hdn
        have HSL := Lib.hid hsl
        generalize stp d i = st at *
        obtain ⟨⟨bg, bo, bs⟩, bf⟩ := st
        try simp only at HBN BX HBL HST
        have HBF := Lib.hid (show Su.look (⟨bg, bo, bs⟩, bf) i s = if Tb.ok s = true ∧ Su.slot (Tb.got s).gen = i ∧ bg < (Tb.got s).gen then (Tb.got s, true) else (⟨bg, bo, bs⟩, bf) from rfl)
        obtain ⟨⟨tg, to, ts⟩, hgt⟩ : ∃ t, Tb.got s = t := ⟨_, rfl⟩
        obtain ⟨tn, htn⟩ : ∃ tn, ts.length = tn := ⟨_, rfl⟩
        obtain ⟨OK, hok⟩ : ∃ OK, Tb.ok s = OK := ⟨_, rfl⟩
        rw [hgt, hok] at HBF
        have HGT := Lib.hid hgt
        have HTN := Lib.hid htn
        have HOK := Lib.hid hok
        clear hrc hdn hsl hstp hi1' hnx hgt htn hok hid
        go_wp2_with fail
        refine HRD.out.mono ?_
        rintro e w1 ⟨A1, c1, rfl, hc1, hl1, b1⟩
        have R1 := Lib.hid (RR.out.below b1)
        have X1 := Lib.hid (BX.out.below b1 (Nat.le_refl _))
        have Z1 := Lib.hid (HZR.out.below b1 (Nat.le_refl _))
        have L1 := Lib.hid (HBL.out.below b1)
        have B1 := Lib.hid (BR.out.trans (b1.mono BR.out.size))
        have HS1 := Lib.hid (show w.heap.size + 1 < w1.heap.size from X1.out.lt)
        have HG := Lib.hid (rget_new A1 c1 64 s w1 HSL.out hc1 hl1)
        unfold Gives9A at HG
        rw [HGT.out, HOK.out] at HG
        clear hl1 hc1 b1 RR BX HZR HBL BR HRD
        go_wp2_with fail
        refine HG.out.mono ?_
        rintro e w2 ⟨A2, m2, c2, rfl, hm2, hmc, hl2, b2, hf2⟩
        obtain rfl : m2 = tn := by rw [← hm2]; exact HTN.out
        have ba : Below w2.heap.size w2 (w2.alloc (.cells #[.int .i64 tg, .int .i64 to, .slice A2 m2 c2] 31)) := (Below.refl _ _).alloc (Nat.le_refl _) _
        have bb := b2.trans (ba.mono b2.size)
        have R3 := Lib.hid (R1.out.below bb)
        have X3 := Lib.hid (X1.out.below bb (Nat.le_refl _))
        have Z3 := Lib.hid (Z1.out.below bb (Nat.le_refl _))
        have L3 := Lib.hid (L1.out.below bb)
        have T3 := Lib.hid (Blk.new w2 #[.int .i64 tg, .int .i64 to, .slice A2 m2 c2] 31)
        have TL3 := Lib.hid (hl2.below ba)
        have HF2 := Lib.hid (show ∀ ad, A2 = some ad → w.heap.size + 1 < ad.block from fun ad h => by have := hf2 ad h; have := HS1.out; omega)
        have B3 := Lib.hid (B1.out.trans (bb.mono B1.out.size))
        have HMC := Lib.hid hmc
        have HPT := Lib.hid (show w.heap.size + 1 < w2.heap.size by have := HS1.out; have := b2.size; omega)
        clear ba bb b2 hm2 hmc hl2 hf2 R1 X1 Z1 L1 B1 HG
        obtain ⟨t0, t1, t2⟩ := T3.out.three
        obtain ⟨x0, x1, x2⟩ := X3.out.three
        have NO := Lib.hid (show ¬ (OK = true ∧ Su.slot tg = i ∧ bg < tg) → nx = (⟨bg, bo, bs⟩, bf) from fun h => by rw [HST.out, HBF.out, if_neg h])
        have YES := Lib.hid (show OK = true ∧ Su.slot tg = i ∧ bg < tg → nx = (⟨tg, to, ts⟩, true) from fun h => by rw [HST.out, HBF.out, if_pos h])
        rcases OK with _ | _
        · have HE := Lib.hid (NO.out (fun h => by cases h.1))
          go_wp2
          go_roundw
          case rel => exact ⟨i + 1, A, n, c, by go_num, HIN.out, by rw [HNX.out, HE.out], by rw [HNX.out, HE.out]; exact X3.out, by rw [HNX.out, HE.out]; exact HBN.out, hnc, by rw [HNX.out, HE.out]; exact L3.out, HFA.out, Z3.out, R3.out, B3.out, fun _ => HDN.out, fun h => ⟨HDN.out, HI1'.out h⟩⟩
          case measure => have := HIN.out; first | omega | (simp [intOf]; omega)
        obtain ⟨k, hk⟩ : ∃ k, Su.slot tg = k := ⟨_, rfl⟩
        rw [hk] at NO YES
        have HSLOT := Lib.hid (fun (W : World) => rslot_any tg W)
        rw [hk] at HSLOT
        clear hk
        by_cases hki : k = i
        rotate_left
        · have HE := Lib.hid (NO.out (fun h => hki h.2.1))
          have hkb : ((k : Int) == (i : Int)) = false := by simp; omega
          clear hki
          go_wp2_with fail
          refine (HSLOT.out _).mono ?_
          rintro e w4 ⟨rfl, rfl⟩
          go_wp2
          go_roundw
          case rel => exact ⟨i + 1, A, n, c, by go_num, HIN.out, by rw [HNX.out, HE.out], by rw [HNX.out, HE.out]; exact X3.out, by rw [HNX.out, HE.out]; exact HBN.out, hnc, by rw [HNX.out, HE.out]; exact L3.out, HFA.out, Z3.out, R3.out, B3.out, fun _ => HDN.out, fun h => ⟨HDN.out, HI1'.out h⟩⟩
          case measure => have := HIN.out; first | omega | (simp [intOf]; omega)
        have hkb : ((k : Int) == (i : Int)) = true := by simp; omega
        by_cases hgg : bg < tg
        rotate_left
        · have HE := Lib.hid (NO.out (fun h => hgg h.2.2))
          have hgb : decide (bg < tg) = false := decide_eq_false hgg
          clear hki hgg
          go_wp2_with fail
          refine (HSLOT.out _).mono ?_
          rintro e w4 ⟨rfl, rfl⟩
          go_wp2
          go_roundw
          case rel => exact ⟨i + 1, A, n, c, by go_num, HIN.out, by rw [HNX.out, HE.out], by rw [HNX.out, HE.out]; exact X3.out, by rw [HNX.out, HE.out]; exact HBN.out, hnc, by rw [HNX.out, HE.out]; exact L3.out, HFA.out, Z3.out, R3.out, B3.out, fun _ => HDN.out, fun h => ⟨HDN.out, HI1'.out h⟩⟩
          case measure => have := HIN.out; first | omega | (simp [intOf]; omega)
        have HE := Lib.hid (YES.out ⟨rfl, hki, hgg⟩)
        have hgb : decide (bg < tg) = true := decide_eq_true hgg
        clear hki hgg
        have f0 := X3.out.frozen 0
        have f1 := X3.out.frozen 1
        have f2 := X3.out.frozen 2
        have kk := (Kept.refl [w.heap.size + 1] (w2.alloc (.cells #[.int .i64 tg, .int .i64 to, .slice A2 m2 c2] 31))).stored3 (s := w.heap.size + 1) (by simp) (.int .i64 tg) (.int .i64 to) (.slice A2 m2 c2)
        obtain ⟨g1, g2, g3, g4⟩ := HGG.out
        have X5 := Lib.hid (X3.out.stored3 (.int .i64 tg) (.int .i64 to) (.slice A2 m2 c2))
        have R5 := Lib.hid (R3.out.keep kk (by simp only [List.mem_singleton]; omega) (by simp only [List.mem_singleton]; omega) (by simp only [List.mem_singleton]; omega) (by simp only [List.mem_singleton]; omega))
        have Z5 := Lib.hid (kk.blk Z3.out (by simp only [List.mem_singleton]; omega))
        have L5 := Lib.hid (TL3.out.kept (.inr fun ad h hm => by have := HF2.out ad h; simp only [List.mem_singleton] at hm; omega) kk)
        have B5 := Lib.hid (Kept.below B3.out kk (fun s hs => by simp only [List.mem_singleton] at hs; omega))
        clear kk
        go_wp2_with fail
        refine (HSLOT.out _).mono ?_
        rintro e w4 ⟨rfl, rfl⟩
        go_wp2
        go_roundw
        case rel => exact ⟨i + 1, A2, m2, c2, by go_num, HIN.out, by rw [HNX.out, HE.out], by rw [HNX.out, HE.out]; exact X5.out, by rw [HNX.out, HE.out]; exact HTN.out, HMC.out, by rw [HNX.out, HE.out]; exact L5.out, HF2.out, Z5.out, R5.out, B5.out, fun _ => HDN.out, fun h => ⟨HDN.out, HI1'.out h⟩⟩
        case measure => have := HIN.out; first | omega | (simp [intOf]; omega)
    · obtain rfl : i = 2 := by omega
      obtain ⟨e1, e2⟩ := HI2.out rfl
      have HLD := Lib.hid (show Su.load d = ((stp d 2).1, (stp d 2).2, 0) by unfold Su.load; rw [if_neg (by simp [e1]), if_neg (by omega)]; rfl)
      clear e1 e2
      generalize stp d 2 = st at *
      obtain ⟨⟨bg, bo, bs⟩, bf⟩ := st
      try simp only at HBN BX HBL HLD
      obtain ⟨p0, p1, p2⟩ := BX.out.three
      obtain ⟨q0, q1, q2⟩ := HZR.out.three
      have f0 := HZR.out.frozen 0
      have f1 := HZR.out.frozen 1
      have f2 := HZR.out.frozen 2
      have kk := (Kept.refl [w.heap.size] wr).stored3 (s := w.heap.size) (by simp) (.int .i64 bg) (.int .i64 bo) (.slice A n c)
      have HF := Lib.hid (HZR.out.stored3 (.int .i64 bg) (.int .i64 bo) (.slice A n c))
      have HL := Lib.hid (HBL.out.kept (.inr fun ad h hm => by have := HFA.out ad h; simp only [List.mem_singleton] at hm; omega) kk)
      have HK := Lib.hid (Kept.below BR.out kk (by simp))
      clear kk
      go_wp2
      have HF2 := HF.out
      have HK2 := HK.out
      have HL2 := HL.out
      generalize ((wr.setCell ⟨w.heap.size, 0, none⟩ (.int .i64 bg)).setCell ⟨w.heap.size, 1, none⟩ (.int .i64 bo)).setCell ⟨w.heap.size, 2, none⟩ (.slice A n c) = wf at *
      obtain ⟨y0, y1, y2⟩ := HF2.three
      refine bodyPost_ret (v := .tuple #[tabV bg bo A n c, .bool bf, .int .i64 0]) (w := wf) (by simp [results, Tryz.results17, go_sem, y0, y1, y2]) rfl ?_
      rw [HLD.out]
      exact ⟨A, n, c, rfl, HBN.out, hnc, HL2, HK2⟩

/-- bytes that were handed back, in memory that was made meanwhile -/
def Fact.newb (B : Nat) (T : List UInt8) (n : Nat) : Fact := ⟨fun v w => ∃ A c, v = .slice A n c ∧ Lies w A (cells T) ∧ ∀ ad, A = some ad → B ≤ ad.block, fun _ _ _ ⟨A, c, e, h, hf⟩ hb => ⟨A, c, e, h.below hb, hf⟩⟩
set_option maxHeartbeats 4000000 in
theorem rsave_any (w : World) (bk bw bl g : Nat) (d : Plain.Dv) (x o : Int) (A : Option Addr) (cap n : Nat) (xs : List Tb.Ext) (hn : xs.length = n) (hA : Lies w A (flatX xs)) (hoff : Off [bk, bw, bl, g] A (flatX xs)) (hdone : d.done < 4611686018427387000) (h : IsRef w bk bw bl g d) :
    Calls Tryz.prog 9 #[.pointer (some ⟨g, 0, none⟩), tabV x o A n cap] w fun e w' => e = .returned (.int .i64 ((Su.save d ⟨x, o, xs⟩).2 : Int)) ∧ IsRef w' bk bw bl g (Su.save d ⟨x, o, xs⟩).1 ∧ Kept [bk, bw, bl, g] w w' := by
  have HGG := Lib.hid h.lts
  have ba : Below w.heap.size w (w.alloc (.cells #[.int .i64 x, .int .i64 o, .slice A n cap] 31)) := (Below.refl _ _).alloc (Nat.le_refl _) _
  have HX0 := Lib.hid (Blk.new w #[.int .i64 x, .int .i64 o, .slice A n cap] 31)
  have K0 := Lib.hid (Kept.of ba [bk, bw, bl, g])
  have R0 := Lib.hid (h.below ba)
  have L0 := Lib.hid (hA.below ba)
  have HOF := Lib.hid hoff
  have HN := Lib.hid hn
  have HDO := Lib.hid hdone
  clear h hA hoff hn ba hdone
  go_enter Tryz.func9, Tryz.ntmps9
  go_wp2_with fail
  generalize w.alloc (.cells #[.int .i64 x, .int .i64 o, .slice A n cap] 31) = w0 at *
  refine (rright9_any x o A cap n xs w0 HN.out L0.out).mono ?_
  rintro e w1 ⟨rfl, b1⟩
  have R1 := Lib.hid (R0.out.below b1)
  have X1 := Lib.hid (HX0.out.below b1 (Nat.le_refl _))
  have L1 := Lib.hid (L0.out.below b1)
  have K1 := Lib.hid (K0.out.trans (Kept.of b1 _))
  clear b1 HX0 K0 R0 L0
  cases hr : Tb.right ⟨x, o, xs⟩ with
  | false =>
    have HSN := Lib.hid (Su.save_no (d := d) hr)
    clear hr
    go_wp2
    go_ret
    rw [HSN.out]
    exact ⟨rfl, R1.out, K1.out⟩
  | true =>
    have HPL := Lib.hid (Su.put_64 hr)
    have HSV := Lib.hid (show Su.save d ⟨x, o, xs⟩ = if d.flush.2 ≠ 0 then d.flush else if (d.flush.1.write (Su.slot x) (Tb.put ⟨x, o, xs⟩)).2 ≠ 0 then d.flush.1.write (Su.slot x) (Tb.put ⟨x, o, xs⟩) else (d.flush.1.write (Su.slot x) (Tb.put ⟨x, o, xs⟩)).1.flush by unfold Su.save; rw [if_neg (by simp [hr])])
    have HF := Lib.hid (rflush_any w1 bk bw bl g d (by have := HDO.out; omega) R1.out)
    have hd1 := d.flush_done
    obtain ⟨d1, E1, h1⟩ : ∃ d1 E1, d.flush = (d1, E1) := ⟨_, _, rfl⟩
    rw [h1] at HF HSV hd1
    simp only at hd1
    have HD1 := Lib.hid hd1
    clear h1 hr hd1
    go_wp2_with fail
    refine HF.out.mono ?_
    rintro e w2 ⟨rfl, r2, k2⟩
    have k2 := k2.mono (S' := [bk, bw, bl, g]) (by simp)
    have R2 := Lib.hid r2
    have L2 := Lib.hid (L1.out.kept HOF.out k2)
    have X2 := Lib.hid (k2.blk X1.out (by have := HGG.out; simp; omega))
    have K2 := Lib.hid (K1.out.trans k2)
    clear r2 k2 R1 L1 X1 K1 HF
    simp only at R2 HSV ⊢
    by_cases he : E1 = 0
    rotate_left
    · have heb : ((E1 : Int) == 0) = false := by simp; omega
      rw [if_pos he] at HSV
      have HS2 := HSV
      clear he HSV
      go_wp2
      go_ret
      rw [HS2.out]
      exact ⟨rfl, R2.out, K2.out⟩
    subst he
    rw [if_neg (by simp)] at HSV
    obtain ⟨k, hk⟩ : ∃ k, Su.slot x = k := ⟨_, rfl⟩
    obtain ⟨PT, hPT⟩ : ∃ PT, Tb.put ⟨x, o, xs⟩ = PT := ⟨_, rfl⟩
    have HSL := Lib.hid (fun (W : World) => rslot_any x W)
    have HPU := Lib.hid (fun (W : World) (hW : Below w2.heap.size w2 W) => rput_is x o A cap n xs 64 W HN.out (L2.out.below hW) HPL.out)
    have hd2 := d1.write_done (k : Int) PT
    have HWR := Lib.hid (fun (A5 : Option Addr) (c5 : Nat) (W : World) (hl : Lies W A5 (cells PT)) (ho : Off [g] A5 (cells PT)) (hR : IsRef W bk bw bl g d1) => rwrite_any W bk bw bl g d1 (k : Int) A5 c5 64 PT (by rw [← hPT]; exact HPL.out) hl ho (by have := HD1.out; have := HDO.out; omega) hR)
    rw [hk] at HSL HSV
    rw [hPT] at HPU HSV
    obtain ⟨d2, E2, h2⟩ : ∃ d2 E2, d1.write (k : Int) PT = (d2, E2) := ⟨_, _, rfl⟩
    rw [h2] at HWR HSV hd2
    simp only at HSV hd2
    have HD2 := Lib.hid (show d2.done < 4611686018427387900 by have := HD1.out; have := HDO.out; omega)
    have HC0 := Lib.hid (fun (W : World) (hW : Below w2.heap.size w2 W) => show (Instr.loadAt 2 (.pointer (some ⟨w.heap.size, 0, none⟩))).run Tryz.prog W = .ok (.int .i64 x) W by
      have c := (X2.out.below hW (Nat.le_refl _)).cell 0
      go_simp)
    have HLT := Lib.hid (fun (W : World) (hW : Below w2.heap.size w2 W) => load_tab W w.heap.size x o A n cap (X2.out.below hW (Nat.le_refl _)))
    have hbd : Below w2.heap.size w2 w2.drew := (Below.refl _ _).drew
    clear hk hPT h2 hd2
    go_wp2
    refine wp_late (by kernel_rfl) 25 [(13, [0]), (14, [3]), (15, [14]), (16, [15]), (17, [3]), (18, [17]), (1006, [13, 16, 18]), (1007, [19])]
      [Fact.is (.pointer (some ⟨g, 0, none⟩)), Fact.is (.pointer (some ⟨w.heap.size, 0, none⟩)), Fact.is (.int .i64 x), Fact.is (.int .i64 (k : Int)), Fact.is (tabV x o A n cap), Fact.newb w2.heap.size PT 64, default, default]
      [1, 1, 1, 1, 1, 1, 2, 2] [6, 7] [19, 5] [13, 14, 15, 16, 17, 18, 19, 5] ((fun p vs w' => IsRef w' bk bw bl g d2 ∧ Kept [bk, bw, bl, g] w2 w' ∧ (1 ≤ p → vs.getD 0 undef = .int .i64 (E2 : Int)) ∧ (p = 2 → vs.getD 1 undef = .int .i64 (E2 : Int))))
      (by kernel_rfl) (by kernel_rfl) rfl rfl ⟨?s0, ?s1, ?s2, ?s3, ?s4, ?s5, trivial⟩ ?late ?fin
    case s0 =>
      intro ρ W hb hc hf hr
      obtain ⟨r0, -⟩ := hr
      have e0 : ρ (.tmp 0) = .pointer (some ⟨g, 0, none⟩) := r0
      clear r0
      refine under_none rfl ?_
      exact ⟨e0, Below.refl _ _⟩
    case s1 =>
      intro ρ W hb hc hf hr
      obtain ⟨r3, -⟩ := hr
      have e3 : ρ (.tmp 3) = .pointer (some ⟨w.heap.size, 0, none⟩) := r3
      clear r3
      refine under_none rfl ?_
      exact soft_field e3 rfl (fun W => by go_simp)
    case s2 =>
      intro ρ W hb hc hf hr
      obtain ⟨r14, -⟩ := hr
      have e14 : ρ (.tmp 14) = .pointer (some ⟨w.heap.size, 0, none⟩) := r14
      clear r14
      refine under_none rfl ?_
      exact soft_load e14 (HC0.out W (hbd.trans (hb.mono (by simp)))) rfl
    case s3 =>
      intro ρ W hb hc hf hr
      obtain ⟨r15, -⟩ := hr
      have e15 : ρ (.tmp 15) = .int .i64 x := r15
      clear r15
      refine under_none rfl ?_
      exact soft_call1 hf e15 (HSL.out W) rfl (by kernel_rfl) same_is
    case s4 =>
      intro ρ W hb hc hf hr
      obtain ⟨r3, -⟩ := hr
      have e3 : ρ (.tmp 3) = .pointer (some ⟨w.heap.size, 0, none⟩) := r3
      clear r3
      refine under_none rfl ?_
      exact soft_load e3 (HLT.out W (hbd.trans (hb.mono (by simp)))) rfl
    case s5 =>
      intro ρ W hb hc hf hr
      obtain ⟨r17, -⟩ := hr
      have e17 : ρ (.tmp 17) = tabV x o A n cap := r17
      clear r17
      refine under_none rfl ?_
      exact soft_call1 hf e17 (HPU.out W (hbd.trans (hb.mono (by simp)))) rfl (by kernel_rfl) (fun _ _ ⟨A, c, h1, _, h2, h3, h4⟩ => ⟨_, h1, ⟨A, c, rfl, h2, fun ad h => Nat.le_trans (hbd.trans (hb.mono (by simp))).size (h3 ad h)⟩, h4⟩)
    case late =>
      intro p j o hj ho a W hsz h0 h1 hfr hou
      match p, hj with
      | 0, hj =>
        obtain rfl : 6 = j := Option.some.inj hj
        obtain rfl := Option.some.inj ho
        clear hj ho
        obtain ⟨hb, hhard⟩ := h0 rfl
        have e13 : a.eval (.tmp 13) = .pointer (some ⟨g, 0, none⟩) := hhard 13 0 rfl rfl
        have e16 : a.eval (.tmp 16) = .int .i64 (k : Int) := hhard 16 3 rfl rfl
        have r18 : (Fact.newb w2.heap.size PT 64).φ (a.tmps.getD 18 undef) W := hhard 18 5 rfl rfl
        clear h0 h1 hhard hfr hou
        have hW := hbd.trans (hb.mono (by simp))
        obtain ⟨A5, c5, e18, hl5, hf5⟩ := r18
        have e18 : a.eval (.tmp 18) = .slice A5 64 c5 := e18
        refine late9_call3 rfl e13 e16 e18 (by kernel_rfl) (HWR.out A5 c5 W hl5 (.inr fun ad h hm => by have := hf5 ad h; have := R2.out.lts; simp only [List.mem_singleton] at hm; omega) (R2.out.below hW)) ?_
        rintro e w' ⟨rfl, hr', hk'⟩
        exact ⟨_, rfl, _, rfl, hr', (Kept.of hW _).trans (hk'.mono (by simp)), fun _ => by simp [Act.put, Array.getD_eq_getD_getElem?, hsz], fun h => absurd h (by omega)⟩
      | 1, hj =>
        obtain rfl : 7 = j := Option.some.inj hj
        obtain rfl := Option.some.inj ho
        clear hj ho
        have hP := h1 (by omega)
        clear h0 h1 hfr hou
        obtain ⟨q1, q2, q3, -⟩ := hP
        have q3 : a.eval (.tmp 19) = .int .i64 (E2 : Int) := q3 (by omega)
        have q4 : a.tmps.getD 19 undef = .int .i64 (E2 : Int) := q3
        refine late_assign rfl q3 ⟨_, rfl, ?_⟩
        exact ⟨q1, q2, fun _ => by simpa [Act.put, Array.getD_eq_getD_getElem?, hsz] using q4, fun _ => by simp [Act.put, Array.getD_eq_getD_getElem?, hsz]⟩
      | q + 2, hj => cases hj
    case fin =>
      intro a w4 ha hP
      obtain ⟨r4, k4, h19, h5⟩ := hP
      have e19 : a.tmps.getD 19 undef = .int .i64 (E2 : Int) := h19 (by decide)
      have e5 : a.tmps.getD 5 undef = .int .i64 (E2 : Int) := h5 rfl
      simp only [List.foldl_cons, List.foldl_nil, e5, e19] at ha
      clear e5 e19
      generalize a.tmps.getD 13 undef = v13 at ha
      generalize a.tmps.getD 14 undef = v14 at ha
      generalize a.tmps.getD 15 undef = v15 at ha
      generalize a.tmps.getD 16 undef = v16 at ha
      generalize a.tmps.getD 17 undef = v17 at ha
      generalize a.tmps.getD 18 undef = v18 at ha
      simp only [Act.put, List.setIfInBounds_toArray, List.set_cons_succ, List.set_cons_zero] at ha
      subst ha
      have R4 := Lib.hid r4
      have K4 := Lib.hid (K2.out.trans k4)
      clear r4 k4 h19 h5
      by_cases he : E2 = 0
      rotate_left
      · have heb : ((E2 : Int) == 0) = false := by simp; omega
        rw [if_pos he] at HSV
        have HS2 := HSV
        clear he HSV
        go_wp2
        go_ret
        rw [HS2.out]
        exact ⟨rfl, R4.out, K4.out⟩
      subst he
      rw [if_neg (by simp)] at HSV
      have HF := Lib.hid (rflush_any w4 bk bw bl g d2 (by have := HD2.out; omega) R4.out)
      go_wp2_with fail
      refine HF.out.mono ?_
      rintro e w5 ⟨rfl, r5, k5⟩
      have R5 := Lib.hid r5
      have K5 := Lib.hid (K4.out.trans (k5.mono (S' := [bk, bw, bl, g]) (by simp)))
      clear r5 k5
      go_wp2
      go_ret
      rw [HSV.out]
      exact ⟨rfl, R5.out, K5.out⟩

end Go.Proofs.YtehnhjnkbclnlaaGreatDoor
