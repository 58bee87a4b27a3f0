/-
  Layer 10: super.Slot and super.Load, whatever the device has.
-/
import Derived.Test.YtehnhjnkbclnlaaGreatDoorOpS
import Derived.BigRegion

namespace Go.Proofs.YtehnhjnkbclnlaaGreatDoor
open Go.ChangeShapes Go.WideShapes Go.ChangeAt Go.RowKit
set_option maxRecDepth 100000
/-- Load's rounds -/
def stpS (d : Plain.Dv) : Nat → Tb.T × Bool
  | 0 => (Tb.T.zero, false)
  | i + 1 => Su.look (stpS d i) i (d.sec i)
theorem stpS_zero (d : Plain.Dv) : ∀ i, (stpS d i).2 = false → (stpS d i).1.gen = 0
  | 0, _ => rfl
  | i + 1, h => by
    have hs : stpS d (i + 1) = Su.look (stpS d i) i (d.sec i) := rfl
    rw [hs] at h ⊢
    unfold Su.look at h ⊢
    by_cases hc : Tb.ok (d.sec i) = true ∧ Su.slot (Tb.got (d.sec i)).gen = i ∧ (stpS d i).1.gen < (Tb.got (d.sec i)).gen
    · rw [if_pos hc] at h; cases h
    · rw [if_neg hc] at h ⊢; exact stpS_zero d i h
theorem got_gen {s : List UInt8} (h : Tb.ok s = true) : 1 ≤ (Tb.got s).gen := by
  have h1 := (Tb.ok_back h).1
  unfold Tb.got
  rw [if_pos h]
  have := h1
  unfold Tb.right at this
  simp only [Bool.and_eq_true, decide_eq_true_eq] at this
  omega
def GivesS10 (w : World) (r : Tb.T × Bool × Nat) (e : Ending) (w' : World) : Prop :=
  ∃ A m c, e = .returned (.tuple #[tabV r.1.gen r.1.opn A m c, .bool r.2.1, .int .i64 (r.2.2 : Int)]) ∧ r.1.xs.length = m ∧ m ≤ c ∧ Lies w' A (flatX r.1.xs) ∧ (∀ ad, A = some ad → w.heap.size ≤ ad.block) ∧ Below w.heap.size w w'
theorem and_one (x : Int) : bits .and .i64 x 1 = x % 2 := by
  show IntKind.i64.wrap ((BitVec.ofInt 64 x &&& BitVec.ofInt 64 1).toNat : Int) = _
  rw [BitVec.toNat_and, show (BitVec.ofInt 64 1).toNat = 1 from rfl, Nat.and_one_is_mod, IntKind.wrap_i64, BitVec.toNat_ofInt]
  omega
theorem sslot_any (x : Int) (w : World) : Calls Tryz.prog 24 #[.int .i64 x] w fun e w' => e = .returned (.int .i64 (Su.slot x : Int)) ∧ w = w' := by
  have h : bits .and .i64 x 1 = (Su.slot x : Int) := by rw [and_one, Su.slot_int]
  go_enter Tryz.func24, Tryz.ntmps24
  go_wp2
  go_ret
  exact ⟨rfl, rfl⟩
set_option maxHeartbeats 4000000 in
theorem sload_any (w : World) (g : Nat) (d : Plain.Dv) (h : Fr w g d) :
    Calls Tryz.prog 16 #[.pointer (some ⟨g + 2, 0, none⟩)] w (GivesS10 w (Su.load d)) := by
  unfold GivesS10
  have hn1 := h.dev.ok.one
  have HGG := Lib.hid (show g + 2 < w.heap.size ∧ 0 < g from ⟨h.dev.lt, h.lt⟩)
  have hs1 : (w.alloc (.cells #[.int .i64 0, .int .i64 0, .slice none 0 0] 31)).heap.size = w.heap.size + 1 := by simp
  have ba : Below w.heap.size w ((w.alloc (.cells #[.int .i64 0, .int .i64 0, .slice none 0 0] 31)).alloc (.cells #[.int .i64 0, .int .i64 0, .slice none 0 0] 31)) := ((Below.refl _ _).alloc (Nat.le_refl _) _).alloc (by rw [hs1]; omega) _
  have xa := (Blk.new w #[.int .i64 0, .int .i64 0, .slice none 0 0] 31).below ((Below.refl _ _).alloc (Nat.le_refl _) (.cells #[.int .i64 0, .int .i64 0, .slice none 0 0] 31)) (Nat.le_refl _)
  have xb := Blk.new (w.alloc (.cells #[.int .i64 0, .int .i64 0, .slice none 0 0] 31)) #[.int .i64 0, .int .i64 0, .slice none 0 0] 31
  rw [hs1] at xb
  have HZ := Lib.hid xa
  have HX := Lib.hid xb
  have B0 := Lib.hid ba
  have R0 := Lib.hid (h.below ba)
  clear h xa xb ba hs1
  go_enter Tryz.func16, Tryz.ntmps16
  go_wp2_with fail
  generalize (w.alloc (.cells #[.int .i64 0, .int .i64 0, .slice none 0 0] 31)).alloc (.cells #[.int .i64 0, .int .i64 0, .slice none 0 0] 31) = w0 at *
  go_loopw [6, 12] (fun vf vi wr => ∃ (i : Nat) (A : Option Addr) (n c : Nat), vi = .int .i64 i ∧ i ≤ 2 ∧ vf = .bool (stpS d i).2 ∧ Blk wr (w.heap.size + 1) #[.int .i64 (stpS d i).1.gen, .int .i64 (stpS d i).1.opn, .slice A n c] 31 ∧ (stpS d i).1.xs.length = n ∧ n ≤ c ∧ Lies wr A (flatX (stpS d i).1.xs) ∧ (∀ ad, A = some ad → w.heap.size + 1 < ad.block) ∧ Blk wr w.heap.size #[.int .i64 0, .int .i64 0, .slice none 0 0] 31 ∧ Fr wr g d ∧ Below w.heap.size w wr ∧ (i = 1 → d.down = false) ∧ (i = 2 → d.down = false ∧ 2 ≤ d.n)) (fun _ vi _ => 2 - (intOf vi).toNat)
  case atStart => exact ⟨0, none, 0, 0, rfl, by omega, rfl, HX.out, rfl, Nat.le_refl _, Lies.nil, (fun _ h => by cases h), HZ.out, R0.out, B0.out, (fun h => absurd h (by omega)), fun h => absurd h (by omega)⟩
  case round =>
    obtain ⟨i, A, n, c, rfl, hi, rfl, hbx, hbn, hnc, hbl, hfa, hz, hrf, hbr, hi1, hi2⟩ := hrel
    have BX := Lib.hid hbx
    have HBN := Lib.hid hbn
    have HBL := Lib.hid hbl
    have HFA := Lib.hid hfa
    have HZR := Lib.hid hz
    have RR := Lib.hid hrf
    have BR := Lib.hid hbr
    have HI1 := Lib.hid hi1
    have HI2 := Lib.hid hi2
    clear hbx hbn hbl hfa hz hrf hbr hi1 hi2 HZ HX B0 R0
    by_cases hin : i < 2
    · have HIN := Lib.hid (show i + 1 ≤ 2 by omega)
      have HRD := Lib.hid (read_any wr g d (i : Int) RR.out.dev)
      have hrc : (d.read (i : Int) = ([], 1) ∧ d.n < 2 ∧ i = 1 ∧ d.down = false) ∨ (d.read (i : Int) = ([], 71) ∧ d.down = true ∧ i = 0) ∨ (d.read (i : Int) = (d.sec i, 0) ∧ i < d.n ∧ d.down = false) := by
        unfold Plain.Dv.read
        by_cases hh : i < d.n
        · have e1 : d.has (i : Int) = true := (d.has_iff _).2 (by omega)
          rw [e1, if_neg (by simp)]
          cases hd : d.down with
          | true =>
            right; left
            refine ⟨by simp, rfl, ?_⟩
            rcases (by omega : i = 0 ∨ i = 1) with h | h
            · exact h
            · rw [HI1.out h] at hd; cases hd
          | false => right; right; exact ⟨by simp, hh, rfl⟩
        · have e1 : d.has (i : Int) = false := by
            cases hq : d.has (i : Int) with
            | false => rfl
            | true => have := (d.has_iff _).1 hq; omega
          rw [e1, if_pos rfl]
          left
          exact ⟨rfl, by omega, by omega, HI1.out (by omega)⟩
      rcases hrc with ⟨hrc, hn2, rfl, hdn⟩ | ⟨hrc, hdn, rfl⟩ | ⟨hrc, hid, hdn⟩
      · rw [hrc] at HRD
        have HLD := Lib.hid (show Su.load d = (Tb.T.zero, false, 1) by unfold Su.load; rw [if_neg (by simp [hdn]), if_pos hn2])
        clear hrc hdn
        go_wp2_with fail
        refine HRD.out.mono ?_
        rintro e w1 ⟨A1, c1, rfl, -, -, -, b1⟩
        have HZ1 := HZR.out.below b1 (Nat.le_refl _)
        obtain ⟨q0, q1, q2⟩ := HZ1.three
        have f0 := HZ1.frozen 0
        have f1 := HZ1.frozen 1
        have f2 := HZ1.frozen 2
        have HF := Lib.hid (HZ1.stored3 (.int .i64 0) (.int .i64 0) (.slice none 0 0))
        have HK := Lib.hid (Kept.below (BR.out.trans (b1.mono BR.out.size)) ((Kept.refl [w.heap.size] w1).stored3 (s := w.heap.size) (by simp) (.int .i64 0) (.int .i64 0) (.slice none 0 0)) (by simp))
        clear HZ1 b1
        go_wp2
        have HF2 := HF.out
        have HK2 := HK.out
        generalize ((w1.setCell ⟨w.heap.size, 0, none⟩ (.int .i64 0)).setCell ⟨w.heap.size, 1, none⟩ (.int .i64 0)).setCell ⟨w.heap.size, 2, none⟩ (.slice none 0 0) = wf at *
        obtain ⟨y0, y1, y2⟩ := HF2.three
        refine bodyPost_ret (v := .tuple #[tabV 0 0 none 0 0, .bool false, .int .i64 1]) (w := wf) (by simp [results, Tryz.results16, go_sem, y0, y1, y2]) rfl ?_
        rw [HLD.out]
        exact ⟨none, 0, 0, rfl, rfl, Nat.le_refl _, Lies.nil, fun _ h => (by cases h), HK2⟩
      · rw [hrc] at HRD
        have HLD := Lib.hid (show Su.load d = (Tb.T.zero, false, 71) by unfold Su.load; rw [if_pos hdn])
        clear hrc hdn
        go_wp2_with fail
        refine HRD.out.mono ?_
        rintro e w1 ⟨A1, c1, rfl, -, -, -, b1⟩
        have HZ1 := HZR.out.below b1 (Nat.le_refl _)
        obtain ⟨q0, q1, q2⟩ := HZ1.three
        have f0 := HZ1.frozen 0
        have f1 := HZ1.frozen 1
        have f2 := HZ1.frozen 2
        have HF := Lib.hid (HZ1.stored3 (.int .i64 0) (.int .i64 0) (.slice none 0 0))
        have HK := Lib.hid (Kept.below (BR.out.trans (b1.mono BR.out.size)) ((Kept.refl [w.heap.size] w1).stored3 (s := w.heap.size) (by simp) (.int .i64 0) (.int .i64 0) (.slice none 0 0)) (by simp))
        clear HZ1 b1
        go_wp2
        have HF2 := HF.out
        have HK2 := HK.out
        generalize ((w1.setCell ⟨w.heap.size, 0, none⟩ (.int .i64 0)).setCell ⟨w.heap.size, 1, none⟩ (.int .i64 0)).setCell ⟨w.heap.size, 2, none⟩ (.slice none 0 0) = wf at *
        obtain ⟨y0, y1, y2⟩ := HF2.three
        refine bodyPost_ret (v := .tuple #[tabV 0 0 none 0 0, .bool false, .int .i64 71]) (w := wf) (by simp [results, Tryz.results16, go_sem, y0, y1, y2]) rfl ?_
        rw [HLD.out]
        exact ⟨none, 0, 0, rfl, rfl, Nat.le_refl _, Lies.nil, fun _ h => (by cases h), HK2⟩
      · have hsl : (d.sec i).length = 64 := d.sec_length RR.out.dev.ok i hid
        have hstp : stpS d (i + 1) = Su.look (stpS d i) i (d.sec i) := rfl
        have hi1' : i + 1 = 2 → 2 ≤ d.n := fun h => by omega
        have HI1' := Lib.hid hi1'
        rw [hrc] at HRD
        unfold GivesB at HRD
        simp only [hsl] at HRD
        generalize d.sec i = s at *
        obtain ⟨nx, hnx⟩ : ∃ nx, stpS d (i + 1) = nx := ⟨_, rfl⟩
        have HNX := Lib.hid hnx
        rw [hnx] at hstp
        have HST := Lib.hid hstp
        have HDN := Lib.hid hdn
        have HSL := Lib.hid hsl
        have HZB := Lib.hid (stpS_zero d i)
        have HTG := Lib.hid (fun h : Tb.ok s = true => got_gen h)
        generalize stpS d i = st at *
        obtain ⟨⟨bg, bo, bs⟩, bf⟩ := st
        try simp only at HBN BX HBL HST HZB
        have HBF := Lib.hid (show Su.look (⟨bg, bo, bs⟩, bf) i s = if Tb.ok s = true ∧ Su.slot (Tb.got s).gen = i ∧ bg < (Tb.got s).gen then (Tb.got s, true) else (⟨bg, bo, bs⟩, bf) from rfl)
        obtain ⟨⟨tg, to, ts⟩, hgt⟩ : ∃ t, Tb.got s = t := ⟨_, rfl⟩
        obtain ⟨tn, htn⟩ : ∃ tn, ts.length = tn := ⟨_, rfl⟩
        obtain ⟨OK, hok⟩ : ∃ OK, Tb.ok s = OK := ⟨_, rfl⟩
        rw [hgt, hok] at HBF HTG
        try simp only at HTG
        have HGT := Lib.hid hgt
        have HTN := Lib.hid htn
        have HOK := Lib.hid hok
        clear hrc hdn hsl hstp hi1' hnx hgt htn hok hid
        go_wp2_with fail
        refine HRD.out.mono ?_
        rintro e w1 ⟨A1, c1, rfl, hc1, -, hxx, b1⟩
        have hl1 : Lies w1 A1 (cells s) := by
          obtain ⟨b9, t9, cs9, rfl, -, hb9, hc9⟩ := hxx (by intro h; have := HSL.out; rw [h] at this; cases this)
          rw [← hc9]
          exact hb9.lies.take _
        clear hxx
        have R1 := Lib.hid (RR.out.below b1)
        have X1 := Lib.hid (BX.out.below b1 (Nat.le_refl _))
        have Z1 := Lib.hid (HZR.out.below b1 (Nat.le_refl _))
        have L1 := Lib.hid (HBL.out.below b1)
        have B1 := Lib.hid (BR.out.trans (b1.mono BR.out.size))
        have HS1 := Lib.hid (show w.heap.size + 1 < w1.heap.size from X1.out.lt)
        have HG := Lib.hid (tget_new A1 c1 64 s w1 HSL.out hc1 hl1 R1.out.tab)
        unfold Gives9A at HG
        rw [HGT.out, HOK.out] at HG
        clear hl1 hc1 b1 RR BX HZR HBL BR HRD
        go_wp2_with fail
        refine HG.out.mono ?_
        rintro e w2 ⟨A2, m2, c2, rfl, hm2, hmc, hl2, b2, hf2⟩
        obtain rfl : m2 = tn := by rw [← hm2]; exact HTN.out
        have ba : Below w2.heap.size w2 (w2.alloc (.cells #[.int .i64 tg, .int .i64 to, .slice A2 m2 c2] 31)) := (Below.refl _ _).alloc (Nat.le_refl _) _
        have bb := b2.trans (ba.mono b2.size)
        have R3 := Lib.hid (R1.out.below bb)
        have X3 := Lib.hid (X1.out.below bb (Nat.le_refl _))
        have Z3 := Lib.hid (Z1.out.below bb (Nat.le_refl _))
        have L3 := Lib.hid (L1.out.below bb)
        have T3 := Lib.hid (Blk.new w2 #[.int .i64 tg, .int .i64 to, .slice A2 m2 c2] 31)
        have TL3 := Lib.hid (hl2.below ba)
        have HF2 := Lib.hid (show ∀ ad, A2 = some ad → w.heap.size + 1 < ad.block from fun ad h => by have := hf2 ad h; have := HS1.out; omega)
        have B3 := Lib.hid (B1.out.trans (bb.mono B1.out.size))
        have HMC := Lib.hid hmc
        have HPT := Lib.hid (show w.heap.size + 1 < w2.heap.size by have := HS1.out; have := b2.size; omega)
        clear ba bb b2 hm2 hmc hl2 hf2 R1 X1 Z1 L1 B1 HG
        obtain ⟨t0, t1, t2⟩ := T3.out.three
        obtain ⟨x0, x1, x2⟩ := X3.out.three
        have NO := Lib.hid (show ¬ (OK = true ∧ Su.slot tg = i ∧ bg < tg) → nx = (⟨bg, bo, bs⟩, bf) from fun h => by rw [HST.out, HBF.out, if_neg h])
        have YES := Lib.hid (show OK = true ∧ Su.slot tg = i ∧ bg < tg → nx = (⟨tg, to, ts⟩, true) from fun h => by rw [HST.out, HBF.out, if_pos h])
        rcases OK with _ | _
        · have HE := Lib.hid (NO.out (fun h => by cases h.1))
          go_wp2
          go_roundw
          case rel => exact ⟨i + 1, A, n, c, by go_num, HIN.out, by rw [HNX.out, HE.out], by rw [HNX.out, HE.out]; exact X3.out, by rw [HNX.out, HE.out]; exact HBN.out, hnc, by rw [HNX.out, HE.out]; exact L3.out, HFA.out, Z3.out, R3.out, B3.out, fun _ => HDN.out, fun h => ⟨HDN.out, HI1'.out h⟩⟩
          case measure => have := HIN.out; first | omega | (simp [intOf]; omega)
        obtain ⟨k, hk⟩ : ∃ k, Su.slot tg = k := ⟨_, rfl⟩
        rw [hk] at NO YES
        have HSLOT := Lib.hid (fun (W : World) => sslot_any tg W)
        rw [hk] at HSLOT
        clear hk
        by_cases hki : k = i
        rotate_left
        · have HE := Lib.hid (NO.out (fun h => hki h.2.1))
          have hkb : ((k : Int) == (i : Int)) = false := by simp; omega
          clear hki
          go_wp2_with fail
          refine (HSLOT.out _).mono ?_
          rintro e w4 ⟨rfl, rfl⟩
          go_wp2
          go_roundw
          case rel => exact ⟨i + 1, A, n, c, by go_num, HIN.out, by rw [HNX.out, HE.out], by rw [HNX.out, HE.out]; exact X3.out, by rw [HNX.out, HE.out]; exact HBN.out, hnc, by rw [HNX.out, HE.out]; exact L3.out, HFA.out, Z3.out, R3.out, B3.out, fun _ => HDN.out, fun h => ⟨HDN.out, HI1'.out h⟩⟩
          case measure => have := HIN.out; first | omega | (simp [intOf]; omega)
        have hkb : ((k : Int) == (i : Int)) = true := by simp; omega
        rcases bf with _ | _
        · have hgg : bg < tg := by have h1 := HZB.out rfl; have h2 := HTG.out rfl; omega
          have HE := Lib.hid (YES.out ⟨rfl, hki, hgg⟩)
          clear hki hgg HTG HZB
          have f0 := X3.out.frozen 0
          have f1 := X3.out.frozen 1
          have f2 := X3.out.frozen 2
          have kk := (Kept.refl [w.heap.size + 1] (w2.alloc (.cells #[.int .i64 tg, .int .i64 to, .slice A2 m2 c2] 31))).stored3 (s := w.heap.size + 1) (by simp) (.int .i64 tg) (.int .i64 to) (.slice A2 m2 c2)
          obtain ⟨g1, g2⟩ := HGG.out
          have X5 := Lib.hid (X3.out.stored3 (.int .i64 tg) (.int .i64 to) (.slice A2 m2 c2))
          have R5 := Lib.hid (R3.out.apart kk (fun s hs => by simp only [List.mem_singleton] at hs; omega))
          have Z5 := Lib.hid (kk.blk Z3.out (by simp only [List.mem_singleton]; omega))
          have L5 := Lib.hid (TL3.out.kept (.inr fun ad h hm => by have := HF2.out ad h; simp only [List.mem_singleton] at hm; omega) kk)
          have B5 := Lib.hid (Kept.below B3.out kk (fun s hs => by simp only [List.mem_singleton] at hs; omega))
          clear kk
          go_wp2_with fail
          refine (HSLOT.out _).mono ?_
          rintro e w4 ⟨rfl, rfl⟩
          go_wp2
          go_roundw
          case rel => exact ⟨i + 1, A2, m2, c2, by go_num, HIN.out, by rw [HNX.out, HE.out], by rw [HNX.out, HE.out]; exact X5.out, by rw [HNX.out, HE.out]; exact HTN.out, HMC.out, by rw [HNX.out, HE.out]; exact L5.out, HF2.out, Z5.out, R5.out, B5.out, fun _ => HDN.out, fun h => ⟨HDN.out, HI1'.out h⟩⟩
          case measure => have := HIN.out; first | omega | (simp [intOf]; omega)
        by_cases hgg : bg < tg
        rotate_left
        · have HE := Lib.hid (NO.out (fun h => hgg h.2.2))
          have hgb : decide (bg < tg) = false := decide_eq_false hgg
          clear hki hgg
          go_wp2_with fail
          refine (HSLOT.out _).mono ?_
          rintro e w4 ⟨rfl, rfl⟩
          go_wp2
          go_roundw
          case rel => exact ⟨i + 1, A, n, c, by go_num, HIN.out, by rw [HNX.out, HE.out], by rw [HNX.out, HE.out]; exact X3.out, by rw [HNX.out, HE.out]; exact HBN.out, hnc, by rw [HNX.out, HE.out]; exact L3.out, HFA.out, Z3.out, R3.out, B3.out, fun _ => HDN.out, fun h => ⟨HDN.out, HI1'.out h⟩⟩
          case measure => have := HIN.out; first | omega | (simp [intOf]; omega)
        have HE := Lib.hid (YES.out ⟨rfl, hki, hgg⟩)
        have hgb : decide (bg < tg) = true := decide_eq_true hgg
        clear hki hgg HTG HZB
        have f0 := X3.out.frozen 0
        have f1 := X3.out.frozen 1
        have f2 := X3.out.frozen 2
        have kk := (Kept.refl [w.heap.size + 1] (w2.alloc (.cells #[.int .i64 tg, .int .i64 to, .slice A2 m2 c2] 31))).stored3 (s := w.heap.size + 1) (by simp) (.int .i64 tg) (.int .i64 to) (.slice A2 m2 c2)
        obtain ⟨g1, g2⟩ := HGG.out
        have X5 := Lib.hid (X3.out.stored3 (.int .i64 tg) (.int .i64 to) (.slice A2 m2 c2))
        have R5 := Lib.hid (R3.out.apart kk (fun s hs => by simp only [List.mem_singleton] at hs; omega))
        have Z5 := Lib.hid (kk.blk Z3.out (by simp only [List.mem_singleton]; omega))
        have L5 := Lib.hid (TL3.out.kept (.inr fun ad h hm => by have := HF2.out ad h; simp only [List.mem_singleton] at hm; omega) kk)
        have B5 := Lib.hid (Kept.below B3.out kk (fun s hs => by simp only [List.mem_singleton] at hs; omega))
        clear kk
        go_wp2_with fail
        refine (HSLOT.out _).mono ?_
        rintro e w4 ⟨rfl, rfl⟩
        go_wp2
        go_roundw
        case rel => exact ⟨i + 1, A2, m2, c2, by go_num, HIN.out, by rw [HNX.out, HE.out], by rw [HNX.out, HE.out]; exact X5.out, by rw [HNX.out, HE.out]; exact HTN.out, HMC.out, by rw [HNX.out, HE.out]; exact L5.out, HF2.out, Z5.out, R5.out, B5.out, fun _ => HDN.out, fun h => ⟨HDN.out, HI1'.out h⟩⟩
        case measure => have := HIN.out; first | omega | (simp [intOf]; omega)
    · obtain rfl : i = 2 := by omega
      obtain ⟨e1, e2⟩ := HI2.out rfl
      have HLD := Lib.hid (show Su.load d = ((stpS d 2).1, (stpS d 2).2, 0) by unfold Su.load; rw [if_neg (by simp [e1]), if_neg (by omega)]; rfl)
      clear e1 e2
      generalize stpS d 2 = st at *
      obtain ⟨⟨bg, bo, bs⟩, bf⟩ := st
      try simp only at HBN BX HBL HLD
      obtain ⟨p0, p1, p2⟩ := BX.out.three
      obtain ⟨q0, q1, q2⟩ := HZR.out.three
      have f0 := HZR.out.frozen 0
      have f1 := HZR.out.frozen 1
      have f2 := HZR.out.frozen 2
      have kk := (Kept.refl [w.heap.size] wr).stored3 (s := w.heap.size) (by simp) (.int .i64 bg) (.int .i64 bo) (.slice A n c)
      have HF := Lib.hid (HZR.out.stored3 (.int .i64 bg) (.int .i64 bo) (.slice A n c))
      have HL := Lib.hid (HBL.out.kept (.inr fun ad h hm => by have := HFA.out ad h; simp only [List.mem_singleton] at hm; omega) kk)
      have HK := Lib.hid (Kept.below BR.out kk (by simp))
      clear kk
      go_wp2
      have HF2 := HF.out
      have HK2 := HK.out
      have HL2 := HL.out
      generalize ((wr.setCell ⟨w.heap.size, 0, none⟩ (.int .i64 bg)).setCell ⟨w.heap.size, 1, none⟩ (.int .i64 bo)).setCell ⟨w.heap.size, 2, none⟩ (.slice A n c) = wf at *
      obtain ⟨y0, y1, y2⟩ := HF2.three
      refine bodyPost_ret (v := .tuple #[tabV bg bo A n c, .bool bf, .int .i64 0]) (w := wf) (by simp [results, Tryz.results16, go_sem, y0, y1, y2]) rfl ?_
      rw [HLD.out]
      exact ⟨A, n, c, rfl, HBN.out, hnc, HL2, fun ad h => by have := HFA.out ad h; omega, HK2⟩


end Go.Proofs.YtehnhjnkbclnlaaGreatDoor
