/-
  P10.2, SuperGreater: for all rows of tables and Gens the law returns true: of tables that are saved one behind the other, each of the next Gen, the last one is loaded, and the one ahead of it, if the last one's sector is lost. No condition but that the program's table starts as its text lays it.
-/
import Derived.Test.YtehnhjnkbclnlaaDoorHd10
import Derived.Test.YtehnhjnkbclnlaaDoorSuA
import Derived.Test.YtehnhjnkbclnlaaDoorOpS
import Derived.Test.YtehnhjnkbclnlaaDoorLaid2
import Derived.BigRegion
namespace Go.Proofs.YtehnhjnkbclnlaaDoor.superGreater
open Go.ChangeShapes Go.WideShapes Go.ChangeAt Go.RowKit

/-- zero bytes that were just made -/
def Fact.zeroAt (B : Nat) (zz : List UInt8) : Fact := ⟨fun v w => ∃ b, v = .slice (some ⟨b, 0, none⟩) 64 64 ∧ B ≤ b ∧ Blk w b (cells zz).toArray 5, fun _ _ _ ⟨b, e, hB, h⟩ hb => ⟨b, e, hB, h.below hb (Nat.le_refl _)⟩⟩
theorem soft_make64 {w : World} {ρ : Operand → Value} {o : Oper} {x y : Operand} {B : Nat} (hx : ρ x = .int .i64 64) (hy : ρ y = .int .i64 64) (hB : B ≤ w.heap.size) (ho : o.op = .makeSlice 41 x y) : softUpon Tryd.prog w (Fact.zeroAt B (Plain.full 0)) ((execOp ρ o).run Tryd.prog w) := by
  have e : (execOp ρ o).run Tryd.prog w = .ok (.value (.slice (some ⟨w.heap.size, 0, none⟩) 64 64)) (w.alloc (.cells (cells (Plain.full 0)).toArray 5)) := by
    simp [execOp, ho, hx, hy, make64]
  rw [e]
  exact ⟨⟨_, rfl, hB, Blk.new _ _ _⟩, (Below.refl _ _).alloc (Nat.le_refl _) _⟩

set_option maxHeartbeats 8000000 in
set_option maxRecDepth 100000 in
theorem walkN (S : SuperOk) (w : World) (hT : Tab w) (A : Option Addr) (cap n : Nat) (l : List Tq) (hn : l.length = n) (hA : Lies w A (flatT l)) (hl : ∀ u ∈ l, TqIn w u) (ka : Nat) (hka : ka < 65536) :
    Calls Tryd.prog 5 #[.slice A n cap, .int .u16 (ka : Int)] w fun e w' => e = .returned (.bool true) ∧ Below w.heap.size w w' := by
  have HT := Lib.hid hT
  have HA := Lib.hid hA
  have HL := Lib.hid hl
  have HN := Lib.hid hn
  clear hT hA hl hn
  go_enter Tryd.func5, Tryd.ntmps5
  go_wp2_with fail
  refine (head10_any S w HT.out).mono ?_
  rintro e w1 ⟨rfl, b1⟩
  have HT1 := Lib.hid (HT.out.below b1 (Nat.le_refl _))
  have B1 := Lib.hid b1
  clear b1
  go_wp2_with fail
  refine (fr_new 2 w1 (by omega) (by omega) HT1.out).mono ?_
  rintro e w2 ⟨rfl, f2, b2⟩
  have F2 := Lib.hid f2
  have O2 := Lib.hid (Low.of (HA.out.below B1.out) b2)
  have L2 := Lib.hid (show ∀ u ∈ l, Low w2 w1.heap.size u.A (flatX u.xs) ∧ u.xs.length ≤ u.cap from fun u hu => ⟨Low.of ((HL.out u hu).lies.below B1.out) b2, (HL.out u hu).l⟩)
  have B2 := Lib.hid (B1.out.trans (b2.mono B1.out.size))
  have HQ := Lib.hid B1.out.size
  clear f2 b2 B1 HA HL HT HT1
  generalize w1.heap.size = q at *
  by_cases h30 : 30 < n
  · have hd : decide ((30 : Int) < (n : Int)) = true := by simp; omega
    clear h30
    go_wp2
    go_ret
    exact ⟨rfl, B2.out⟩
  have hd : decide ((30 : Int) < (n : Int)) = false := by simp; omega
  have hn30 : n ≤ 30 := by omega
  clear h30
  have hw1 : wrap64 (ka : Int) = (ka : Int) := by unfold wrap64; omega
  have hw2 : IntKind.i64.wrap (ka : Int) = (ka : Int) := by rw [IntKind.wrap_i64]; omega
  have hw3 : IntKind.i64.wrap ((ka : Int) + 1) = (ka : Int) + 1 := by rw [IntKind.wrap_i64]; omega
  have ba : Below w2.heap.size w2 ((w2.alloc (.cells #[.int .i64 0, .int .i64 0, .slice none 0 0] 24)).alloc (.cells #[.int .i64 0, .int .i64 0, .slice none 0 0] 24)) := ((Below.refl _ _).alloc (Nat.le_refl _) _).alloc (by simp) _
  have xa := Blk.new w2 #[.int .i64 0, .int .i64 0, .slice none 0 0] 24
  have xb := Blk.new (w2.alloc (.cells #[.int .i64 0, .int .i64 0, .slice none 0 0] 24)) #[.int .i64 0, .int .i64 0, .slice none 0 0] 24
  rw [show (w2.alloc (.cells #[.int .i64 0, .int .i64 0, .slice none 0 0] 24)).heap.size = w2.heap.size + 1 by simp] at xb
  have F3 := Lib.hid (F2.out.below ba)
  have O3 := Lib.hid (O2.out.below ba)
  have L3 := Lib.hid (fun u hu => (show _ ∧ _ from ⟨(L2.out u hu).1.below ba, (L2.out u hu).2⟩))
  have B3 := Lib.hid (B2.out.trans (ba.mono B2.out.size))
  have TL := Lib.hid (show TqLo ((w2.alloc (.cells #[.int .i64 0, .int .i64 0, .slice none 0 0] 24)).alloc (.cells #[.int .i64 0, .int .i64 0, .slice none 0 0] 24)) q w2.heap.size Tq.z from ⟨xa.below ((Below.refl _ _).alloc (Nat.le_refl _) _) (Nat.le_refl _), Low.nil, Nat.le_refl _⟩)
  have TA := Lib.hid (show TqLo ((w2.alloc (.cells #[.int .i64 0, .int .i64 0, .slice none 0 0] 24)).alloc (.cells #[.int .i64 0, .int .i64 0, .slice none 0 0] 24)) q (w2.heap.size + 1) Tq.z from ⟨xb, Low.nil, Nat.le_refl _⟩)
  have HP := Lib.hid (show q + 2 < w2.heap.size from F2.out.dev.lt)
  clear ba xa xb F2 O2 L2 B2
  go_wp2_with fail
  generalize (w2.alloc (.cells #[.int .i64 0, .int .i64 0, .slice none 0 0] 24)).alloc (.cells #[.int .i64 0, .int .i64 0, .slice none 0 0] 24) = w3 at *
  generalize w2.heap.size = p at *
  clear hw1 hw2 hw3 hd
  go_loopw [7, 10, 11] (fun vg vm vi wr => ∃ (i m : Nat) (d : Plain.Dv) (tl ta : Tq), vi = .int .i64 i ∧ i ≤ n ∧ m ≤ i ∧ vm = .int .i64 m ∧ vg = .int .i64 ((ka : Int) + 1 + (m : Int)) ∧ Su.Gr d ((ka : Int) + 1 + (m : Int)) m tl.t ta.t ∧ d.done ≤ 3 * i ∧ Fr wr q d ∧ Low wr q A (flatT l) ∧ (∀ u ∈ l, Low wr q u.A (flatX u.xs) ∧ u.xs.length ≤ u.cap) ∧ TqLo wr q p tl ∧ TqLo wr q (p + 1) ta ∧ tl.xs.length ≤ 8 ∧ ta.xs.length ≤ 8 ∧ Below w.heap.size w wr ∧ p + 1 < wr.heap.size) (fun _ _ vi _ => n - (intOf vi).toNat)
  case atStart => exact ⟨0, 0, Plain.Dv.new 2, Tq.z, Tq.z, rfl, by omega, by omega, rfl, by simp, Su.Gr.zero _, by show (0 : Nat) ≤ _; omega, F3.out, O3.out, L3.out, TL.out, TA.out, by show (0 : Nat) ≤ _; omega, by show (0 : Nat) ≤ _; omega, B3.out, TA.out.blk.lt⟩
  case round =>
    obtain ⟨i, m, d, tl, ta, rfl, hi, hm, rfl, rfl, hgr, hdn, hfr, hold, hls, htl, hta, h8l, h8a, hbr, hps⟩ := hrel
    have GR := Lib.hid hgr
    have FR := Lib.hid hfr
    have OR := Lib.hid hold
    have LR := Lib.hid hls
    have TLR := Lib.hid htl
    have TAR := Lib.hid hta
    have BR := Lib.hid hbr
    have PS := Lib.hid hps
    have HQP : p ∉ [q, q + 1, q + 2] := by have := HP.out; simp; omega
    have HQP1 : p + 1 ∉ [q, q + 1, q + 2] := by have := HP.out; simp; omega
    have HQQ := Lib.hid (show p ∉ [q, q + 1, q + 2] ∧ p + 1 ∉ [q, q + 1, q + 2] from ⟨HQP, HQP1⟩)
    clear hgr hfr hold hls htl hta hbr hps HQP HQP1 F3 O3 L3 B3 TL TA
    by_cases hin : i < n
    · have hil : i < l.length := by rw [HN.out]; exact hin
      have HIN := Lib.hid (show i + 1 ≤ n by omega)
      obtain ⟨ad, rfl, x0, x1, x2⟩ := at_tq OR.out.lies i hil
      obtain ⟨hou, hcu⟩ := LR.out l[i] (List.getElem_mem hil)
      generalize l[i] = u at *
      obtain ⟨ug, uo, uA, uc, ux⟩ := u
      simp only at x0 x1 x2 hou hcu
      obtain ⟨un, hun⟩ : ∃ un, ux.length = un := ⟨_, rfl⟩
      rw [hun] at x2 hcu
      have HUN := Lib.hid hun
      have HOU := Lib.hid hou
      clear hun hou
      have hgw : IntKind.i64.wrap ((ka : Int) + 1 + (m : Int) + 1) = (ka : Int) + 1 + ((m + 1 : Nat) : Int) := by rw [IntKind.wrap_i64]; omega
      have HSV := Lib.hid (fun (W : World) (hO : Low W q uA (flatX ux)) (hF : Fr W q d) => S.save q d ((ka : Int) + 1 + (m : Int)) uo uA uc un ux W HUN.out hcu hO.old (by omega) hF)
      obtain ⟨G, hG⟩ : ∃ G : Int, (ka : Int) + 1 + (m : Int) = G := ⟨_, rfl⟩
      have HGE := Lib.hid hG
      rw [hG] at HSV GR hgw ⊢
      clear hG
      have ba : Below wr.heap.size wr (wr.alloc (.cells #[.int .i64 G, .int .i64 uo, .slice uA un uc] 24)) := (Below.refl _ _).alloc (Nat.le_refl _) _
      have F1 := Lib.hid (FR.out.below ba)
      have O1 := Lib.hid (OR.out.below ba)
      have L1 := Lib.hid (show ∀ u ∈ l, Low _ q u.A (flatX u.xs) ∧ u.xs.length ≤ u.cap from fun u hu => ⟨(LR.out u hu).1.below ba, (LR.out u hu).2⟩)
      have TL1 := Lib.hid (TLR.out.below ba)
      have TA1 := Lib.hid (TAR.out.below ba)
      have B1 := Lib.hid (BR.out.trans (ba.mono BR.out.size))
      have U1 := Lib.hid (HOU.out.below ba)
      have X1 := Lib.hid (Blk.new wr #[.int .i64 G, .int .i64 uo, .slice uA un uc] 24)
      clear ba FR OR LR TLR TAR BR HOU
      go_wp2_with fail
      generalize wr.alloc (.cells #[.int .i64 G, .int .i64 uo, .slice uA un uc] 24) = wx at *
      generalize wr.heap.size = pt at *
      refine (HSV.out wx U1.out F1.out).mono ?_
      rintro e wy ⟨rfl, fy, ky⟩
      have hq3 : ∀ s ∈ [q, q + 1, q + 2], q ≤ s := fun s hs => by simp at hs; omega
      have hpt : pt ∉ [q, q + 1, q + 2] := by have := HP.out; have := PS.out; simp; omega
      have F2 := Lib.hid fy
      have O2 := Lib.hid (O1.out.on ky hq3)
      have L2 := Lib.hid (show ∀ u ∈ l, Low _ q u.A (flatX u.xs) ∧ u.xs.length ≤ u.cap from fun u hu => ⟨(L1.out u hu).1.on ky hq3, (L1.out u hu).2⟩)
      have TL2 := Lib.hid (TL1.out.on ky hq3 HQQ.out.1)
      have TA2 := Lib.hid (TA1.out.on ky hq3 HQQ.out.2)
      have U2 := Lib.hid (U1.out.on ky hq3)
      have X2 := Lib.hid (ky.blk X1.out hpt)
      have B2 := Lib.hid (Kept.below B1.out ky (fun s hs => by have := HQ.out; simp at hs; omega))
      have PS2 := Lib.hid (show p + 1 < wy.heap.size from TA2.out.blk.lt)
      have PT2 := Lib.hid (show pt < wy.heap.size from X2.out.lt)
      clear fy ky hq3 hpt F1 O1 L1 TL1 TA1 U1 X1 B1 HSV x0 x1 x2
      by_cases hr : Tb.right ⟨G, uo, ux⟩ = true
      · have hn2 : 2 ≤ d.n := by rw [GR.out.n]; omega
        have e0 : (Su.save d ⟨G, uo, ux⟩).2 = 0 := (Su.save_iff GR.out.free hn2 _).2 hr
        have GR2 := Lib.hid (GR.out.step hr rfl)
        have hk2 := Su.save_done d ⟨G, uo, ux⟩
        have H8 := Lib.hid (show ux.length ≤ 8 from (Tb.right_iff.1 hr).n2)
        rw [e0]
        generalize (Su.save d ⟨G, uo, ux⟩).1 = d2 at *
        have hmw : IntKind.i64.wrap ((m : Int) + 1) = ((m + 1 : Nat) : Int) := by rw [IntKind.wrap_i64]; omega
        obtain ⟨lg, lo, lA, lc, lx⟩ := tl
        obtain ⟨ln, hln⟩ : ∃ ln, lx.length = ln := ⟨_, rfl⟩
        have TLB := TL2.out.blk
        simp only at TLB
        rw [hln] at TLB
        have HLN := Lib.hid hln
        have TLBH := Lib.hid TLB
        have HLC := Lib.hid (show lx.length ≤ lc from TL2.out.l)
        have TAB := TA2.out.blk
        have TABH := Lib.hid TAB
        -- the one ahead
        obtain ⟨y0, y1, y2⟩ := TLB.three
        obtain ⟨a0, a1, a2⟩ := TAB.three
        have fa0 := TAB.frozen 0
        have fa1 := TAB.frozen 1
        have fa2 := TAB.frozen 2
        have kA := (Kept.refl [p + 1] wy).stored3 (s := p + 1) (by simp) (.int .i64 lg) (.int .i64 lo) (.slice lA ln lc)
        have TAN := TAB.stored3 (.int .i64 lg) (.int .i64 lo) (.slice lA ln lc)
        have XW := kA.blk X2.out (by have := PS.out; simp; omega)
        have TLW := kA.blk TLB (by simp)
        obtain ⟨x0, x1, x2⟩ := XW.three
        obtain ⟨l0, l1, l2⟩ := TLW.three
        have fl0 := TLW.frozen 0
        have fl1 := TLW.frozen 1
        have fl2 := TLW.frozen 2
        have kL := (Kept.refl [p] (((wy.setCell ⟨p + 1, 0, none⟩ (.int .i64 lg)).setCell ⟨p + 1, 1, none⟩ (.int .i64 lo)).setCell ⟨p + 1, 2, none⟩ (.slice lA ln lc))).stored3 (s := p) (by simp) (.int .i64 G) (.int .i64 uo) (.slice uA un uc)
        have TLN := Lib.hid (TLW.stored3 (.int .i64 G) (.int .i64 uo) (.slice uA un uc))
        have TAN2 := Lib.hid (kL.blk TAN (by simp))
        have KK := Lib.hid ((kA.mono (S' := [p, p + 1]) (by simp)).trans (kL.mono (S' := [p, p + 1]) (by simp)))
        clear kA kL TAN XW TLW TLB TAB hln
        have HSZ := Lib.hid (show p + 1 < _ from TAN2.out.lt)
        have hp0 : ∀ s ∈ [p, p + 1], q ≤ s := fun s hs => by have := HP.out; simp at hs; omega
        have HP0 := Lib.hid hp0
        have hptp : pt ∉ [p, p + 1] := by have := PS.out; simp; omega
        have F3 := Lib.hid (show Fr _ q d2 from ⟨F2.out.dev.keep KK.out (by have := HP.out; simp; omega) (by have := HP.out; simp; omega) (by have := HP.out; simp; omega), ⟨by have := KK.out.size; have := F2.out.tab.1; omega, fun i hi => (World.cell?_of_block (KK.out.block _ F2.out.tab.1 (by have := HP.out; have := F2.out.lt; simp; omega))).trans (F2.out.tab.2 i hi)⟩, F2.out.lt⟩)
        have O3 := Lib.hid (O2.out.on KK.out hp0)
        have L3 := Lib.hid (show ∀ u ∈ l, Low _ q u.A (flatX u.xs) ∧ u.xs.length ≤ u.cap from fun u hu => ⟨(L2.out u hu).1.on KK.out hp0, (L2.out u hu).2⟩)
        have U3 := Lib.hid (U2.out.on KK.out hp0)
        have UL3 := Lib.hid (TL2.out.low.on KK.out hp0)
        have B3 := Lib.hid (Kept.below B2.out KK.out (fun s hs => by have := HQ.out; have := hp0 s hs; omega))
        clear hp0 hptp KK
        go_wp2_with fail
        generalize ((((((wy.setCell ⟨p + 1, 0, none⟩ (.int .i64 lg)).setCell ⟨p + 1, 1, none⟩ (.int .i64 lo)).setCell ⟨p + 1, 2, none⟩ (.slice lA ln lc)).setCell ⟨p, 0, none⟩ (.int .i64 G)).setCell ⟨p, 1, none⟩ (.int .i64 uo)).setCell ⟨p, 2, none⟩ (.slice uA un uc)) = wz at *
        clear y0 y1 y2 a0 a1 a2 fa0 fa1 fa2 x0 x1 x2 l0 l1 l2 fl0 fl1 fl2 TLBH TABH F2 O2 L2 TL2 TA2 U2 X2 B2
        refine (S.load q d2 G uo ux un true 0 wz F3.out (GR2.out.load (by omega)) HUN.out).mono ?_
        rintro e w4 ⟨AX, cx, rfl, hcx, hx, -, b4⟩
        have ba : Below w4.heap.size w4 (w4.alloc (.cells #[.int .i64 G, .int .i64 uo, .slice AX un cx] 24)) := (Below.refl _ _).alloc (Nat.le_refl _) _
        have bb := b4.trans (ba.mono b4.size)
        have F5 := Lib.hid (F3.out.below bb)
        have O5 := Lib.hid (O3.out.below bb)
        have L5 := Lib.hid (show ∀ u ∈ l, Low _ q u.A (flatX u.xs) ∧ u.xs.length ≤ u.cap from fun u hu => ⟨(L3.out u hu).1.below bb, (L3.out u hu).2⟩)
        have U5 := Lib.hid (U3.out.below bb)
        have UL5 := Lib.hid (UL3.out.below bb)
        have TL5 := Lib.hid (TLN.out.below bb (Nat.le_refl _))
        have TA5 := Lib.hid (TAN2.out.below bb (Nat.le_refl _))
        have X5 := Lib.hid (hx.below ba)
        have XX5 := Lib.hid (Blk.new w4 #[.int .i64 G, .int .i64 uo, .slice AX un cx] 24)
        have B5 := Lib.hid (B3.out.trans (bb.mono B3.out.size))
        clear ba bb b4 hx hcx F3 O3 L3 U3 UL3 TLN TAN2 B3
        obtain ⟨z0, z1, z2⟩ := XX5.out.three
        obtain ⟨y0, y1, y2⟩ := TL5.out.three
        go_wp2_with fail
        generalize w4.alloc (.cells #[.int .i64 G, .int .i64 uo, .slice AX un cx] 24) = w5 at *
        refine (rsame_is G uo AX cx un ux G uo uA uc un ux w5 true HUN.out HUN.out (by have := HUN.out; have := H8.out; omega) X5.out U5.out.lies (decide_eq_true rfl)).mono ?_
        rintro e w6 ⟨rfl, b6⟩
        have F6 := Lib.hid (F5.out.below b6)
        have O6 := Lib.hid (O5.out.below b6)
        have L6 := Lib.hid (show ∀ u ∈ l, Low _ q u.A (flatX u.xs) ∧ u.xs.length ≤ u.cap from fun u hu => ⟨(L5.out u hu).1.below b6, (L5.out u hu).2⟩)
        have TL6 := Lib.hid (show TqLo w6 q p ⟨G, uo, uA, uc, ux⟩ from ⟨by simp only; rw [HUN.out]; exact TL5.out.below b6 (Nat.le_refl _), U5.out.below b6, by simp only; rw [HUN.out]; exact hcu⟩)
        have TA6 := Lib.hid (show TqLo w6 q (p + 1) ⟨lg, lo, lA, lc, lx⟩ from ⟨by simp only; rw [HLN.out]; exact TA5.out.below b6 (Nat.le_refl _), UL5.out.below b6, HLC.out⟩)
        have B6 := Lib.hid (B5.out.trans (b6.mono B5.out.size))
        clear b6 z0 z1 z2 y0 y1 y2 F5 O5 L5 U5 UL5 TL5 TA5 X5 XX5 B5
        go_wp2
        go_roundw
        case rel => exact ⟨i + 1, m + 1, d2, ⟨G, uo, uA, uc, ux⟩, ⟨lg, lo, lA, lc, lx⟩, by go_num, HIN.out, by omega, rfl, by congr 1, by rw [show (ka : Int) + 1 + ((m + 1 : Nat) : Int) = G + 1 by rw [← HGE.out]; omega]; exact GR2.out, by omega, F6.out, O6.out, L6.out, TL6.out, TA6.out, H8.out, h8l, B6.out, TA6.out.blk.lt⟩
        case measure => have := HIN.out; first | omega | (simp [intOf]; omega)
      · have e0 : (Su.save d ⟨G, uo, ux⟩) = (d, 1) := Su.save_no (by simpa using hr)
        rw [e0] at F2 ⊢
        clear e0 hr
        go_wp2
        go_roundw
        case rel => exact ⟨i + 1, m, d, tl, ta, by go_num, HIN.out, by omega, rfl, by rw [HGE.out], by rw [HGE.out]; exact GR.out, by omega, F2.out, O2.out, L2.out, TL2.out, TA2.out, h8l, h8a, B2.out, PS2.out⟩
        case measure => have := HIN.out; first | omega | (simp [intOf]; omega)
    · obtain rfl : i = n := by omega
      have HGW := Lib.hid (show wrap64 ((ka : Int) + 1 + (m : Int)) = (ka : Int) + 1 + (m : Int) by unfold wrap64; omega)
      rcases Nat.eq_zero_or_pos m with hm0 | hm0
      · subst hm0
        go_wp2
        go_ret
        exact ⟨rfl, BR.out⟩
      have hmz : ((m : Int) == 0) = false := by simp; omega
      have hdd : d.done < 4611686018427387000 := by omega
      obtain ⟨s1, s2, s3⟩ := GR.out.some hm0
      have hlost := GR.out.lost hm0
      obtain ⟨lg, lo, lA, lc, lx⟩ := tl
      obtain ⟨ag, ao, aA, ac, ax⟩ := ta
      obtain ⟨an, han⟩ : ∃ an, ax.length = an := ⟨_, rfl⟩
      have HAN := Lib.hid han
      obtain ⟨k, hk⟩ : ∃ k, Su.slot lg = k := ⟨_, rfl⟩
      obtain ⟨M1, hM1⟩ : ∃ M1, decide (1 < m) = M1 := ⟨_, rfl⟩
      have hM2 : decide ((1 : Int) < (m : Int)) = M1 := by rw [← hM1]; congr 1; simp; omega
      have hR := Tb.right_iff.1 s1
      have hg1 : 1 ≤ lg := hR.g1
      have hg2 : lg ≤ 2147483648 := hR.g2
      have hlost : Su.load (d.write (Su.slot lg : Nat) (Plain.full 0)).1 = (⟨ag, ao, ax⟩, decide (1 < m), 0) := hlost
      rw [hk, hM1] at hlost
      have HSL := Lib.hid (fun (W : World) => S.slot lg W (by omega) (by omega))
      rw [hk] at HSL
      have HWR := Lib.hid (fun (b : Nat) (W : World) (hO : Old W q (some ⟨b, 0, none⟩) (cells (Plain.full 0))) (hF : Fr W q d) => fr_write q d (k : Int) (some ⟨b, 0, none⟩) 64 64 (Plain.full 0) W (Plain.full_length 0) hO hdd hF)
      have TLB := TLR.out.blk
      have TAB := TAR.out.blk
      simp only at TLB TAB
      rw [han] at TAB
      have TABH := Lib.hid TAB
      have AL := Lib.hid (show Low wr q aA (flatX ax) from TAR.out.low)
      have HC0 := Lib.hid (fun (W : World) (hW : Below wr.heap.size wr W) => show (Instr.loadAt 2 (.pointer (some ⟨p, 0, none⟩))).run Tryd.prog W = .ok (.int .i64 lg) W by
        have c := (TLB.below hW (Nat.le_refl _)).cell 0
        go_simp)
      clear TLB TAB s1 s2 s3 hR han hk hM1 hdn hm hmz
      have hmz : ((m : Int) == 0) = false := by simp; omega
      have hbd : Below wr.heap.size wr wr.drew := (Below.refl _ _).drew
      generalize hD : (d.write (k : Int) (Plain.full 0)).1 = dw at *
      have HFF := Lib.hid hD
      clear hD
      go_wp2
      refine wp_late (by kernel_rfl) 103 [(75, [6]), (76, [8]), (77, [76]), (78, [77]), (79, []), (1005, [75, 78, 79])]
        [Fact.is (.pointer (some ⟨q + 2, 0, none⟩)), Fact.is (.pointer (some ⟨p, 0, none⟩)), Fact.is (.int .i64 lg), Fact.is (.int .i64 (k : Int)), Fact.zeroAt wr.heap.size (Plain.full 0), default]
        [1, 1, 1, 1, 1, 2] [5] [] [75, 76, 77, 78, 79, 80] ((fun _ _ w' => ∃ W, Below wr.heap.size wr W ∧ Fr w' q dw ∧ Kept [q, q + 1, q + 2] W w'))
        (by kernel_rfl) (by kernel_rfl) rfl rfl ⟨?s0, ?s1, ?s2, ?s3, ?s4, trivial⟩ ?late ?fin
      case s0 =>
        intro ρ W hb hc hf hr
        obtain ⟨r6, -⟩ := hr
        have e6 : ρ (.tmp 6) = .pointer (some ⟨q + 2, 0, none⟩) := r6
        clear r6
        refine under_none rfl ?_
        exact ⟨e6, Below.refl _ _⟩
      case s1 =>
        intro ρ W hb hc hf hr
        obtain ⟨r8, -⟩ := hr
        have e8 : ρ (.tmp 8) = .pointer (some ⟨p, 0, none⟩) := r8
        clear r8
        refine under_none rfl ?_
        exact soft_field e8 rfl (fun W => by go_simp)
      case s2 =>
        intro ρ W hb hc hf hr
        obtain ⟨r76, -⟩ := hr
        have e76 : ρ (.tmp 76) = .pointer (some ⟨p, 0, none⟩) := r76
        clear r76
        refine under_none rfl ?_
        exact soft_load e76 (HC0.out W (hbd.trans (hb.mono (by simp)))) rfl
      case s3 =>
        intro ρ W hb hc hf hr
        obtain ⟨r77, -⟩ := hr
        have e77 : ρ (.tmp 77) = .int .i64 lg := r77
        clear r77
        refine under_none rfl ?_
        exact soft_call1 hf e77 (HSL.out W) rfl (by kernel_rfl) below_is
      case s4 =>
        intro ρ W hb hc hf hr
        clear hr
        refine under_none rfl ?_
        exact soft_make64 (hc _) (hc _) (hbd.trans (hb.mono (by simp))).size rfl
      case late =>
        intro p j o hj ho a W hsz h0 h1 hfr hou
        match p, hj with
        | 0, hj =>
          obtain rfl : 5 = j := Option.some.inj hj
          obtain rfl := Option.some.inj ho
          clear hj ho
          obtain ⟨hb, hhard⟩ := h0 rfl
          have e75 : a.eval (.tmp 75) = .pointer (some ⟨q + 2, 0, none⟩) := hhard 75 0 rfl rfl
          have e78 : a.eval (.tmp 78) = .int .i64 (k : Int) := hhard 78 3 rfl rfl
          have r79 : (Fact.zeroAt wr.heap.size (Plain.full 0)).φ (a.tmps.getD 79 undef) W := hhard 79 4 rfl rfl
          clear h0 h1 hhard hfr hou
          have hW := hbd.trans (hb.mono (by simp))
          obtain ⟨b, e79, hbb, hbk⟩ := r79
          have e79 : a.eval (.tmp 79) = .slice (some ⟨b, 0, none⟩) 64 64 := e79
          refine late9_call3 rfl e75 e78 e79 (by kernel_rfl) (HWR.out b W (Old.blk hbk (by have := FR.out.dev.lt; omega)) (FR.out.below hW)) ?_
          rintro e w' ⟨rfl, hf, hkk⟩
          exact ⟨_, rfl, _, rfl, W, hW, hf, hkk⟩
        | q + 1, hj => cases hj
      case fin =>
        intro a w4 ha hP
        obtain ⟨W, hW, hf, hkk⟩ := hP
        simp only [List.foldl_cons, List.foldl_nil] at ha
        generalize a.tmps.getD 75 undef = v75 at ha
        generalize a.tmps.getD 76 undef = v76 at ha
        generalize a.tmps.getD 77 undef = v77 at ha
        generalize a.tmps.getD 78 undef = v78 at ha
        generalize a.tmps.getD 79 undef = v79 at ha
        generalize a.tmps.getD 80 undef = v80 at ha
        simp only [Act.put, List.setIfInBounds_toArray, List.set_cons_succ, List.set_cons_zero] at ha
        subst ha
        have F5 := Lib.hid hf
        have AL5 := Lib.hid ((AL.out.below hW).on hkk (fun s hs => by simp at hs; omega))
        have TA5 := Lib.hid (hkk.blk (TABH.out.below hW (Nat.le_refl _)) HQQ.out.2)
        have B5 := Lib.hid (Kept.below (BR.out.trans (hW.mono BR.out.size)) hkk (fun s hs => by have := HQ.out; simp at hs; omega))
        clear hf hW hkk
        go_wp2_with fail
        refine (S.load q dw ag ao ax an M1 0 w4 F5.out hlost HAN.out).mono ?_
        rintro e w5 ⟨AX, cx, rfl, hcx, hx, -, b5⟩
        have ba : Below w5.heap.size w5 (w5.alloc (.cells #[.int .i64 ag, .int .i64 ao, .slice AX an cx] 24)) := (Below.refl _ _).alloc (Nat.le_refl _) _
        have bb := b5.trans (ba.mono b5.size)
        have AL6 := Lib.hid (AL5.out.below bb)
        have TA6 := Lib.hid (TA5.out.below bb (Nat.le_refl _))
        have X6 := Lib.hid (hx.below ba)
        have XX6 := Lib.hid (Blk.new w5 #[.int .i64 ag, .int .i64 ao, .slice AX an cx] 24)
        have B6 := Lib.hid (B5.out.trans (bb.mono B5.out.size))
        clear ba bb b5 hx hcx
        obtain ⟨z0, z1, z2⟩ := XX6.out.three
        obtain ⟨y0, y1, y2⟩ := TA6.out.three
        have hMM : (M1 == M1) = true := by simp
        go_wp2_with fail
        refine (rsame_is ag ao AX cx an ax ag ao aA ac an ax _ true HAN.out HAN.out (by have := HAN.out; omega) X6.out AL6.out.lies (decide_eq_true rfl)).mono ?_
        rintro e w7 ⟨rfl, b7⟩
        have B7 := Lib.hid (B6.out.trans (b7.mono B6.out.size))
        clear b7 z0 z1 z2 y0 y1 y2
        go_wp2
        go_ret
        exact ⟨rfl, B7.out⟩

theorem walk (w : World) (hT : Tab w) (A : Option Addr) (cap : Nat) (l : List Tq) (_ : l.length ≤ cap) (_ : cap ≤ maxLen) (hA : Lies w A (flatT l)) (hQ : ∀ u ∈ l, TqIn w u) (a : Int) (ha : 0 ≤ a ∧ a ≤ 65535) :
    Calls Tryd.prog 5 #[.slice A l.length cap, .int .u16 a] w fun e w' => e = .returned (.bool true) ∧ Below w.heap.size w w' := by
  obtain ⟨a, rfl⟩ := Int.eq_ofNat_of_zero_le ha.1
  exact walkN superOk w hT A cap l.length l rfl hA hQ a (by omega)


set_option maxRecDepth 100000 in
theorem lifted (os : Os) (started : os.Started) (H : Type) (enc : TypeId × Value → H) :
    ReturnsInHanded {} Tryd.checked os 5 .any (fun w args => (Rows.superGreaterSpec.pre enc Tryd.prog Tryd.f5 [] false w args ∧ laidMetH Tryd.prog laidHere w) ∧ sizedMet enc Tryd.prog Tryd.f5 (OpenSpec.ofChange Rows.superGreaterSpec) false w args) (Rows.superGreaterSpec.post enc Tryd.prog Tryd.f5 false true false false) := by
  refine returnsInHanded_of_change_and (C := Tryd.checked) (X := fun w _ => laidMetH Tryd.prog laidHere w) (fun _ _ _ hh h => h.of_heap hh) own started (by kernel_rfl) Tryd.func5
    (ChangeSpec.witness_shaped (enc := enc) (C := Tryd.checked) (os := os) (X := fun w _ => laidMetH Tryd.prog laidHere w) false (World.doorLaid Tryd.prog doorSteps os) #[.slice none 0 0, .int .u16 0] 8 rfl (World.shaped_of_RefB (by kernel_rfl) (by kernel_rfl)) (by kernel_rfl) (by kernel_rfl) (by kernel_rfl) (door_met os _)) ?_
  intro W base args ds gs before hval0 hW _ _ hL _
  have hval : ∀ (j : Nat) t v, Tryd.f5.params[j]? = some t → args[j]? = some v → Value.okWide Tryd.prog W .any base t v := hval0
  have hfin := fun W' => law_post (enc := enc) (P := Tryd.prog) (f := Tryd.f5) (s := Rows.superGreaterSpec) (tb := 4) (W := W) (W' := W') (args := args) (ds := ds) (gs := gs) (before := before) laidOut rfl (by kernel_rfl) Tryd.underlying4 (by kernel_rfl) (fun xs h => by rw [Tryd.params5] at h; match xs, h with | [_, _], _ => rfl) hW
  have hlt : ∀ x ∈ before, x.block < W.heap.size := fun x hx => hW.lt x hx
  obtain ⟨p, q, hA0, hV, rfl, hfz, hnd⟩ := hW
  have hA : DataW.TrodAll enc Tryd.prog W 0 (fun _ => true) true Tryd.f5.params.toList args.toList ds p := hA0
  rw [Tryd.params5] at hA hval
  obtain ⟨v0, vs0, d0, ds0, p0, q0, hargs, rfl, rfl, h0, r0⟩ := trodAll_cons hA
  obtain ⟨v1, vs1, d1, ds1, p1, q1, rfl, rfl, rfl, h1, r1⟩ := trodAll_cons r0
  obtain ⟨rfl, rfl, rfl⟩ := trodAll_nil r1
  obtain rfl : args = #[v0, v1] := by cases args; simp_all
  obtain ⟨A0, cap0, l0, rfl, hl0, hm0, hB0, hQ0⟩ := open_tables (hval 0 47 v0 rfl rfl) h0 (fun x hx => hlt x (by simp [hx]))
  obtain ⟨a1, rfl, rfl, rfl, w1⟩ := open_int Tryd.underlying48 (hval 1 48 v1 rfl rfl) h1
  refine (walk W (of_laid hL) A0 cap0 l0 hl0 hm0 hB0 hQ0 a1 (bounds_u16 w1)).mono fun e W' ⟨he, hg⟩ => ?_
  subst he
  exact ⟨_, rfl, hfin W' hg⟩

theorem proved : Rows.SuperGreaterSaid :=
  OpenClaim.holds_of_wide 5 Tryd.f5 rfl rfl rfl rfl rfl rfl rfl ⟨rfl, rfl, rfl, rfl, rfl⟩ rfl rfl rfl rfl rfl (by kernel_rfl) Tryd.func5 (by kernel_rfl)
    (of_decide_eq_true (by kernel_rfl)) (by unfold Func.isWrapper; first | (rw [if_pos (by decide +kernel)]; kernel_rfl) | (rw [if_neg (by decide +kernel)]; exact ⟨rfl, rfl⟩))
    (fun os started H enc _ => lifted os started H enc)

set_option maxRecDepth 100000 in
theorem card : Rows.SuperGreaterCardSaid :=
  Claim7.holds_tied_plain_at .later [] laidKindsHere true _ false
    proved (fun _ h => by cases h) (by kernel_rfl) (fun _ h => by cases h) superGreater_row_tie rfl ⟨rfl, rfl⟩ (by kernel_rfl) rfl
    (fun f fn hf hfn => by
      obtain rfl : f = 5 := Option.some.inj ((show Tryd.prog.funcNamed "turntable/turntablelaw10.SuperGreater" = some 5 by kernel_rfl).symm.trans hf) |>.symm
      obtain rfl : fn = Tryd.f5 := (Option.some.inj (Tryd.func5.symm.trans hfn)).symm
      exact ⟨by kernel_rfl, fun j t ht => by
        rw [Tryd.params5] at ht
        have hm : t ∈ [47, 48] := Array.mem_def.1 (Array.mem_of_getElem? ht)
        have hall : ([47, 48].all fun u => !Tryd.prog.wantsStandIn u) = true := by kernel_rfl
        exact (show Tryd.prog.wantsStandIn t = false by simpa using List.all_eq_true.1 hall t hm)⟩)
    (by kernel_rfl)
#print axioms card
end Go.Proofs.YtehnhjnkbclnlaaDoor.superGreater
