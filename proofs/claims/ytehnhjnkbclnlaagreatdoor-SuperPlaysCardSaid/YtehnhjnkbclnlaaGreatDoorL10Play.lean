/-
  P10.1, SuperPlays: for all rows of Saves and calls, on devices of any size, the law returns true: tables that are saved are loaded as the document says; so are what is loose, and done. No condition but that the program's table starts as its text lays it.
-/
import Derived.Test.YtehnhjnkbclnlaaGreatDoorHd10
import Derived.Test.YtehnhjnkbclnlaaGreatDoorSuA
import Derived.Test.YtehnhjnkbclnlaaGreatDoorOpU
import Derived.Test.YtehnhjnkbclnlaaGreatDoorRf10
import Derived.Test.YtehnhjnkbclnlaaGreatDoorRfB
import Derived.Test.YtehnhjnkbclnlaaGreatDoorRfN
import Derived.Test.YtehnhjnkbclnlaaGreatDoorLaid2
namespace Go.Proofs.YtehnhjnkbclnlaaGreatDoor.superPlays
open Go.ChangeShapes Go.WideShapes Go.ChangeAt Go.RowKit
set_option maxRecDepth 100000

structure Args (w : World) (B : Nat) (A : Option Addr) (l : List Oz) : Prop where
  rows : Low w B A (flatZ l)
  t : ∀ x ∈ l, Low w B x.t.A (flatX x.t.xs)
  b : ∀ x ∈ l, Low w B x.d.bA (cells x.d.b)
  k : ∀ x ∈ l, Low w B x.d.kA (bools x.d.keep)
  h : ∀ x ∈ l, Low w B x.d.hA (flatH x.d.hurt)
theorem Args.on {w w' : World} {B : Nat} {A : Option Addr} {l : List Oz} {S : List Nat} (h : Args w B A l) (k : Kept S w w') (hS : ∀ s ∈ S, B ≤ s) : Args w' B A l :=
  ⟨h.rows.on k hS, fun x hx => (h.t x hx).on k hS, fun x hx => (h.b x hx).on k hS, fun x hx => (h.k x hx).on k hS, fun x hx => (h.h x hx).on k hS⟩
theorem Args.below {w w' : World} {B : Nat} {A : Option Addr} {l : List Oz} (h : Args w B A l) (k : Below w.heap.size w w') : Args w' B A l :=
  ⟨h.rows.below k, fun x hx => (h.t x hx).below k, fun x hx => (h.b x hx).below k, fun x hx => (h.k x hx).below k, fun x hx => (h.h x hx).below k⟩
set_option maxHeartbeats 16000000 in
theorem walkN (S : SuperOk) (w : World) (hT : Tab w) (sec : Int) (A : Option Addr) (cap n : Nat) (l : List Oz) (hn : l.length = n) (hnm : n ≤ maxLen) (hA : Lies w A (flatZ l)) (hl : ∀ u ∈ l, OzIn w u) (gen : Int) (hg1 : -9223372036854775808 ≤ gen) (hg2 : gen ≤ 9223372036854775807) :
    Calls Tryz.prog 3 #[.int .i64 sec, .slice A n cap, .int .i64 gen] w fun e w' => e = .returned (.bool true) ∧ Below w.heap.size w w' := by
  have HT := Lib.hid hT
  have HA := Lib.hid hA
  have HL := Lib.hid hl
  have HN := Lib.hid hn
  have HGS := Lib.hid (fun (W : World) => S.slot gen W hg1 hg2)
  have HML := Lib.hid hnm
  clear hT hA hl hn hnm hg1 hg2
  go_enter Tryz.func3, Tryz.ntmps3
  go_wp2_with fail
  refine (head10_any S w HT.out).mono ?_
  rintro e w1 ⟨rfl, b1⟩
  have HT1 := Lib.hid (HT.out.below b1 (Nat.le_refl _))
  have HA1 := Lib.hid (HA.out.below b1)
  have B1 := Lib.hid b1
  clear b1
  by_cases h40 : 40 < sec
  · have hd : decide ((40 : Int) < sec) = true := by simp; omega
    clear h40
    go_wp2
    go_ret
    exact ⟨rfl, B1.out⟩
  have hd : decide ((40 : Int) < sec) = false := by simp; omega
  go_wp2_with fail
  refine (great10_any A n cap l w1 HN.out HML.out HA1.out).mono ?_
  rintro e w2 ⟨r, rfl, hr, b2⟩
  have HT2 := Lib.hid (HT1.out.below b2 (Nat.le_refl _))
  have B2 := Lib.hid (B1.out.trans (b2.mono B1.out.size))
  clear b2
  rcases r with _ | _
  rotate_left
  · go_wp2
    go_ret
    exact ⟨rfl, B2.out⟩
  have HNM := Lib.hid (hr (by trivial))
  clear hr
  by_cases hs1 : sec < 1
  · have HNo := Lib.hid (newDev_no sec w2 (.inl hs1))
    have HRo := Lib.hid (rnew_no sec w2 (.inl hs1))
    clear hs1 h40 hd
    go_wp2_with fail
    refine HNo.out.mono ?_
    rintro e w3 ⟨rfl, rfl⟩
    go_wp2_with fail
    refine HRo.out.mono ?_
    rintro e w4 ⟨rfl, rfl⟩
    go_wp2
    go_ret
    exact ⟨rfl, B2.out⟩
  obtain ⟨N, rfl⟩ := Int.eq_ofNat_of_zero_le (show 0 ≤ sec by omega)
  have hN1 : 1 ≤ N := by omega
  have hN40 : N ≤ 40 := by omega
  clear hs1 h40 hd
  go_wp2_with fail
  refine (fr_new N w2 hN1 (by omega) HT2.out).mono ?_
  rintro e w3 ⟨rfl, f3, b3⟩
  have F3 := Lib.hid f3
  have HQL := Lib.hid (show w.heap.size ≤ w2.heap.size from B2.out.size)
  have B3 := Lib.hid (B2.out.trans (b3.mono B2.out.size))
  clear f3 b3
  generalize w2.heap.size = q at *
  go_wp2_with fail
  refine Calls.mono (rnew_yes N w3 hN1 (by omega)) ?_
  rintro e w4 ⟨bk, bw, bl, rg, rfl, r4, b4, hbk, hbw, hbl, hrg⟩
  have hq3 := F3.out.dev.lt
  have F4 := Lib.hid (F3.out.below b4)
  have R4 := Lib.hid r4
  have B4 := Lib.hid (B3.out.trans (b4.mono B3.out.size))
  have AR4 := Lib.hid (show Args w4 w.heap.size A l from ⟨Low.of HA.out B4.out, fun x hx => Low.of (HL.out x hx).t.lies B4.out, fun x hx => Low.of (HL.out x hx).d.b B4.out, fun x hx => Low.of (HL.out x hx).d.keep B4.out, fun x hx => Low.of (HL.out x hx).d.hurt B4.out⟩)
  have HRQ := Lib.hid (show ∀ s ∈ [bk, bw, bl, rg], q + 2 < s from fun s hs => by simp at hs; omega)
  have HRW := Lib.hid (show ∀ s ∈ [bk, bw, bl, rg], w.heap.size ≤ s from fun s hs => by have := HRQ.out s hs; have := HQL.out; omega)
  have HQW := Lib.hid (show ∀ s ∈ [q, q + 1, q + 2], w.heap.size ≤ s from fun s hs => by have := HQL.out; simp at hs; omega)
  have HBQ := Lib.hid (show bk ∉ [q, q + 1, q + 2] ∧ bw ∉ [q, q + 1, q + 2] ∧ bl ∉ [q, q + 1, q + 2] ∧ rg ∉ [q, q + 1, q + 2] by simp; omega)
  clear r4 b4 hq3 hbk hbw hbl hrg B1 B2 B3 F3 HT HT1 HT2 HA HA1
  go_wp2_with fail
  go_loopw [10] (fun vi wr => ∃ (i : Nat) (d : Plain.Dv), vi = .int .i64 i ∧ i ≤ n ∧ Fr wr q d ∧ IsRef wr bk bw bl rg d ∧ d.done ≤ 3 * i ∧ Args wr w.heap.size A l ∧ Below w.heap.size w wr) (fun vi _ => n - (intOf vi).toNat)
  case atStart => exact ⟨0, Plain.Dv.new N, rfl, by omega, F4.out, R4.out, by show (0 : Nat) ≤ _; omega, AR4.out, B4.out⟩
  case round =>
    obtain ⟨i, d, rfl, hi, hfr, hrr, hdn, har, hbr⟩ := hrel
    have FR := Lib.hid hfr
    have RR := Lib.hid hrr
    have AR := Lib.hid har
    have BR := Lib.hid hbr
    clear hfr hrr har hbr F4 R4 B4 AR4
    by_cases hin : i < n
    · have hil : i < l.length := by rw [HN.out]; exact hin
      have HIN := Lib.hid (show i + 1 ≤ n by omega)
      have hd9 : d.done < 4611686018427386000 := by have := HNM.out; omega
      obtain ⟨ad, rfl, hcc⟩ := at_oz AR.out.rows.lies i hil
      have hmem := List.getElem_mem hil
      have hin' := HL.out _ hmem
      have lt := AR.out.t _ hmem
      have lb := AR.out.b _ hmem
      have lk := AR.out.k _ hmem
      have lh := AR.out.h _ hmem
      clear hmem
      generalize l[i] = e at *
      obtain ⟨ew, ⟨tg, tp, tA, tc, ts⟩, ⟨yw, ya, yc, bA, bc, bs, kA, kc, ks, hA, hc, hs⟩⟩ := e
      obtain ⟨it, id⟩ := hin'
      obtain ⟨it1, -, -⟩ := it
      obtain ⟨iy0, iy1, -, -, -, ikk, ikm, -, ihk, ihm, -, ibits⟩ := id
      have hkl := hin
      simp only at lt lb lk lh it1 iy0 iy1 ikk ikm ihk ihm ibits
      obtain ⟨tn, htn⟩ : ∃ n, ts.length = n := ⟨_, rfl⟩
      obtain ⟨bn, hbn⟩ : ∃ n, bs.length = n := ⟨_, rfl⟩
      obtain ⟨kn, hkn⟩ : ∃ n, ks.length = n := ⟨_, rfl⟩
      obtain ⟨hn, hhn⟩ : ∃ n, hs.length = n := ⟨_, rfl⟩
      have x0 : wr.cell? (ad.add (i * 10)) = some (.int .i64 ew) := hcc 0 _ rfl
      have x1 : wr.cell? ⟨(ad.add (i * 10)).block, (ad.add (i * 10)).off + 1, none⟩ = some (.int .i64 tg) := hcc 1 _ rfl
      have x2 : wr.cell? ⟨(ad.add (i * 10)).block, (ad.add (i * 10)).off + 2, none⟩ = some (.int .i64 tp) := hcc 2 _ rfl
      have x3 : wr.cell? ⟨(ad.add (i * 10)).block, (ad.add (i * 10)).off + 3, none⟩ = some (.slice tA tn tc) := htn ▸ hcc 3 _ rfl
      have x4 : wr.cell? ⟨(ad.add (i * 10)).block, (ad.add (i * 10)).off + 4, none⟩ = some (.int .i64 yw) := hcc 4 _ rfl
      have x5 : wr.cell? ⟨(ad.add (i * 10)).block, (ad.add (i * 10)).off + 5, none⟩ = some (.int .i64 ya) := hcc 5 _ rfl
      have x6 : wr.cell? ⟨(ad.add (i * 10)).block, (ad.add (i * 10)).off + 6, none⟩ = some (.int .u8 (yc.toNat : Int)) := hcc 6 _ rfl
      have x7 : wr.cell? ⟨(ad.add (i * 10)).block, (ad.add (i * 10)).off + 7, none⟩ = some (.slice bA bn bc) := hbn ▸ hcc 7 _ rfl
      have x8 : wr.cell? ⟨(ad.add (i * 10)).block, (ad.add (i * 10)).off + 8, none⟩ = some (.slice kA kn kc) := hkn ▸ hcc 8 _ rfl
      have x9 : wr.cell? ⟨(ad.add (i * 10)).block, (ad.add (i * 10)).off + 9, none⟩ = some (.slice hA hn hc) := hhn ▸ hcc 9 _ rfl
      have HTN := Lib.hid htn
      have HBN := Lib.hid hbn
      have HKN := Lib.hid hkn
      have HHN := Lib.hid hhn
      rw [htn] at it1
      rw [hkn] at ikk
      rw [hhn] at ihk
      have HIK := Lib.hid (show kn ≤ maxLen from Nat.le_trans ikk ikm)
      have HIH := Lib.hid (show hn ≤ maxLen from Nat.le_trans ihk ihm)
      have LT := Lib.hid lt
      have LB := Lib.hid lb
      have LK := Lib.hid lk
      have LH := Lib.hid lh
      have HIB := Lib.hid ibits
      have HYA := Lib.hid iy1
      have ba : Below wr.heap.size wr (wr.alloc (.cells #[.int .i64 ew, .int .i64 tg, .int .i64 tp, .slice tA tn tc, .int .i64 yw, .int .i64 ya, .int .u8 (yc.toNat : Int), .slice bA bn bc, .slice kA kn kc, .slice hA hn hc] 38)) := (Below.refl _ _).alloc (Nat.le_refl _) _
      have xb := Blk.new wr #[.int .i64 ew, .int .i64 tg, .int .i64 tp, .slice tA tn tc, .int .i64 yw, .int .i64 ya, .int .u8 (yc.toNat : Int), .slice bA bn bc, .slice kA kn kc, .slice hA hn hc] 38
      have XB := Lib.hid xb
      have FB := Lib.hid (FR.out.below ba)
      have RB := Lib.hid (RR.out.below ba)
      have AB := Lib.hid (AR.out.below ba)
      have BB := Lib.hid (BR.out.trans (ba.mono BR.out.size))
      have LT := Lib.hid (LT.out.below ba)
      have LB := Lib.hid (LB.out.below ba)
      have LK := Lib.hid (LK.out.below ba)
      have LH := Lib.hid (LH.out.below ba)
      have HPB := Lib.hid (show wr.heap.size ∉ [q, q + 1, q + 2] by have := FR.out.dev.lt; simp; omega)
      have y0 : (wr.alloc (.cells #[.int .i64 ew, .int .i64 tg, .int .i64 tp, .slice tA tn tc, .int .i64 yw, .int .i64 ya, .int .u8 (yc.toNat : Int), .slice bA bn bc, .slice kA kn kc, .slice hA hn hc] 38)).cell? ⟨wr.heap.size, 0, none⟩ = some (.int .i64 ew) := xb.cell 0
      clear hcc htn hbn hkn hhn lt lb lk lh ibits iy0 iy1 ikk ihk ikm ihm ba xb FR RR AR BR hkl
      by_cases hw2 : ew < 2
      · have hd : decide (ew < 2) = true := by simp; omega
        clear hw2
        go_wp2_with fail
        clear x0 x1 x2 x3 x4 x5 x6 x7 x8 x9 y0
        generalize wr.alloc (.cells #[.int .i64 ew, .int .i64 tg, .int .i64 tp, .slice tA tn tc, .int .i64 yw, .int .i64 ya, .int .u8 (yc.toNat : Int), .slice bA bn bc, .slice kA kn kc, .slice hA hn hc] 38) = wa at *
        generalize wr.heap.size = pb at *
        refine (S.save q d tg tp tA tc tn ts wa HTN.out it1 (LT.out.far HQL.out) hd9 FB.out).mono ?_
        rintro e w2 ⟨rfl, f2, k2⟩
        have F2 := Lib.hid f2
        have R2 := Lib.hid (RB.out.keep k2 HBQ.out.1 HBQ.out.2.1 HBQ.out.2.2.1 HBQ.out.2.2.2)
        have A2 := Lib.hid (AB.out.on k2 HQW.out)
        have T2 := Lib.hid (LT.out.on k2 HQW.out)
        have X2 := k2.blk XB.out HPB.out
        have B2 := Lib.hid (Kept.below BB.out k2 HQW.out)
        have y1 : w2.cell? ⟨pb, 1, none⟩ = some (.int .i64 tg) := X2.cell 1
        have y2 : w2.cell? ⟨pb, 2, none⟩ = some (.int .i64 tp) := X2.cell 2
        have y3 : w2.cell? ⟨pb, 3, none⟩ = some (.slice tA tn tc) := X2.cell 3
        clear f2 k2 X2
        go_wp2_with fail
        refine (rsave_any w2 bk bw bl rg d tg tp tA tc tn ts HTN.out T2.out.lies (T2.out.offS HRW.out) (by omega) R2.out).mono ?_
        rintro e w3 ⟨rfl, r3, k3⟩
        have hdn2 := Su.save_done d ⟨tg, tp, ts⟩
        have FW := Lib.hid (F2.out.apart k3 HRQ.out)
        have RW := Lib.hid r3
        have AW := Lib.hid (A2.out.on k3 HRW.out)
        have BW := Lib.hid (Kept.below B2.out k3 HRW.out)
        have HDN := Lib.hid (show (Su.save d ⟨tg, tp, ts⟩).1.done ≤ 3 * (i + 1) by omega)
        clear r3 k3 y1 y2 y3 F2 R2 A2 T2 B2 hdn2 FB RB AB BB XB LT LB LK LH
        generalize (Su.save d ⟨tg, tp, ts⟩).2 = E1 at *
        generalize (Su.save d ⟨tg, tp, ts⟩).1 = D at *
        have HFEW := Lib.hid (load_few D)
        obtain ⟨⟨xg, xo, xx⟩, fb, fe, hL⟩ : ∃ t b e, Su.load D = (t, b, e) := ⟨_, _, _, rfl⟩
        obtain ⟨xn, hxn⟩ : ∃ xn, xx.length = xn := ⟨_, rfl⟩
        rw [hL] at HFEW
        have HF8 := Lib.hid (show xn ≤ 8 by have := HFEW.out; simp only at this; omega)
        have HXN := Lib.hid hxn
        have HRL := Lib.hid (fun (W : World) (hR : IsRef W bk bw bl rg D) => rload_any W bk bw bl rg D hR)
        unfold GivesQ10 at HRL
        rw [hL] at HRL
        have HSL := Lib.hid (S.load q D xg xo xx xn fb fe w3 FW.out hL hxn)
        clear hL hxn HFEW
        go_wp2_with fail
        refine HSL.out.mono ?_
        rintro e w4 ⟨AX, cx, rfl, -, hx, -, b4⟩
        have ba : Below w4.heap.size w4 (w4.alloc (.cells #[.int .i64 xg, .int .i64 xo, .slice AX xn cx] 31)) := (Below.refl _ _).alloc (Nat.le_refl _) _
        have bb := b4.trans (ba.mono b4.size)
        have F5 := Lib.hid (FW.out.below bb)
        have R5 := Lib.hid (RW.out.below bb)
        have A5 := Lib.hid (AW.out.below bb)
        have B5 := Lib.hid (BW.out.trans (bb.mono BW.out.size))
        have X5 := Lib.hid (Blk.new w4 #[.int .i64 xg, .int .i64 xo, .slice AX xn cx] 31)
        have L5 := Lib.hid (hx.below ba)
        clear ba bb b4 hx FW RW AW BW HSL
        go_wp2_with fail
        generalize w4.alloc (.cells #[.int .i64 xg, .int .i64 xo, .slice AX xn cx] 31) = w5 at *
        generalize w4.heap.size = p4 at *
        refine (HRL.out w5 R5.out).mono ?_
        rintro e w6 ⟨AY, m6, c6, rfl, hm6, -, hy, b6⟩
        obtain rfl : xn = m6 := by rw [← HXN.out]; exact hm6
        have ba : Below w6.heap.size w6 (w6.alloc (.cells #[.int .i64 xg, .int .i64 xo, .slice AY xn c6] 31)) := (Below.refl _ _).alloc (Nat.le_refl _) _
        have bb := b6.trans (ba.mono b6.size)
        have F7 := Lib.hid (F5.out.below bb)
        have R7 := Lib.hid (R5.out.below bb)
        have A7 := Lib.hid (A5.out.below bb)
        have B7 := Lib.hid (B5.out.trans (bb.mono B5.out.size))
        have X7 := Lib.hid (X5.out.below bb (Nat.le_refl _))
        have L7 := Lib.hid (L5.out.below bb)
        have Y7 := Lib.hid (Blk.new w6 #[.int .i64 xg, .int .i64 xo, .slice AY xn c6] 31)
        have M7 := Lib.hid (hy.below ba)
        clear ba bb b6 hy hm6 F5 R5 A5 B5 X5 L5 HRL
        obtain ⟨z0, z1, z2⟩ := X7.out.three
        obtain ⟨v0, v1, v2⟩ := Y7.out.three
        go_wp2_with fail
        generalize w6.alloc (.cells #[.int .i64 xg, .int .i64 xo, .slice AY xn c6] 31) = w7 at *
        refine (rsame_is xg xo AX cx xn xx xg xo AY c6 xn xx w7 true HXN.out HXN.out (by have := HF8.out; omega) L7.out M7.out (decide_eq_true rfl)).mono ?_
        rintro e w8 ⟨rfl, b8⟩
        have F8 := Lib.hid (F7.out.below b8)
        have R8 := Lib.hid (R7.out.below b8)
        have A8 := Lib.hid (A7.out.below b8)
        have B8 := Lib.hid (B7.out.trans (b8.mono B7.out.size))
        clear b8 z0 z1 z2 v0 v1 v2 F7 R7 A7 B7 X7 L7 Y7 M7
        go_wp2_with fail
        refine (done_any w8 q D F8.out.dev).mono ?_
        rintro e w9 ⟨rfl, rfl⟩
        go_wp2_with fail
        refine (rdone_any R8.out).mono ?_
        rintro e w9 ⟨rfl, rfl⟩
        go_wp2_with fail
        refine (loose_any w8 q D F8.out.dev).mono ?_
        rintro e y1 ⟨v, rfl, hown1, hb1⟩
        obtain ⟨A1, cp1, rfl, -, -, -, hL1⟩ := own_form hown1
        have F9 := Lib.hid (F8.out.below hb1)
        have R9 := Lib.hid (R8.out.below hb1)
        have A9 := Lib.hid (A8.out.below hb1)
        have B9 := Lib.hid (B8.out.trans (hb1.mono B8.out.size))
        have HA1 := Lib.hid hL1
        clear hown1 hb1 hL1 F8 R8 A8 B8
        go_wp2_with fail
        refine (rloose_any y1 bk bw bl rg D R9.out).mono ?_
        rintro e y2 ⟨v, rfl, hown1, hb1⟩
        obtain ⟨A2, cp2, rfl, -, -, -, hL1⟩ := own_form hown1
        have F10 := Lib.hid (F9.out.below hb1)
        have R10 := Lib.hid (R9.out.below hb1)
        have A10 := Lib.hid (A9.out.below hb1)
        have B10 := Lib.hid (B9.out.trans (hb1.mono B9.out.size))
        have hll := D.loose_len
        have hln := F9.out.dev.ok.few
        have HSM := Lib.hid (sameInts_any A1 A2 D.loose.length D.loose.length cp1 cp2 D.loose D.loose true (decide_eq_true rfl) y2 rfl rfl (by omega) (by omega) (HA1.out.below hb1) hL1)
        clear hown1 hb1 hL1 hll hln F9 R9 A9 B9 HA1
        go_wp2_with fail
        refine HSM.out.mono ?_
        rintro e y3 ⟨rfl, hb1⟩
        have F11 := Lib.hid (F10.out.below hb1)
        have R11 := Lib.hid (R10.out.below hb1)
        have A11 := Lib.hid (A10.out.below hb1)
        have B11 := Lib.hid (B10.out.trans (hb1.mono B10.out.size))
        clear hb1 HSM F10 R10 A10 B10
        have hn100 := HNM.out
        go_wp2
        go_roundw
        case rel => exact ⟨i + 1, D, by go_num, HIN.out, F11.out, R11.out, HDN.out, A11.out, B11.out⟩
        case measure => have := HIN.out; first | omega | (simp [intOf]; omega)
      have hd : decide (ew < 2) = false := by simp; omega
      have y4 : (wr.alloc (.cells #[.int .i64 ew, .int .i64 tg, .int .i64 tp, .slice tA tn tc, .int .i64 yw, .int .i64 ya, .int .u8 (yc.toNat : Int), .slice bA bn bc, .slice kA kn kc, .slice hA hn hc] 38)).cell? ⟨wr.heap.size, 4, none⟩ = some (.int .i64 yw) := XB.out.cell 4
      clear hw2
      by_cases h6 : yw = 6
      · have hb6 : (yw == 6) = true := by simp [h6]
        clear h6
        go_wp2_with fail
        clear x0 x1 x2 x3 x4 x5 x6 x7 x8 x9 y0 y4
        generalize wr.alloc (.cells #[.int .i64 ew, .int .i64 tg, .int .i64 tp, .slice tA tn tc, .int .i64 yw, .int .i64 ya, .int .u8 (yc.toNat : Int), .slice bA bn bc, .slice kA kn kc, .slice hA hn hc] 38) = wa at *
        generalize wr.heap.size = pb at *
        refine (fr_cut q d ya wa HYA.out FB.out).mono ?_
        rintro e w2 ⟨rfl, f2, k2⟩
        have F2 := Lib.hid f2
        have R2 := Lib.hid (RB.out.keep k2 HBQ.out.1 HBQ.out.2.1 HBQ.out.2.2.1 HBQ.out.2.2.2)
        have A2 := Lib.hid (AB.out.on k2 HQW.out)
        have X2 := k2.blk XB.out HPB.out
        have B2 := Lib.hid (Kept.below BB.out k2 HQW.out)
        have y5 : w2.cell? ⟨pb, 5, none⟩ = some (.int .i64 ya) := X2.cell 5
        clear f2 k2 X2
        go_wp2_with fail
        refine (rcut_any (w := w2) (d := d) ya HYA.out R2.out).mono ?_
        rintro e w3 ⟨rfl, r3, k3⟩
        have k3 := k3.mono (S' := [bk, bw, bl, rg]) (by simp)
        have hdn2 : (d.cutAt ya).done = d.done := by unfold Plain.Dv.cutAt; split <;> rfl
        have HDN := Lib.hid (show (d.cutAt ya).done ≤ 3 * (i + 1) by omega)
        have FW := Lib.hid (F2.out.apart k3 HRQ.out)
        have RW := Lib.hid r3
        have AW := Lib.hid (A2.out.on k3 HRW.out)
        have BW := Lib.hid (Kept.below B2.out k3 HRW.out)
        clear r3 k3 F2 R2 A2 B2 hdn2 FB RB AB BB XB LT LB LK LH
        clear y5
        generalize d.cutAt ya = D at *
        have HFEW := Lib.hid (load_few D)
        obtain ⟨⟨xg, xo, xx⟩, fb, fe, hL⟩ : ∃ t b e, Su.load D = (t, b, e) := ⟨_, _, _, rfl⟩
        obtain ⟨xn, hxn⟩ : ∃ xn, xx.length = xn := ⟨_, rfl⟩
        rw [hL] at HFEW
        have HF8 := Lib.hid (show xn ≤ 8 by have := HFEW.out; simp only at this; omega)
        have HXN := Lib.hid hxn
        have HRL := Lib.hid (fun (W : World) (hR : IsRef W bk bw bl rg D) => rload_any W bk bw bl rg D hR)
        unfold GivesQ10 at HRL
        rw [hL] at HRL
        have HSL := Lib.hid (S.load q D xg xo xx xn fb fe w3 FW.out hL hxn)
        clear hL hxn HFEW
        go_wp2_with fail
        refine HSL.out.mono ?_
        rintro e w4 ⟨AX, cx, rfl, -, hx, -, b4⟩
        have ba : Below w4.heap.size w4 (w4.alloc (.cells #[.int .i64 xg, .int .i64 xo, .slice AX xn cx] 31)) := (Below.refl _ _).alloc (Nat.le_refl _) _
        have bb := b4.trans (ba.mono b4.size)
        have F5 := Lib.hid (FW.out.below bb)
        have R5 := Lib.hid (RW.out.below bb)
        have A5 := Lib.hid (AW.out.below bb)
        have B5 := Lib.hid (BW.out.trans (bb.mono BW.out.size))
        have X5 := Lib.hid (Blk.new w4 #[.int .i64 xg, .int .i64 xo, .slice AX xn cx] 31)
        have L5 := Lib.hid (hx.below ba)
        clear ba bb b4 hx FW RW AW BW HSL
        go_wp2_with fail
        generalize w4.alloc (.cells #[.int .i64 xg, .int .i64 xo, .slice AX xn cx] 31) = w5 at *
        generalize w4.heap.size = p4 at *
        refine (HRL.out w5 R5.out).mono ?_
        rintro e w6 ⟨AY, m6, c6, rfl, hm6, -, hy, b6⟩
        obtain rfl : xn = m6 := by rw [← HXN.out]; exact hm6
        have ba : Below w6.heap.size w6 (w6.alloc (.cells #[.int .i64 xg, .int .i64 xo, .slice AY xn c6] 31)) := (Below.refl _ _).alloc (Nat.le_refl _) _
        have bb := b6.trans (ba.mono b6.size)
        have F7 := Lib.hid (F5.out.below bb)
        have R7 := Lib.hid (R5.out.below bb)
        have A7 := Lib.hid (A5.out.below bb)
        have B7 := Lib.hid (B5.out.trans (bb.mono B5.out.size))
        have X7 := Lib.hid (X5.out.below bb (Nat.le_refl _))
        have L7 := Lib.hid (L5.out.below bb)
        have Y7 := Lib.hid (Blk.new w6 #[.int .i64 xg, .int .i64 xo, .slice AY xn c6] 31)
        have M7 := Lib.hid (hy.below ba)
        clear ba bb b6 hy hm6 F5 R5 A5 B5 X5 L5 HRL
        obtain ⟨z0, z1, z2⟩ := X7.out.three
        obtain ⟨v0, v1, v2⟩ := Y7.out.three
        go_wp2_with fail
        generalize w6.alloc (.cells #[.int .i64 xg, .int .i64 xo, .slice AY xn c6] 31) = w7 at *
        refine (rsame_is xg xo AX cx xn xx xg xo AY c6 xn xx w7 true HXN.out HXN.out (by have := HF8.out; omega) L7.out M7.out (decide_eq_true rfl)).mono ?_
        rintro e w8 ⟨rfl, b8⟩
        have F8 := Lib.hid (F7.out.below b8)
        have R8 := Lib.hid (R7.out.below b8)
        have A8 := Lib.hid (A7.out.below b8)
        have B8 := Lib.hid (B7.out.trans (b8.mono B7.out.size))
        clear b8 z0 z1 z2 v0 v1 v2 F7 R7 A7 B7 X7 L7 Y7 M7
        go_wp2_with fail
        refine (done_any w8 q D F8.out.dev).mono ?_
        rintro e w9 ⟨rfl, rfl⟩
        go_wp2_with fail
        refine (rdone_any R8.out).mono ?_
        rintro e w9 ⟨rfl, rfl⟩
        go_wp2_with fail
        refine (loose_any w8 q D F8.out.dev).mono ?_
        rintro e y1 ⟨v, rfl, hown1, hb1⟩
        obtain ⟨A1, cp1, rfl, -, -, -, hL1⟩ := own_form hown1
        have F9 := Lib.hid (F8.out.below hb1)
        have R9 := Lib.hid (R8.out.below hb1)
        have A9 := Lib.hid (A8.out.below hb1)
        have B9 := Lib.hid (B8.out.trans (hb1.mono B8.out.size))
        have HA1 := Lib.hid hL1
        clear hown1 hb1 hL1 F8 R8 A8 B8
        go_wp2_with fail
        refine (rloose_any y1 bk bw bl rg D R9.out).mono ?_
        rintro e y2 ⟨v, rfl, hown1, hb1⟩
        obtain ⟨A2, cp2, rfl, -, -, -, hL1⟩ := own_form hown1
        have F10 := Lib.hid (F9.out.below hb1)
        have R10 := Lib.hid (R9.out.below hb1)
        have A10 := Lib.hid (A9.out.below hb1)
        have B10 := Lib.hid (B9.out.trans (hb1.mono B9.out.size))
        have hll := D.loose_len
        have hln := F9.out.dev.ok.few
        have HSM := Lib.hid (sameInts_any A1 A2 D.loose.length D.loose.length cp1 cp2 D.loose D.loose true (decide_eq_true rfl) y2 rfl rfl (by omega) (by omega) (HA1.out.below hb1) hL1)
        clear hown1 hb1 hL1 hll hln F9 R9 A9 B9 HA1
        go_wp2_with fail
        refine HSM.out.mono ?_
        rintro e y3 ⟨rfl, hb1⟩
        have F11 := Lib.hid (F10.out.below hb1)
        have R11 := Lib.hid (R10.out.below hb1)
        have A11 := Lib.hid (A10.out.below hb1)
        have B11 := Lib.hid (B10.out.trans (hb1.mono B10.out.size))
        clear hb1 HSM F10 R10 A10 B10
        have hn100 := HNM.out
        go_wp2
        go_roundw
        case rel => exact ⟨i + 1, D, by go_num, HIN.out, F11.out, R11.out, HDN.out, A11.out, B11.out⟩
        case measure => have := HIN.out; first | omega | (simp [intOf]; omega)
      have hb6 : (yw == 6) = false := by simp [h6]
      clear h6
      by_cases h7 : yw = 7
      · have hb7 : (yw == 7) = true := by simp [h7]
        clear h7
        go_wp2_with fail
        clear x0 x1 x2 x3 x4 x5 x6 x7 x8 x9 y0 y4
        generalize wr.alloc (.cells #[.int .i64 ew, .int .i64 tg, .int .i64 tp, .slice tA tn tc, .int .i64 yw, .int .i64 ya, .int .u8 (yc.toNat : Int), .slice bA bn bc, .slice kA kn kc, .slice hA hn hc] 38) = wa at *
        generalize wr.heap.size = pb at *
        refine (fr_boot q d ks hs kA hA kn kc hn hc wa HKN.out HHN.out HIK.out HIH.out (LK.out.far HQL.out) (LH.out.far HQL.out) HIB.out FB.out).mono ?_
        rintro e w2 ⟨rfl, f2, k2⟩
        have F2 := Lib.hid f2
        have R2 := Lib.hid (RB.out.keep k2 HBQ.out.1 HBQ.out.2.1 HBQ.out.2.2.1 HBQ.out.2.2.2)
        have A2 := Lib.hid (AB.out.on k2 HQW.out)
        have X2 := k2.blk XB.out HPB.out
        have B2 := Lib.hid (Kept.below BB.out k2 HQW.out)
        have y8 : w2.cell? ⟨pb, 8, none⟩ = some (.slice kA kn kc) := X2.cell 8
        have y9 : w2.cell? ⟨pb, 9, none⟩ = some (.slice hA hn hc) := X2.cell 9
        have K2 := Lib.hid (LK.out.on k2 HQW.out)
        have H2 := Lib.hid (LH.out.on k2 HQW.out)
        clear f2 k2 X2
        go_wp2_with fail
        refine (rboot_any w2 bk bw bl rg d ks hs kA hA kn kc hn hc HKN.out HHN.out HIK.out HIH.out K2.out.lies H2.out.lies (K2.out.offS HRW.out) (H2.out.offS HRW.out) HIB.out R2.out).mono ?_
        rintro e w3 ⟨rfl, r3, k3⟩
        have hdn2 : (d.boot ks hs).done = d.done := rfl
        have HDN := Lib.hid (show (d.boot ks hs).done ≤ 3 * (i + 1) by omega)
        have FW := Lib.hid (F2.out.apart k3 HRQ.out)
        have RW := Lib.hid r3
        have AW := Lib.hid (A2.out.on k3 HRW.out)
        have BW := Lib.hid (Kept.below B2.out k3 HRW.out)
        clear r3 k3 F2 R2 A2 B2 hdn2 FB RB AB BB XB LT LB LK LH
        clear y8 y9 K2 H2
        generalize d.boot ks hs = D at *
        have HFEW := Lib.hid (load_few D)
        obtain ⟨⟨xg, xo, xx⟩, fb, fe, hL⟩ : ∃ t b e, Su.load D = (t, b, e) := ⟨_, _, _, rfl⟩
        obtain ⟨xn, hxn⟩ : ∃ xn, xx.length = xn := ⟨_, rfl⟩
        rw [hL] at HFEW
        have HF8 := Lib.hid (show xn ≤ 8 by have := HFEW.out; simp only at this; omega)
        have HXN := Lib.hid hxn
        have HRL := Lib.hid (fun (W : World) (hR : IsRef W bk bw bl rg D) => rload_any W bk bw bl rg D hR)
        unfold GivesQ10 at HRL
        rw [hL] at HRL
        have HSL := Lib.hid (S.load q D xg xo xx xn fb fe w3 FW.out hL hxn)
        clear hL hxn HFEW
        go_wp2_with fail
        refine HSL.out.mono ?_
        rintro e w4 ⟨AX, cx, rfl, -, hx, -, b4⟩
        have ba : Below w4.heap.size w4 (w4.alloc (.cells #[.int .i64 xg, .int .i64 xo, .slice AX xn cx] 31)) := (Below.refl _ _).alloc (Nat.le_refl _) _
        have bb := b4.trans (ba.mono b4.size)
        have F5 := Lib.hid (FW.out.below bb)
        have R5 := Lib.hid (RW.out.below bb)
        have A5 := Lib.hid (AW.out.below bb)
        have B5 := Lib.hid (BW.out.trans (bb.mono BW.out.size))
        have X5 := Lib.hid (Blk.new w4 #[.int .i64 xg, .int .i64 xo, .slice AX xn cx] 31)
        have L5 := Lib.hid (hx.below ba)
        clear ba bb b4 hx FW RW AW BW HSL
        go_wp2_with fail
        generalize w4.alloc (.cells #[.int .i64 xg, .int .i64 xo, .slice AX xn cx] 31) = w5 at *
        generalize w4.heap.size = p4 at *
        refine (HRL.out w5 R5.out).mono ?_
        rintro e w6 ⟨AY, m6, c6, rfl, hm6, -, hy, b6⟩
        obtain rfl : xn = m6 := by rw [← HXN.out]; exact hm6
        have ba : Below w6.heap.size w6 (w6.alloc (.cells #[.int .i64 xg, .int .i64 xo, .slice AY xn c6] 31)) := (Below.refl _ _).alloc (Nat.le_refl _) _
        have bb := b6.trans (ba.mono b6.size)
        have F7 := Lib.hid (F5.out.below bb)
        have R7 := Lib.hid (R5.out.below bb)
        have A7 := Lib.hid (A5.out.below bb)
        have B7 := Lib.hid (B5.out.trans (bb.mono B5.out.size))
        have X7 := Lib.hid (X5.out.below bb (Nat.le_refl _))
        have L7 := Lib.hid (L5.out.below bb)
        have Y7 := Lib.hid (Blk.new w6 #[.int .i64 xg, .int .i64 xo, .slice AY xn c6] 31)
        have M7 := Lib.hid (hy.below ba)
        clear ba bb b6 hy hm6 F5 R5 A5 B5 X5 L5 HRL
        obtain ⟨z0, z1, z2⟩ := X7.out.three
        obtain ⟨v0, v1, v2⟩ := Y7.out.three
        go_wp2_with fail
        generalize w6.alloc (.cells #[.int .i64 xg, .int .i64 xo, .slice AY xn c6] 31) = w7 at *
        refine (rsame_is xg xo AX cx xn xx xg xo AY c6 xn xx w7 true HXN.out HXN.out (by have := HF8.out; omega) L7.out M7.out (decide_eq_true rfl)).mono ?_
        rintro e w8 ⟨rfl, b8⟩
        have F8 := Lib.hid (F7.out.below b8)
        have R8 := Lib.hid (R7.out.below b8)
        have A8 := Lib.hid (A7.out.below b8)
        have B8 := Lib.hid (B7.out.trans (b8.mono B7.out.size))
        clear b8 z0 z1 z2 v0 v1 v2 F7 R7 A7 B7 X7 L7 Y7 M7
        go_wp2_with fail
        refine (done_any w8 q D F8.out.dev).mono ?_
        rintro e w9 ⟨rfl, rfl⟩
        go_wp2_with fail
        refine (rdone_any R8.out).mono ?_
        rintro e w9 ⟨rfl, rfl⟩
        go_wp2_with fail
        refine (loose_any w8 q D F8.out.dev).mono ?_
        rintro e y1 ⟨v, rfl, hown1, hb1⟩
        obtain ⟨A1, cp1, rfl, -, -, -, hL1⟩ := own_form hown1
        have F9 := Lib.hid (F8.out.below hb1)
        have R9 := Lib.hid (R8.out.below hb1)
        have A9 := Lib.hid (A8.out.below hb1)
        have B9 := Lib.hid (B8.out.trans (hb1.mono B8.out.size))
        have HA1 := Lib.hid hL1
        clear hown1 hb1 hL1 F8 R8 A8 B8
        go_wp2_with fail
        refine (rloose_any y1 bk bw bl rg D R9.out).mono ?_
        rintro e y2 ⟨v, rfl, hown1, hb1⟩
        obtain ⟨A2, cp2, rfl, -, -, -, hL1⟩ := own_form hown1
        have F10 := Lib.hid (F9.out.below hb1)
        have R10 := Lib.hid (R9.out.below hb1)
        have A10 := Lib.hid (A9.out.below hb1)
        have B10 := Lib.hid (B9.out.trans (hb1.mono B9.out.size))
        have hll := D.loose_len
        have hln := F9.out.dev.ok.few
        have HSM := Lib.hid (sameInts_any A1 A2 D.loose.length D.loose.length cp1 cp2 D.loose D.loose true (decide_eq_true rfl) y2 rfl rfl (by omega) (by omega) (HA1.out.below hb1) hL1)
        clear hown1 hb1 hL1 hll hln F9 R9 A9 B9 HA1
        go_wp2_with fail
        refine HSM.out.mono ?_
        rintro e y3 ⟨rfl, hb1⟩
        have F11 := Lib.hid (F10.out.below hb1)
        have R11 := Lib.hid (R10.out.below hb1)
        have A11 := Lib.hid (A10.out.below hb1)
        have B11 := Lib.hid (B10.out.trans (hb1.mono B10.out.size))
        clear hb1 HSM F10 R10 A10 B10
        have hn100 := HNM.out
        go_wp2
        go_roundw
        case rel => exact ⟨i + 1, D, by go_num, HIN.out, F11.out, R11.out, HDN.out, A11.out, B11.out⟩
        case measure => have := HIN.out; first | omega | (simp [intOf]; omega)
      · have hb7 : (yw == 7) = false := by simp [h7]
        clear h7
        go_wp2_with fail
        clear x0 x1 x2 x3 x4 x5 x6 x7 x8 x9 y0 y4
        generalize wr.alloc (.cells #[.int .i64 ew, .int .i64 tg, .int .i64 tp, .slice tA tn tc, .int .i64 yw, .int .i64 ya, .int .u8 (yc.toNat : Int), .slice bA bn bc, .slice kA kn kc, .slice hA hn hc] 38) = wa at *
        generalize wr.heap.size = pb at *
        refine (fr_write q d ya bA bc bn bs wa HBN.out (LB.out.far HQL.out) (by omega) FB.out).mono ?_
        rintro e w2 ⟨rfl, f2, k2⟩
        have F2 := Lib.hid f2
        have R2 := Lib.hid (RB.out.keep k2 HBQ.out.1 HBQ.out.2.1 HBQ.out.2.2.1 HBQ.out.2.2.2)
        have A2 := Lib.hid (AB.out.on k2 HQW.out)
        have X2 := k2.blk XB.out HPB.out
        have B2 := Lib.hid (Kept.below BB.out k2 HQW.out)
        have y5 : w2.cell? ⟨pb, 5, none⟩ = some (.int .i64 ya) := X2.cell 5
        have y7 : w2.cell? ⟨pb, 7, none⟩ = some (.slice bA bn bc) := X2.cell 7
        have K2 := Lib.hid (LB.out.on k2 HQW.out)
        clear f2 k2 X2
        generalize hE1 : (d.write ya bs).2 = E1 at *
        go_wp2_with fail
        refine (rwrite_any w2 bk bw bl rg d ya bA bc bn bs HBN.out K2.out.lies (K2.out.offS (fun s hs => HRW.out s (by simp at hs; simp [hs]))) (by omega) R2.out).mono ?_
        rintro e w3 ⟨rfl, r3, k3⟩
        have k3 := k3.mono (S' := [bk, bw, bl, rg]) (by simp)
        have hdn2 := d.write_done ya bs
        have HDN := Lib.hid (show (d.write ya bs).1.done ≤ 3 * (i + 1) by omega)
        have FW := Lib.hid (F2.out.apart k3 HRQ.out)
        have RW := Lib.hid r3
        have AW := Lib.hid (A2.out.on k3 HRW.out)
        have BW := Lib.hid (Kept.below B2.out k3 HRW.out)
        clear r3 k3 F2 R2 A2 B2 hdn2 FB RB AB BB XB LT LB LK LH
        clear y5 y7 K2 hE1
        generalize (d.write ya bs).2 = E2 at *
        generalize (d.write ya bs).1 = D at *
        have HFEW := Lib.hid (load_few D)
        obtain ⟨⟨xg, xo, xx⟩, fb, fe, hL⟩ : ∃ t b e, Su.load D = (t, b, e) := ⟨_, _, _, rfl⟩
        obtain ⟨xn, hxn⟩ : ∃ xn, xx.length = xn := ⟨_, rfl⟩
        rw [hL] at HFEW
        have HF8 := Lib.hid (show xn ≤ 8 by have := HFEW.out; simp only at this; omega)
        have HXN := Lib.hid hxn
        have HRL := Lib.hid (fun (W : World) (hR : IsRef W bk bw bl rg D) => rload_any W bk bw bl rg D hR)
        unfold GivesQ10 at HRL
        rw [hL] at HRL
        have HSL := Lib.hid (S.load q D xg xo xx xn fb fe w3 FW.out hL hxn)
        clear hL hxn HFEW
        go_wp2_with fail
        refine HSL.out.mono ?_
        rintro e w4 ⟨AX, cx, rfl, -, hx, -, b4⟩
        have ba : Below w4.heap.size w4 (w4.alloc (.cells #[.int .i64 xg, .int .i64 xo, .slice AX xn cx] 31)) := (Below.refl _ _).alloc (Nat.le_refl _) _
        have bb := b4.trans (ba.mono b4.size)
        have F5 := Lib.hid (FW.out.below bb)
        have R5 := Lib.hid (RW.out.below bb)
        have A5 := Lib.hid (AW.out.below bb)
        have B5 := Lib.hid (BW.out.trans (bb.mono BW.out.size))
        have X5 := Lib.hid (Blk.new w4 #[.int .i64 xg, .int .i64 xo, .slice AX xn cx] 31)
        have L5 := Lib.hid (hx.below ba)
        clear ba bb b4 hx FW RW AW BW HSL
        go_wp2_with fail
        generalize w4.alloc (.cells #[.int .i64 xg, .int .i64 xo, .slice AX xn cx] 31) = w5 at *
        generalize w4.heap.size = p4 at *
        refine (HRL.out w5 R5.out).mono ?_
        rintro e w6 ⟨AY, m6, c6, rfl, hm6, -, hy, b6⟩
        obtain rfl : xn = m6 := by rw [← HXN.out]; exact hm6
        have ba : Below w6.heap.size w6 (w6.alloc (.cells #[.int .i64 xg, .int .i64 xo, .slice AY xn c6] 31)) := (Below.refl _ _).alloc (Nat.le_refl _) _
        have bb := b6.trans (ba.mono b6.size)
        have F7 := Lib.hid (F5.out.below bb)
        have R7 := Lib.hid (R5.out.below bb)
        have A7 := Lib.hid (A5.out.below bb)
        have B7 := Lib.hid (B5.out.trans (bb.mono B5.out.size))
        have X7 := Lib.hid (X5.out.below bb (Nat.le_refl _))
        have L7 := Lib.hid (L5.out.below bb)
        have Y7 := Lib.hid (Blk.new w6 #[.int .i64 xg, .int .i64 xo, .slice AY xn c6] 31)
        have M7 := Lib.hid (hy.below ba)
        clear ba bb b6 hy hm6 F5 R5 A5 B5 X5 L5 HRL
        obtain ⟨z0, z1, z2⟩ := X7.out.three
        obtain ⟨v0, v1, v2⟩ := Y7.out.three
        go_wp2_with fail
        generalize w6.alloc (.cells #[.int .i64 xg, .int .i64 xo, .slice AY xn c6] 31) = w7 at *
        refine (rsame_is xg xo AX cx xn xx xg xo AY c6 xn xx w7 true HXN.out HXN.out (by have := HF8.out; omega) L7.out M7.out (decide_eq_true rfl)).mono ?_
        rintro e w8 ⟨rfl, b8⟩
        have F8 := Lib.hid (F7.out.below b8)
        have R8 := Lib.hid (R7.out.below b8)
        have A8 := Lib.hid (A7.out.below b8)
        have B8 := Lib.hid (B7.out.trans (b8.mono B7.out.size))
        clear b8 z0 z1 z2 v0 v1 v2 F7 R7 A7 B7 X7 L7 Y7 M7
        go_wp2_with fail
        refine (done_any w8 q D F8.out.dev).mono ?_
        rintro e w9 ⟨rfl, rfl⟩
        go_wp2_with fail
        refine (rdone_any R8.out).mono ?_
        rintro e w9 ⟨rfl, rfl⟩
        go_wp2_with fail
        refine (loose_any w8 q D F8.out.dev).mono ?_
        rintro e y1 ⟨v, rfl, hown1, hb1⟩
        obtain ⟨A1, cp1, rfl, -, -, -, hL1⟩ := own_form hown1
        have F9 := Lib.hid (F8.out.below hb1)
        have R9 := Lib.hid (R8.out.below hb1)
        have A9 := Lib.hid (A8.out.below hb1)
        have B9 := Lib.hid (B8.out.trans (hb1.mono B8.out.size))
        have HA1 := Lib.hid hL1
        clear hown1 hb1 hL1 F8 R8 A8 B8
        go_wp2_with fail
        refine (rloose_any y1 bk bw bl rg D R9.out).mono ?_
        rintro e y2 ⟨v, rfl, hown1, hb1⟩
        obtain ⟨A2, cp2, rfl, -, -, -, hL1⟩ := own_form hown1
        have F10 := Lib.hid (F9.out.below hb1)
        have R10 := Lib.hid (R9.out.below hb1)
        have A10 := Lib.hid (A9.out.below hb1)
        have B10 := Lib.hid (B9.out.trans (hb1.mono B9.out.size))
        have hll := D.loose_len
        have hln := F9.out.dev.ok.few
        have HSM := Lib.hid (sameInts_any A1 A2 D.loose.length D.loose.length cp1 cp2 D.loose D.loose true (decide_eq_true rfl) y2 rfl rfl (by omega) (by omega) (HA1.out.below hb1) hL1)
        clear hown1 hb1 hL1 hll hln F9 R9 A9 B9 HA1
        go_wp2_with fail
        refine HSM.out.mono ?_
        rintro e y3 ⟨rfl, hb1⟩
        have F11 := Lib.hid (F10.out.below hb1)
        have R11 := Lib.hid (R10.out.below hb1)
        have A11 := Lib.hid (A10.out.below hb1)
        have B11 := Lib.hid (B10.out.trans (hb1.mono B10.out.size))
        clear hb1 HSM F10 R10 A10 B10
        have hn100 := HNM.out
        go_wp2
        go_roundw
        case rel => exact ⟨i + 1, D, by go_num, HIN.out, F11.out, R11.out, HDN.out, A11.out, B11.out⟩
        case measure => have := HIN.out; first | omega | (simp [intOf]; omega)
    · obtain rfl : i = n := by omega
      go_wp2_with fail
      refine (HGS.out wr).mono ?_
      rintro e w4 ⟨rfl, b4⟩
      have B4 := Lib.hid (BR.out.trans (b4.mono BR.out.size))
      clear b4
      go_wp2_with fail
      refine (rslot_any gen w4).mono ?_
      rintro e w5 ⟨rfl, rfl⟩
      go_wp2
      go_ret
      exact ⟨rfl, B4.out⟩

theorem walk (w : World) (hT : Tab w) (sec : Int) (_ : -9223372036854775808 ≤ sec ∧ sec ≤ 9223372036854775807) (A : Option Addr) (cap : Nat) (l : List Oz) (hl : l.length ≤ cap) (hm : cap ≤ maxLen) (hA : Lies w A (flatZ l)) (hQ : ∀ u ∈ l, OzIn w u) (gen : Int) (hg : -9223372036854775808 ≤ gen ∧ gen ≤ 9223372036854775807) :
    Calls Tryz.prog 3 #[.int .i64 sec, .slice A l.length cap, .int .i64 gen] w fun e w' => e = .returned (.bool true) ∧ Below w.heap.size w w' :=
  walkN superOk w hT sec A cap l.length l rfl (Nat.le_trans hl hm) hA hQ gen hg.1 hg.2


set_option maxRecDepth 100000 in
theorem lifted (os : Os) (started : os.Started) (H : Type) (enc : TypeId × Value → H) :
    ReturnsInHanded {} Tryz.checked os 3 .any (fun w args => (Rows.superPlaysSpec.pre enc Tryz.prog Tryz.f3 [] false w args ∧ laidMetH Tryz.prog laidHere w) ∧ sizedMet enc Tryz.prog Tryz.f3 (OpenSpec.ofChange Rows.superPlaysSpec) false w args) (Rows.superPlaysSpec.post enc Tryz.prog Tryz.f3 false true false false) := by
  refine returnsInHanded_of_change_and (C := Tryz.checked) (X := fun w _ => laidMetH Tryz.prog laidHere w) (fun _ _ _ hh h => h.of_heap hh) own started (by kernel_rfl) Tryz.func3
    (ChangeSpec.witness_shaped (enc := enc) (C := Tryz.checked) (os := os) (X := fun w _ => laidMetH Tryz.prog laidHere w) false (World.doorLaid Tryz.prog doorSteps os) #[.int .i64 0, .slice none 0 0, .int .i64 0] 8 rfl (World.shaped_of_RefB (by kernel_rfl) (by kernel_rfl)) (by kernel_rfl) (by kernel_rfl) (by kernel_rfl) (door_met os _)) ?_
  intro W base args ds gs before hval0 hW _ _ hL _
  have hval : ∀ (j : Nat) t v, Tryz.f3.params[j]? = some t → args[j]? = some v → Value.okWide Tryz.prog W .any base t v := hval0
  have hfin := fun W' => law_post (enc := enc) (P := Tryz.prog) (f := Tryz.f3) (s := Rows.superPlaysSpec) (tb := 4) (W := W) (W' := W') (args := args) (ds := ds) (gs := gs) (before := before) laidOut rfl (by kernel_rfl) Tryz.underlying4 (by kernel_rfl) (fun xs h => by rw [Tryz.params3] at h; match xs, h with | [_, _, _], _ => rfl) hW
  have hlt : ∀ x ∈ before, x.block < W.heap.size := fun x hx => hW.lt x hx
  obtain ⟨p, q, hA0, hV, rfl, hfz, hnd⟩ := hW
  have hA : DataW.TrodAll enc Tryz.prog W 0 (fun _ => true) true Tryz.f3.params.toList args.toList ds p := hA0
  rw [Tryz.params3] at hA hval
  obtain ⟨v0, vs0, d0, ds0, p0, q0, hargs, rfl, rfl, h0, r0⟩ := trodAll_cons hA
  obtain ⟨v1, vs1, d1, ds1, p1, q1, rfl, rfl, rfl, h1, r1⟩ := trodAll_cons r0
  obtain ⟨v2, vs2, d2, ds2, p2, q2, rfl, rfl, rfl, h2, r2⟩ := trodAll_cons r1
  obtain ⟨rfl, rfl, rfl⟩ := trodAll_nil r2
  obtain rfl : args = #[v0, v1, v2] := by cases args; simp_all
  obtain ⟨a0, rfl, rfl, rfl, w0⟩ := open_int Tryz.underlying3 (hval 0 3 v0 rfl rfl) h0
  obtain ⟨A1, cap1, l1, rfl, hl1, hm1, hB1, hQ1⟩ := open_ops10 (hval 1 22 v1 rfl rfl) h1 (fun x hx => hlt x (by simp [hx]))
  obtain ⟨a2, rfl, rfl, rfl, w2⟩ := open_int Tryz.underlying2 (hval 2 2 v2 rfl rfl) h2
  refine (walk W (of_laid hL) a0 (bounds_i64 w0) A1 cap1 l1 hl1 hm1 hB1 hQ1 a2 (bounds_i64 w2)).mono fun e W' ⟨he, hg⟩ => ?_
  subst he
  exact ⟨_, rfl, hfin W' hg⟩

theorem proved : Rows.SuperPlaysSaid :=
  OpenClaim.holds_of_wide 3 Tryz.f3 rfl rfl rfl rfl rfl rfl rfl ⟨rfl, rfl, rfl, rfl, rfl⟩ rfl rfl rfl rfl rfl (by kernel_rfl) Tryz.func3 (by kernel_rfl)
    (of_decide_eq_true (by kernel_rfl)) (by unfold Func.isWrapper; first | (rw [if_pos (by decide +kernel)]; kernel_rfl) | (rw [if_neg (by decide +kernel)]; exact ⟨rfl, rfl⟩))
    (fun os started H enc _ => lifted os started H enc)

set_option maxRecDepth 100000 in
theorem card : Rows.SuperPlaysCardSaid :=
  Claim7.holds_tied_plain_at .later [] laidKindsHere true _ false
    proved (fun _ h => by cases h) (by kernel_rfl) (fun _ h => by cases h) superPlays_row_tie rfl ⟨rfl, rfl⟩ (by kernel_rfl) rfl
    (fun f fn hf hfn => by
      obtain rfl : f = 3 := Option.some.inj ((show Tryz.prog.funcNamed "turntable/turntablelaw10.SuperPlays" = some 3 by kernel_rfl).symm.trans hf) |>.symm
      obtain rfl : fn = Tryz.f3 := (Option.some.inj (Tryz.func3.symm.trans hfn)).symm
      exact ⟨by kernel_rfl, fun j t ht => by
        rw [Tryz.params3] at ht
        have hm : t ∈ [3, 22, 2] := Array.mem_def.1 (Array.mem_of_getElem? ht)
        have hall : ([3, 22, 2].all fun u => !Tryz.prog.wantsStandIn u) = true := by kernel_rfl
        exact (show Tryz.prog.wantsStandIn t = false by simpa using List.all_eq_true.1 hall t hm)⟩)
    (by kernel_rfl)
#print axioms card
end Go.Proofs.YtehnhjnkbclnlaaGreatDoor.superPlays
