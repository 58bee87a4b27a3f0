/-
  PoolPlays (turntablelaw16): holds for every input. No condition but that the inputs are an int and a Go slice of calls.
-/
import Derived.Test.YthcchfhkeghkhaaGrP
import Derived.Test.YthcchfhkeghkhaaRpE
import Derived.BigRegion
import Derived.BigQuiet
import Derived.Deep.CutRange
import Derived.Deep.CutBlock
import Derived.Test.YthcchfhkeghkhaaPoZ

namespace Go.Proofs.Ythcchfhkeghkhaa.poolPlays
open Go.RowKit Go.Maps Po
set_option maxRecDepth 100000

/-- the two pools side by side -/
structure PS (IsP : List Nat → World → Nat → List Nat → Int → List Plain.Sp → Prop) (w0 : World) (p r : Nat) (mo : Int) (G : List Plain.Sp) (W : World) : Prop where
  ex : ∃ O, IsP [r] W p O mo G ∧ IsPR O W r mo G ∧ ∀ g ∈ O, w0.heap.size ≤ g
  rnew : w0.heap.size ≤ r
  be : Below w0.heap.size w0 W
/-- the one did something -/
theorem ref_beside {O O1 : List Nat} {W W1 : World} {r : Nat} {mo : Int} {G : List Plain.Sp} (h : IsPR O W r mo G) (k : Kept O W W1) (o1 : ∀ g ∈ O1, g ∈ O ∨ W.heap.size ≤ g) : IsPR O1 W1 r mo G := by
  have h1 : IsPR (O ++ O1) W r mo G := h.more fun s hs => (List.mem_append.1 hs).elim .inl (o1 s)
  have h2 := h1.keep k fun s hs => .inl (List.mem_append_left _ hs)
  exact h2.more fun s hs => .inl (List.mem_append_right _ hs)
section
variable {IsP : List Nat → World → Nat → List Nat → Int → List Plain.Sp → Prop} (K : PoolOk IsP) {w0 W W1 W2 : World} {p r : Nat} {mo : Int} {G G' : List Plain.Sp} {O O1 : List Nat}
include K
theorem PS.below (h : PS IsP w0 p r mo G W) (k : Below W.heap.size W W1) : PS IsP w0 p r mo G W1 := by
  obtain ⟨O, h1, h2, h3⟩ := h.ex
  exact ⟨⟨O, K.below h1 k, h2.below k, h3⟩, h.rnew, h.be.trans (k.mono h.be.size)⟩
/-- the other did the same -/
theorem PS.of (dev : IsP [r] W1 p O1 mo G') (ref : IsPR O1 W2 r mo G') (hk : Kept [r] W1 W2) (ho : ∀ g ∈ O1, w0.heap.size ≤ g) (hr : w0.heap.size ≤ r) (be : Below w0.heap.size w0 W1) : PS IsP w0 p r mo G' W2 :=
  ⟨⟨O1, K.keep dev hk (fun s hs => .inl hs), ref, ho⟩, hr, Kept.below be hk (by simpa using hr)⟩
end

set_option maxHeartbeats 16000000 in
theorem walkN {IsP : List Nat → World → Nat → List Nat → Int → List Plain.Sp → Prop} (hOk : PoolOk IsP) (w : World) (mo : Int) (A : Option Addr) (n cap : Nat) (l : List O16) (hn : l.length = n) (hc : n ≤ cap) (hm : cap ≤ maxLen) (hA : Lies w A (flatO16 l)) (hI : ∀ o ∈ l, O16In w o) :
    Calls Try.prog 3 #[.int .i64 mo, .slice A n cap] w fun e w' => e = .returned (.bool true) ∧ Below w.heap.size w w' := by
  have HK := Lib.hid hOk
  have HH := Lib.hid (head16_any hOk w)
  have HN := Lib.hid hn
  have HM := Lib.hid hm
  have HA := Lib.hid hA
  have HI := Lib.hid hI
  unfold maxLen at hm
  clear hOk hn hA hI
  go_enter Try.func3, Try.ntmps3
  go_wp2_with fail
  refine HH.out.mono ?_
  rintro e w1 ⟨rfl, d1⟩
  have HB1 := Lib.hid d1
  clear d1 HH
  go_wp2_with fail
  refine (HK.out.new [] mo w1 (by simp)).mono ?_
  rintro e w2 ⟨p, O, rfl, h2, ho2, d2⟩
  have HP2 := Lib.hid h2
  have HO2 := Lib.hid ho2
  have HB2 := Lib.hid (HB1.out.trans (d2.mono HB1.out.size))
  clear h2 ho2 d2
  go_wp2_with fail
  refine (rnew16_any O mo w2 (HK.out.own HP2.out)).mono ?_
  rintro e w2' ⟨r, rfl, hr2, hrn, d2⟩
  have HST := Lib.hid (show PS IsP w p r mo [] w2' from ⟨⟨O, HK.out.below (HK.out.more HP2.out (S := [r]) (by simpa using hrn)) d2, hr2, fun g hg => Nat.le_trans HB1.out.size (HO2.out g hg)⟩, Nat.le_trans HB2.out.size hrn, HB2.out.trans (d2.mono HB2.out.size)⟩)
  clear hr2 hrn d2 HP2 HO2 HB1 HB2
  go_wp2_with fail
  refine (great16_any A n cap l w2' HN.out hc HM.out (HA.out.below HST.out.be) (fun o ho => (HI.out o ho).below HST.out.be)).mono ?_
  rintro e w3 ⟨g, rfl, hg, d3⟩
  have HS3 := Lib.hid (HST.out.below HK.out d3)
  clear d3 hg HST
  rcases g with _ | _
  rotate_left
  · go_wp2
    go_ret
    exact ⟨rfl, HS3.out.be⟩
  · go_wp2
    go_loopw [8] (fun s8 wr => ∃ (k : Nat) (G : List Plain.Sp), s8 = .int .i64 (k : Int) ∧ k ≤ n ∧ PS IsP w p r mo G wr) (fun i _ => n - (intOf i).toNat)
    case atStart => exact ⟨0, [], rfl, Nat.zero_le _, HS3.out⟩
    case round =>
      obtain ⟨k, G, rfl, hk, hst⟩ := hrel
      have HST := Lib.hid hst
      clear hst HS3
      by_cases hlt : k < n
      · have hkl : k < l.length := by rw [HN.out]; exact hlt
        obtain ⟨ad, rfl, hadb, hcl⟩ := at_o16 HA.out k hkl
        obtain ⟨x0, x1, x2⟩ := hcl wr HST.out.be
        have HOI := Lib.hid (HI.out _ (List.getElem_mem hkl))
        obtain ⟨o, ho⟩ : ∃ o, l[k]'hkl = o := ⟨_, rfl⟩
        rw [ho] at x0 x1 x2 HOI
        clear hcl ho
        have y := Blk.new wr #[.int .i64 o.what, .slice o.A o.l.length o.cap, .int .i64 o.id] 31
        have hba : Below wr.heap.size wr (wr.alloc (.cells #[.int .i64 o.what, .slice o.A o.l.length o.cap, .int .i64 o.id] 31)) := (Below.refl _ _).alloc (Nat.le_refl _) _
        have HOL := Lib.hid (show ∀ O, IsP [r] wr p O mo G → wr.heap.size ∉ O from fun O hp h => by have := HK.out.own hp _ h; omega)
        have HRL := Lib.hid (show wr.heap.size ∉ [r] from fun h => by
          obtain ⟨O, -, hr, -⟩ := HST.out.ex
          have := hr.lt
          rw [List.mem_singleton] at h
          omega)
        have HS1 := Lib.hid (HST.out.below HK.out hba)
        have HY := Lib.hid y
        obtain ⟨O1, hp0, hr0, hO1⟩ := HST.out.ex
        have HP1 := Lib.hid (HK.out.below hp0 hba)
        have HR1 := Lib.hid (hr0.below hba)
        have HO1 := Lib.hid hO1
        have HOL1 := Lib.hid (HOL.out O1 hp0)
        have HB1 := Lib.hid HS1.out.be
        have HRN := Lib.hid HST.out.rnew
        obtain ⟨wa, hwa⟩ : ∃ wa, wr.alloc (.cells #[.int .i64 o.what, .slice o.A o.l.length o.cap, .int .i64 o.id] 31) = wa := ⟨_, rfl⟩
        rw [hwa] at HY HP1 HR1 HB1
        have HWA := Lib.hid hwa
        clear y hba hwa HST HOL hp0 hr0 hO1 HS1
        go_upto_block 2 with (fail)
        rw [HWA.out]
        clear HWA x0 x1 x2
        generalize wr.heap.size = gb at *
        go_cut [10, 11, 12, 13, 14, 15, 16] from 51 to 96 (fun s10 _ _ _ _ _ _ wc => s10 = .bool true ∧ ∃ G', PS IsP w p r mo G' wc)
        case first =>
          have y1 : wa.cell? ⟨gb, 1, none⟩ = some (.slice o.A o.l.length o.cap) := HY.out.cell 1
          have y2 : wa.cell? ⟨gb, 2, none⟩ = some (.int .i64 o.id) := HY.out.cell 2
          have HRS := Lib.hid (show ∀ s ∈ [r], s < wa.heap.size from fun s hs => by rw [List.mem_singleton.1 hs]; exact HR1.out.lt)
          by_cases hw3 : o.what = 3
          · have t3 : (o.what == 3) = true := by simpa using hw3
            obtain ⟨b, hb⟩ : ∃ b, decide (o.id ∈ Po.ids G) = b := ⟨_, rfl⟩
            have HBB := Lib.hid hb
            have HT := Lib.hid (HK.out.take_as HP1.out HRS.out o.id hb rfl)
            clear hw3 hb
            go_wp2_with fail
            refine HT.out.mono ?_
            rintro e w4 ⟨rfl, O4, h4, k4, o4⟩
            have HP4 := Lib.hid h4
            have HO4 := Lib.hid (fun g (hg : g ∈ O4) => show w.heap.size ≤ g from (o4 g hg).elim (HO1.out g) (fun h => Nat.le_trans HB1.out.size h))
            have HR4 := Lib.hid (ref_beside HR1.out k4 o4)
            have HB4 := Lib.hid (Kept.below HB1.out k4 HO1.out)
            have z2 : w4.cell? ⟨gb, 2, none⟩ = some (.int .i64 o.id) := (k4.blk HY.out HOL1.out).cell 2
            have HT2 := Lib.hid (rtake16_any HR4.out (HK.out.own h4) o.id)
            rw [HBB.out] at HT2
            clear h4 k4 o4 HT y1 y2
            go_wp2_with fail
            refine HT2.out.mono ?_
            rintro e w5 ⟨rfl, h5, k5⟩
            have HS5 := Lib.hid (PS.of HK.out HP4.out h5 k5 HO4.out HRN.out HB4.out)
            have hbb : (b == b) = true := by simp
            clear h5 k5 HT2
            go_wp2
            go_meet
            exact ⟨rfl, _, HS5.out⟩
          · have t3 : (o.what == 3) = false := by simpa using hw3
            by_cases hw4 : o.what = 4
            · have t4 : (o.what == 4) = true := by simpa using hw4
              obtain ⟨b, hb⟩ : ∃ b, decide (o.id ∈ Po.ids G) = b := ⟨_, rfl⟩
              obtain ⟨d, hd⟩ : ∃ d, Po.part G o.id = d := ⟨_, rfl⟩
              obtain ⟨m, hm⟩ : ∃ m, d.length = m := ⟨_, rfl⟩
              have HMM := Lib.hid hm
              have HT := Lib.hid (HK.out.get_as HP1.out o.id hb hd hm)
              have HG2 := Lib.hid (fun (W : World) (hW : Below wa.heap.size wa W) => show Calls Try.prog 16 #[.pointer (some ⟨r, 0, none⟩), .int .i64 o.id] W (fun e w' => ∃ A cap, e = .returned (.tuple #[.slice A m cap, .bool b]) ∧ m ≤ cap ∧ cap ≤ maxLen ∧ Lies w' A (flat d) ∧ Below W.heap.size W w') by
                refine (rget16_any (HR1.out.below hW) o.id).mono fun e w' ⟨v, h1, h2, h3⟩ => ?_
                rw [hd] at h2
                obtain ⟨A, cap, rfl, h4, h5, h6, -⟩ := row_flat h2
                rw [hb, hm] at h1
                rw [hm] at h4
                exact ⟨A, cap, h1, h4, h5, h6, h3⟩)
              clear hw3 hw4 hb hd hm
              go_wp2_with fail
              refine HT.out.mono ?_
              rintro e w4 ⟨A4, c4, rfl, h41, h42, h43, -, d4⟩
              have HA4 := Lib.hid h43
              have HC4 := Lib.hid h42
              have HD4 := Lib.hid d4
              have z2 : w4.cell? ⟨gb, 2, none⟩ = some (.int .i64 o.id) := ((Kept.of d4 []).blk HY.out (by simp)).cell 2
              clear h42 h43 d4 HT y1 y2
              go_wp2_with fail
              refine (HG2.out w4 HD4.out).mono ?_
              rintro e w5 ⟨A5, c5, rfl, h51, h52, h53, d5⟩
              have HSM := Lib.hid (same_is16 A4 A5 m c4 c5 d w5 HMM.out h41 h51 HC4.out h52 (HA4.out.below d5) h53)
              have HD5 := Lib.hid (HD4.out.trans (d5.mono HD4.out.size))
              clear h52 h53 d5 z2 HG2
              go_wp2_with fail
              refine HSM.out.mono ?_
              rintro e w6 ⟨rfl, d6⟩
              have HS6 := Lib.hid ((show PS IsP w p r mo G wa from ⟨⟨_, HP1.out, HR1.out, HO1.out⟩, HRN.out, HB1.out⟩).below HK.out (HD5.out.trans (d6.mono HD5.out.size)))
              have hbb : (b == b) = true := by simp
              clear d6 HSM
              go_wp2
              go_meet
              exact ⟨rfl, _, HS6.out⟩
            · have t4 : (o.what == 4) = false := by simpa using hw4
              obtain ⟨c, hcc⟩ : ∃ c, codes mo G o.l = c := ⟨_, rfl⟩
              have HCC := Lib.hid hcc
              obtain ⟨on, hon⟩ : ∃ on, o.l.length = on := ⟨_, rfl⟩
              have HON := Lib.hid hon
              have HT := Lib.hid (HK.out.add_as HP1.out HRS.out o.A on o.cap o.l hon (by rw [← hon]; exact HOI.out.le) HOI.out.cap (HOI.out.lies.below HB1.out) (Off.of HOI.out.lies HO1.out) HOI.out.fine hcc rfl)
              rw [hon] at y1
              clear hw3 hw4 hcc hon
              go_wp2_with fail
              refine HT.out.mono ?_
              rintro e w4 ⟨rfl, O4, h4, k4, o4⟩
              have HP4 := Lib.hid h4
              have HO4 := Lib.hid (fun g (hg : g ∈ O4) => show w.heap.size ≤ g from (o4 g hg).elim (HO1.out g) (fun h => Nat.le_trans HB1.out.size h))
              have HR4 := Lib.hid (ref_beside HR1.out k4 o4)
              have HB4 := Lib.hid (Kept.below HB1.out k4 HO1.out)
              have z1 : w4.cell? ⟨gb, 1, none⟩ = some (.slice o.A on o.cap) := by
                have := (k4.blk HY.out HOL1.out).cell 1
                rw [HON.out] at this
                exact this
              have HT2 := Lib.hid (rAdd16_any HR4.out (HK.out.own h4) o.A on o.cap o.l HON.out (by rw [← HON.out]; exact HOI.out.le) HOI.out.cap (HOI.out.lies.below HB4.out) HOI.out.fine HCC.out rfl)
              clear h4 k4 o4 HT y1 y2
              go_wp2_with fail
              refine HT2.out.mono ?_
              rintro e w5 ⟨rfl, h5, k5⟩
              have HS5 := Lib.hid (PS.of HK.out HP4.out h5 k5 HO4.out HRN.out HB4.out)
              have hbb : (c == c) = true := by simp
              clear h5 k5 HT2
              go_wp2
              go_meet
              exact ⟨rfl, _, HS5.out⟩
        case rest =>
          obtain ⟨rfl, G', hst⟩ := hcut
          obtain ⟨O2, hp2, hr2, ho2⟩ := hst.ex
          have HP2 := Lib.hid hp2
          have HR2 := Lib.hid hr2
          have HST := Lib.hid hst
          obtain ⟨i, hi⟩ : ∃ i, Po.ids G' = i := ⟨_, rfl⟩
          obtain ⟨m, hm⟩ : ∃ m, i.length = m := ⟨_, rfl⟩
          have HMM := Lib.hid hm
          have HM1 := Lib.hid (HK.out.many_as (n := (m : Int)) hp2 (by rw [hi, hm]))
          have HM2 := Lib.hid (fun (W : World) (hW : Below wc.heap.size wc W) => show Calls Try.prog 21 #[.pointer (some ⟨r, 0, none⟩)] W (fun e w' => e = .returned (.int .i64 (m : Int)) ∧ w' = W) by
            have := rmany16_any (hr2.below hW)
            rwa [hi, hm] at this)
          have HI1 := Lib.hid (fun (W : World) (hW : Below wc.heap.size wc W) => HK.out.ids_as (HK.out.below hp2 hW) hi hm)
          have HI2 := Lib.hid (fun (W : World) (hW : Below wc.heap.size wc W) => show Calls Try.prog 24 #[.pointer (some ⟨r, 0, none⟩)] W (fun e w' => ∃ A cap, e = .returned (.slice A m cap) ∧ m ≤ cap ∧ cap ≤ maxLen ∧ Lies w' A (nums i) ∧ Below W.heap.size W w') by
            refine (rids16_any (hr2.below hW)).mono fun e w' ⟨v, h1, h2, h3⟩ => ?_
            rw [hi] at h2
            obtain ⟨A, cap, rfl, h4, h5, h6, -⟩ := row_nums16 h2
            rw [hm] at h1 h4
            exact ⟨A, cap, h1, h4, h5, h6, h3⟩)
          have hmm : ((m : Int) != (m : Int)) = false := by simp
          clear hst hp2 hr2 ho2 hi hm
          go_wp2_with fail
          refine HM1.out.mono ?_
          rintro e w4 ⟨rfl, d4⟩
          have HD4 := Lib.hid d4
          clear d4 HM1
          go_wp2_with fail
          refine (HM2.out w4 HD4.out).mono ?_
          rintro e w5 ⟨rfl, rfl⟩
          go_wp2_with fail
          refine (HI1.out w5 HD4.out).mono ?_
          rintro e w6 ⟨A6, c6, rfl, h61, h62, h63, -, d6⟩
          have HC6 := Lib.hid h62
          have HA6 := Lib.hid h63
          have HD6 := Lib.hid (HD4.out.trans (d6.mono HD4.out.size))
          clear h62 h63 d6 HI1 HM2
          go_wp2_with fail
          refine (HI2.out w6 HD6.out).mono ?_
          rintro e w7 ⟨A7, c7, rfl, h71, h72, h73, d7⟩
          have HSM := Lib.hid (sameIds_is16 A6 A7 m c6 c7 i w7 HMM.out h61 h71 HC6.out h72 (HA6.out.below d7) h73)
          have HD7 := Lib.hid (HD6.out.trans (d7.mono HD6.out.size))
          clear h72 h73 d7 HI2
          go_wp2_with fail
          refine HSM.out.mono ?_
          rintro e w8 ⟨rfl, d8⟩
          have HS8 := Lib.hid (HST.out.below HK.out (HD7.out.trans (d8.mono HD7.out.size)))
          clear d8 HSM
          go_wp2
          go_roundw
          case rel => exact ⟨k + 1, G', by go_num, by omega, HS8.out⟩
          case measure => simp [intOf]; omega
      · obtain rfl : k = n := by omega
        obtain ⟨O2, hp2, hr2, ho2⟩ := HST.out.ex
        have HP2 := Lib.hid hp2
        have HR2 := Lib.hid hr2
        obtain ⟨i, hi⟩ : ∃ i, Po.ids G = i := ⟨_, rfl⟩
        obtain ⟨m, hm⟩ : ∃ m, i.length = m := ⟨_, rfl⟩
        have HMM := Lib.hid hm
        have HOK := Lib.hid (HK.out.ok hp2)
        have h64 : m ≤ 64 := by rw [← hm, ← hi]; exact (HK.out.ok hp2).many
        have HBE := Lib.hid HST.out.be
        have HGA := Lib.hid (fun (W : World) (hW : Below wr.heap.size wr W) => HK.out.below hp2 hW)
        have HGB := Lib.hid (fun (W : World) (hW : Below wr.heap.size wr W) => hr2.below hW)
        have HI2 := Lib.hid (show Calls Try.prog 24 #[.pointer (some ⟨r, 0, none⟩)] wr (fun e w' => ∃ A cap, e = .returned (.slice A m cap) ∧ m ≤ cap ∧ cap ≤ maxLen ∧ Lies w' A (nums i) ∧ Below wr.heap.size wr w') by
          refine (rids16_any hr2).mono fun e w' ⟨v, h1, h2, h3⟩ => ?_
          rw [hi] at h2
          obtain ⟨A, cap, rfl, h4, h5, h6, -⟩ := row_nums16 h2
          rw [hm] at h1 h4
          exact ⟨A, cap, h1, h4, h5, h6, h3⟩)
        clear hp2 hr2 ho2 hi hm
        go_wp2_with fail
        refine HI2.out.mono ?_
        rintro e w4 ⟨A4, c4, rfl, h41, h42, h43, d4⟩
        have HA4 := Lib.hid h43
        have HD4 := Lib.hid d4
        unfold maxLen at h42
        clear h43 d4 HI2
        go_wp2
        go_loopw [18] (fun s18 wx => ∃ j : Nat, s18 = .int .i64 (j : Int) ∧ j ≤ m ∧ Below w4.heap.size w4 wx) (fun s _ => m - (intOf s).toNat)
        case atStart => exact ⟨0, rfl, Nat.zero_le _, Below.refl _ _⟩
        case round =>
          obtain ⟨j, rfl, hj, hbx⟩ := hrel
          have HBX := Lib.hid hbx
          have HDX := Lib.hid (HD4.out.trans (hbx.mono HD4.out.size))
          by_cases hjm : j < m
          · obtain ⟨ad, rfl, hadb, hnum⟩ := at_num HA4.out j (by rw [HMM.out]; exact hjm)
            have z := hnum wr hbx
            have HZ := Lib.hid (fun (W : World) (hW : Below wr.heap.size wr W) => hnum W (hbx.trans (hW.mono hbx.size)))
            obtain ⟨x, hx⟩ : ∃ x, i[j]'(by rw [HMM.out]; exact hjm) = x := ⟨_, rfl⟩
            rw [hx] at z HZ
            obtain ⟨b, hb⟩ : ∃ b, decide (x ∈ Po.ids G) = b := ⟨_, rfl⟩
            obtain ⟨d, hd⟩ : ∃ d, Po.part G x = d := ⟨_, rfl⟩
            obtain ⟨m2, hm2⟩ : ∃ m2, d.length = m2 := ⟨_, rfl⟩
            have HM2 := Lib.hid hm2
            have HT := Lib.hid (HK.out.get_as (HGA.out wr HDX.out) x hb hd hm2)
            have HT2 := Lib.hid (fun (W : World) (hW : Below wr.heap.size wr W) => show Calls Try.prog 16 #[.pointer (some ⟨r, 0, none⟩), .int .i64 x] W (fun e w' => ∃ A cap, e = .returned (.tuple #[.slice A m2 cap, .bool b]) ∧ m2 ≤ cap ∧ cap ≤ maxLen ∧ Lies w' A (flat d) ∧ Below W.heap.size W w') by
              refine (rget16_any (HGB.out W (HDX.out.trans (hW.mono HDX.out.size))) x).mono fun e w' ⟨v, h1, h2, h3⟩ => ?_
              rw [hd] at h2
              obtain ⟨A, cap, rfl, h4, h5, h6, -⟩ := row_flat h2
              rw [hb, hm2] at h1
              rw [hm2] at h4
              exact ⟨A, cap, h1, h4, h5, h6, h3⟩)
            clear hx hb hd hm2 hnum hbx
            go_wp2_with fail
            refine HT.out.mono ?_
            rintro e w5 ⟨A5, c5, rfl, h51, h52, h53, -, d5⟩
            have HA5 := Lib.hid h53
            have HC5 := Lib.hid h52
            have HD5 := Lib.hid d5
            have z2 := HZ.out w5 d5
            clear h52 h53 d5 z HT
            go_wp2_with fail
            refine (HT2.out w5 HD5.out).mono ?_
            rintro e w6 ⟨A6, c6, rfl, h61, h62, h63, d6⟩
            have HSM := Lib.hid (same_is16 A5 A6 m2 c5 c6 d w6 HM2.out h51 h61 HC5.out h62 (HA5.out.below d6) h63)
            have HD6 := Lib.hid (HD5.out.trans (d6.mono HD5.out.size))
            clear h62 h63 d6 z2 HT2
            go_wp2_with fail
            refine HSM.out.mono ?_
            rintro e w7 ⟨rfl, d7⟩
            have HD7 := Lib.hid (HD6.out.trans (d7.mono HD6.out.size))
            clear d7 HSM
            go_wp2
            go_roundw
            case rel => exact ⟨j + 1, by go_num, by omega, HBX.out.trans (HD7.out.mono HBX.out.size)⟩
            case measure => simp [intOf]; omega
          · obtain rfl : j = m := by omega
            have HBW := Lib.hid (HBE.out.trans (HDX.out.mono HBE.out.size))
            go_wp2
            go_ret
            exact ⟨rfl, HBW.out⟩

open Go.ChangeShapes Go.WideShapes Go.ChangeAt

theorem walk (w : World) (a : Int) (_ : -9223372036854775808 ≤ a ∧ a ≤ 9223372036854775807) (A : Option Addr) (cap : Nat) (l : List O16) (hl : l.length ≤ cap) (hm : cap ≤ maxLen) (hA : Lies w A (flatO16 l)) (hQ : ∀ u ∈ l, O16In w u) :
    Calls Try.prog 3 #[.int .i64 a, .slice A l.length cap] w fun e w' => e = .returned (.bool true) ∧ Below w.heap.size w w' :=
  walkN poolOk w a A l.length cap l rfl hl hm hA hQ

set_option maxRecDepth 100000 in
theorem lifted (os : Os) (started : os.Started) (H : Type) (enc : TypeId × Value → H) :
    ReturnsInHanded {} Try.checked os 3 .any (Rows.poolPlaysSpec.pre6 enc Try.prog Try.f3 Rows.poolPlaysRow.domain false) (Rows.poolPlaysSpec.post enc Try.prog Try.f3 false true false false) := by
  refine returnsInHanded_of_change (C := Try.checked) own started (by kernel_rfl) Try.func3
    (ChangeSpec.witness6 (enc := enc) (C := Try.checked) false ⟨#[], #[.int .i64 0, .slice none 0 0], []⟩ 8 (by kernel_rfl) (by kernel_rfl) (by kernel_rfl) (by kernel_rfl)) ?_
  intro W base args ds gs before hval0 hW hcnd _
  have hval : ∀ (j : Nat) t v, Try.f3.params[j]? = some t → args[j]? = some v → Value.okWide Try.prog W .any base t v := hval0
  have hfin := fun W' => law_post (enc := enc) (P := Try.prog) (f := Try.f3) (s := Rows.poolPlaysSpec) (tb := 4) (W := W) (W' := W') (args := args) (ds := ds) (gs := gs) (before := before) laidOut rfl (by kernel_rfl) Try.underlying4 (by kernel_rfl) (fun xs h => by rw [Try.params3] at h; match xs, h with | [_, _], _ => rfl) hW
  have hlt : ∀ x ∈ before, x.block < W.heap.size := fun x hx => hW.lt x hx
  obtain ⟨p, q, hA0, hV, rfl, hfz, hnd⟩ := hW
  have hA : DataW.TrodAll enc Try.prog W 0 (fun _ => true) true Try.f3.params.toList args.toList ds p := hA0
  rw [Try.params3] at hA hval
  obtain ⟨v0, vs0, d0, ds0, p0, q0, hargs, rfl, rfl, h0, r0⟩ := trodAll_cons hA
  obtain ⟨v1, vs1, d1, ds1, p1, q1, rfl, rfl, rfl, h1, r1⟩ := trodAll_cons r0
  obtain ⟨rfl, rfl, rfl⟩ := trodAll_nil r1
  obtain rfl : args = #[v0, v1] := by cases args; simp_all
  obtain ⟨a0, rfl, rfl, rfl, w0⟩ := open_int Try.underlying3 (hval 0 3 v0 rfl rfl) h0
  obtain ⟨A1, cap1, l1, rfl, hl1, hm1, hB1, hQ1⟩ := open_ops16 (hval 1 22 v1 rfl rfl) h1 (fun x hx => hlt x (by simp [hx]))
  refine (walk W a0 (bounds_i64 w0) A1 cap1 l1 hl1 hm1 hB1 hQ1).mono fun e W' ⟨he, hg⟩ => ?_
  subst he
  exact ⟨_, rfl, hfin W' hg⟩

theorem proved : Rows.PoolPlaysSaid :=
  OpenClaim.holds_of_wide 3 Try.f3 rfl rfl rfl rfl rfl rfl rfl ⟨rfl, rfl, rfl, rfl, rfl⟩ rfl rfl rfl rfl rfl (by kernel_rfl) Try.func3 (by kernel_rfl)
    (of_decide_eq_true (by kernel_rfl)) (by unfold Func.isWrapper; first | (rw [if_pos (by decide +kernel)]; kernel_rfl) | (rw [if_neg (by decide +kernel)]; exact ⟨rfl, rfl⟩))
    (fun os started H enc _ => lifted os started H enc)
#print axioms proved
end Go.Proofs.Ythcchfhkeghkhaa.poolPlays
