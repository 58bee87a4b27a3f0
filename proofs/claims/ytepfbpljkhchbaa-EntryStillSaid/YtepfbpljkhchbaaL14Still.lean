/-
  P14.1, EntryStill: for all calls and any entry the law returns true: what is handed in is not kept, and what is handed out is one's own: changed, it changes nothing. No condition.
-/
import Derived.Test.YtepfbpljkhchbaaLwE
import Derived.BigRegion
namespace Go.Proofs.Ytepfbpljkhchbaa.entryStill
open Go.ChangeShapes Go.WideShapes Go.ChangeAt Go.RowKit Go.Maps En
set_option maxRecDepth 100000

set_option maxHeartbeats 16000000 in
theorem walkN (w : World) (A : Option Addr) (n cap : Nat) (l : List Opq) (t : Ent) (hn : l.length = n) (hl : n ≤ cap) (hm : cap ≤ maxLen) (hA : Lies w A (flatO l)) (hQ : ∀ o ∈ l, OpIn w o) (hT : EntIn w t) :
    Calls Try.prog 6 #[.slice A n cap, .agg (enA t.e (.slice t.A t.e.sv.length t.cap))] w fun e w' => e = .returned (.bool true) ∧ Below w.heap.size w w' := by
  have HA := Lib.hid hA
  have HN := Lib.hid hn
  have HQ := Lib.hid hQ
  have HNM := Lib.hid (show n ≤ maxLen from Nat.le_trans hl hm)
  obtain ⟨tn, htn⟩ : ∃ tn, t.e.sv.length = tn := ⟨_, rfl⟩
  rw [htn]
  have HTN := Lib.hid htn
  have HT := Lib.hid hT
  have hEB := BoxE.new w t.e (.slice t.A tn t.cap)
  obtain ⟨W0, hW0⟩ : ∃ W0, w.alloc (.cells (enA t.e (.slice t.A tn t.cap)) 35) = W0 := ⟨_, rfl⟩
  obtain ⟨B0, hB0⟩ : ∃ B0, w.heap.size = B0 := ⟨_, rfl⟩
  have hb0 : Below w.heap.size w W0 := by rw [← hW0]; exact (Below.refl _ _).alloc (Nat.le_refl _) _
  rw [hW0, hB0] at hEB
  have HEB := Lib.hid hEB
  have HB00 := Lib.hid hb0
  have HW0 := Lib.hid hW0
  have HBB0 := Lib.hid hB0
  clear hA hn hQ hl hm hT htn hEB hb0 hW0 hB0
  go_enter Try.func6, Try.ntmps6
  go_wp2_with fail
  rw [HW0.out, HBB0.out]
  refine (head14_any W0).mono ?_
  rintro e w1 ⟨rfl, d1⟩
  have HB1 := Lib.hid (HB00.out.trans (d1.mono HB00.out.size))
  have HE1 := Lib.hid (HEB.out.below d1)
  have HL01 := Lib.hid (Blk.lt HE1.out)
  clear d1 HEB HB00
  go_wp2_with fail
  refine (new14_any [] w1 (by simp)).mono ?_
  rintro e w2 ⟨x, b, rfl, hI2, hx, hbx, d2⟩
  have HI2 := Lib.hid hI2
  have HB2 := Lib.hid (HB1.out.trans (d2.mono HB1.out.size))
  have HE2 := Lib.hid (HE1.out.below d2)
  have HBC := Lib.hid (And.intro hx hbx)
  have HBB := Lib.hid (And.intro (Nat.le_trans HB1.out.size hx) (Nat.le_trans HB1.out.size hbx))
  clear hI2 hx hbx d2 HE1
  go_wp2_with fail
  refine (great14_any A n cap l w2 HN.out HNM.out (HA.out.below HB2.out) (fun o ho => (HQ.out o ho).t.below HB2.out)).mono ?_
  rintro e w3 ⟨r, rfl, hr, rfl⟩
  rcases r with _ | _
  rotate_left
  · have HB := HB2.out
    go_wp2
    go_ret
    exact ⟨rfl, HB⟩
  have HR := Lib.hid (hr rfl)
  have hn200 := HR.out.1
  clear hr
  obtain ⟨a0, a1, a2, a3, a4, a5, a6, a7, a8, a9, a10, a11, a12⟩ := BoxE.all HE2.out
  have hlo := Lies.new w3 (opA ⟨0, t, 0, false, 0, 0, 0, 0⟩) 37
  have hbo : Below w3.heap.size w3 (w3.alloc (.cells (opA ⟨0, t, 0, false, 0, 0, 0, 0⟩) 37)) := (Below.refl _ _).alloc (Nat.le_refl _) _
  have hgr := great14_any (some ⟨w3.heap.size, 0, none⟩) 1 1 [⟨0, t, 0, false, 0, 0, 0, 0⟩] _ rfl (by unfold maxLen; omega) (by simpa [flatO, opCells] using hlo) (fun o ho => by rw [List.mem_singleton.1 ho]; exact (HT.out.below HB2.out).below hbo)
  have HBO := Lib.hid hbo
  unfold opA at hgr HBO
  simp only [HTN.out] at hgr HBO
  have HGR := Lib.hid hgr
  clear hlo hbo hgr
  go_wp2_with fail
  clear a0 a1 a2 a3 a4 a5 a6 a7 a8 a9 a10 a11 a12
  revert HGR HBO
  generalize hWO : w3.alloc (Obj.cells _ 37) = W4
  intro HBO HGR
  clear hWO
  refine HGR.out.mono ?_
  rintro e w4 ⟨r, rfl, hr, rfl⟩
  have HI4 := Lib.hid (HI2.out.below HBO.out)
  have HE4 := Lib.hid (HE2.out.below HBO.out)
  have HB4 := Lib.hid (HB2.out.trans (HBO.out.mono HB2.out.size))
  clear HI2 HE2 HB2 HBO HGR
  rcases r with _ | _
  rotate_left
  · have HB := HB4.out
    go_wp2
    go_ret
    exact ⟨rfl, HB⟩
  have HR2 := Lib.hid (show tn ≤ 9000 by have := (hr rfl).2 _ (List.mem_singleton.2 rfl); rw [← HTN.out]; exact this)
  clear hr
  have HI2 := HI4
  have HB2 := HB4
  clear HI4 HB4
  go_wp2
  go_loopw [7] (fun s wr => ∃ (k : Nat) (p : Int → Nat), s = .int .i64 (k : Int) ∧ k ≤ n ∧ IsIdx [] wr x b p (puts14 (l.take k)) ∧ (∀ i ∈ mine x b p (puts14 (l.take k)), w1.heap.size ≤ i) ∧ BoxE wr B0 t.e (.slice t.A tn t.cap) ∧ Below w.heap.size w wr) (fun i _ => n - (intOf i).toNat)
  case atStart =>
    refine ⟨0, _, rfl, Nat.zero_le _, HI2.out, fun i hi => ?_, HE4.out, HB2.out⟩
    rcases mem_mine.1 hi with rfl | rfl | ⟨e, he, -⟩
    · exact HBC.out.1
    · exact HBC.out.2
    · cases he
  case round =>
    obtain ⟨k, p, rfl, hk, hI, hmi, hbx, hbr⟩ := hrel
    have HBX := Lib.hid hbx
    have HI := Lib.hid hI
    have HMI := Lib.hid hmi
    have HBR := Lib.hid hbr
    clear hI hmi hbr hbx
    by_cases hlt : k < n
    · have hkl : k < l.length := by rw [HN.out]; exact hlt
      obtain ⟨ad, rfl, hadb, hcl⟩ := at_op HA.out k hkl
      have HIX := Lib.hid (fun (W : World) => show (Instr.indexAt 22 (.slice (some ad) n cap) (.int .i64 (k : Int))).run Try.prog W = .ok (.pointer (some (ad.add (k * 20)))) W by go_simp)
      have hix := HIX.out
      obtain ⟨c0, c1, c2, c3, c4, c5, c6, c7, c8, c9, c10, c11, c12⟩ := op_ent (hcl wr HBR.out)
      have hO := HQ.out l[k] (List.getElem_mem hkl)
      have HT := Lib.hid (puts14_take l k hkl)
      have HO := Lib.hid hO
      have H9 := Lib.hid (HR.out.2 l[k] (List.getElem_mem hkl))
      clear hcl hO
      obtain ⟨o, ho⟩ : ∃ o, l[k] = o := ⟨_, rfl⟩
      rw [ho] at c0 c1 c2 c3 c4 c5 c6 c7 c8 c9 c10 c11 c12 HT HO H9
      clear ho
      generalize ad.add (k * 20) = q at *
      obtain ⟨sn, hsn⟩ : ∃ sn, o.t.e.sv.length = sn := ⟨_, rfl⟩
      rw [hsn] at c9 H9
      have HSN := Lib.hid hsn
      clear hsn
      have hp := put14_any HI.out (by simp) (by have := puts14_len (l.take k); simp at this; omega) o.t.e HO.out.t.id o.t.A sn o.t.cap HSN.out ((HO.out.t.below HBR.out).svs (by rw [HSN.out]; exact H9.out))
      unfold enA at hp
      have HP := Lib.hid hp
      clear hp
      go_wp2_with fail
      clear c0 c1 c2 c3 c4 c5 c6 c7 c8 c9 c10 c11 c12
      refine HP.out.mono ?_
      rintro e w5 ⟨rfl, p5, hI5, hk5, hm5⟩
      rw [← HT.out] at hI5 hm5
      have HB5 := Lib.hid (Kept.below HBR.out hk5 (by simp; exact HBB.out.2))
      have HI5 := Lib.hid hI5
      have HM5 := Lib.hid (show ∀ i ∈ mine x b p5 (puts14 (l.take (k + 1))), w1.heap.size ≤ i from fun i hi => (hm5 i hi).elim (HMI.out i) (fun h => Nat.le_trans (Nat.le_of_lt (Nat.lt_of_le_of_lt HBC.out.2 HI.out.blt)) h))
      have HX5 := Lib.hid (show BoxE w5 B0 t.e (.slice t.A tn t.cap) from hk5.blk HBX.out (by have := HBC.out.2; have := HL01.out; simp; omega))
      clear hI5 hk5 hm5 HP HI HMI HBR
      go_wp2
      go_roundw
      case rel => exact ⟨k + 1, p5, by go_num, by omega, HI5.out, HM5.out, HX5.out, HB5.out⟩
      case measure => simp [intOf]; omega
    · obtain rfl : k = n := by omega
      have hpl := puts14_len l
      rw [HN.out] at hpl
      have hok := puts14_ok l
      rw [List.take_of_length_le (by rw [HN.out]; omega)] at HI HMI
      obtain ⟨M, hM⟩ : ∃ M, puts14 l = M := ⟨_, rfl⟩
      rw [hM] at HI HMI hpl hok
      have HOK := Lib.hid hok
      have HPL := Lib.hid (show M.length ≤ 200 by omega)
      clear hM hlt hpl hok HI2 HA HQ
      obtain ⟨i0, hi, hz0, hz1, hz2⟩ := info_parts infoStr14
      obtain ⟨a0, a1, a2, a3, a4, a5, a6, a7, a8, a9, a10, a11, a12⟩ := BoxE.all HBX.out
      have hB0l := Blk.lt HBX.out
      have hMB := BoxE.new wr t.e (.slice t.A tn t.cap)
      have hb5 : Below wr.heap.size wr (wr.alloc (.cells (enA t.e (.slice t.A tn t.cap)) 35)) := (Below.refl _ _).alloc (Nat.le_refl _) _
      obtain ⟨W5, hW5⟩ : ∃ W5, wr.alloc (.cells (enA t.e (.slice t.A tn t.cap)) 35) = W5 := ⟨_, rfl⟩
      rw [hW5] at hMB hb5
      have HBW := Lib.hid HI.out.blt
      have hz5 : W5.heap.size = wr.heap.size + 1 := by rw [← hW5]; simp
      have HMB := Lib.hid hMB
      have HW5 := Lib.hid hW5
      have HH := Lib.hid (show (W5.alloc (.cells #[] 9)).ownsRow (wr.heap.size + 1) 9 1 (.slice (some ⟨wr.heap.size + 1, 0, none⟩) 0 0) 0 [] by
        have := World.ownsRow_lit (base := wr.heap.size + 1) (e := 9) (size := 1) W5 #[] 0 (by omega) (by unfold maxLen; omega) rfl
        rw [hz5] at this
        simpa using this)
      have HB5 := Lib.hid (HBR.out.trans (hb5.mono HBR.out.size))
      have HX5 := Lib.hid (BoxE.below HBX.out hb5)
      have HTL := Lib.hid ((HT.out.lies.below HB5.out).below ((Below.refl W5.heap.size W5).alloc (Nat.le_refl _) (.cells #[] 9)))
      have HZ5 := Lib.hid hz5
      have HIM := Lib.hid (fun (R' : List Nat) (hR : ∀ r ∈ R', wr.heap.size ≤ r) => (HI.out.more (R' := R') (fun r hr => .inr (hR r hr))).below hb5)
      obtain ⟨m0, m1, m2, m3, m4, m5, m6, m7, m8, m9, m10, m11, m12⟩ := BoxE.all HX5.out
      have hX5l := Blk.lt HX5.out
      have htn := HR2.out
      have HFL := Lib.hid (show (strs t.e.sv).length = tn * 1 by rw [strs_length, HTN.out, Nat.mul_one])
      have HF1 := Lib.hid (strs_one t.e.sv)
      clear hb5 hW5 hz5 HI HBX hMB
      unfold enA at HW5 ⊢
      go_wp2_with (at_builtin; refine wpList_appK rfl _ _ 31 rfl (wr.heap.size + 1) 9 i0 (.string .empty) 1 16 Try.underlying31 hi hz0 hz1 hz2 rfl (by omega) _ 0 [] rfl ?b1 t.A tn t.cap (strs t.e.sv) rfl HFL.out ?b2 HF1.out ?b4 ?b5 ?b6 ?b7)
      case b1 => rw [HW5.out]; exact HH.out
      case b2 => rw [HW5.out]; exact HTL.out
      case b4 => unfold maxLen; omega
      case b5 => omega
      case b6 => simp
      case b7 =>
        intro v6 w6 hown6 hg6 hb6
        rw [HW5.out] at hg6
        clear a0 a1 a2 a3 a4 a5 a6 a7 a8 a9 a10 a11 a12 m0 m1 m2 m3 m4 m5 m6 m7 m8 m9 m10 m11 m12 HH HTL
        obtain ⟨g1, c1, cur, rfl, hbg, hgh, hlc, hcm, hcs, htk⟩ : ∃ g1 c1 cur, v6 = .slice (some ⟨g1, 0, none⟩) tn c1 ∧ wr.heap.size + 1 ≤ g1 ∧ w6.heap[g1]? = some (.cells cur 9 (0, 0)) ∧ tn ≤ c1 ∧ c1 ≤ maxLen ∧ cur.size = c1 ∧ cur.toList.take tn = strs t.e.sv := by
          rcases hown6.2 with ⟨e, -⟩ | ⟨g, c, cur, e, h1, h2, h3, h4, h5, h6⟩
          · rw [e] at hb6; simp [Value.ownBlock] at hb6
          · exact ⟨g, c, cur, e, h1, h2, h3, h4, by simpa using h5, by simpa using h6⟩
        have hkg := grown_kept hg6
        simp only [Value.ownBlock, Option.toList_some] at hkg
        have hbl : Below W5.heap.size W5 (W5.alloc (.cells #[] 9)) := (Below.refl _ _).alloc (Nat.le_refl _) _
        have hk6 : Kept [wr.heap.size + 1] W5 w6 := (Kept.of hbl _).trans hkg
        have HI6 := Lib.hid (((HIM.out [g1, wr.heap.size + 1, wr.heap.size] (by intro r hr; simp at hr; omega)).keep hk6 (by simp)).more (R' := [g1, wr.heap.size]) (by simp))
        have HX6 := Lib.hid (hk6.blk HX5.out (by simp; omega))
        have hM6 : BoxE w6 wr.heap.size t.e (.slice t.A tn t.cap) := hk6.blk HMB.out (by simp)
        have HB6 := Lib.hid (Kept.below HB5.out hk6 (by simp; have := HBR.out.size; omega))
        have HM9 := Lib.hid (show BoxE (w6.setCell ⟨wr.heap.size, 9, none⟩ (.slice (some ⟨g1, 0, none⟩) tn c1)) wr.heap.size t.e (.slice (some ⟨g1, 0, none⟩) tn c1) from Blk.set hM6 9 _)
        have HK9 := Lib.hid ((Kept.refl [wr.heap.size] w6).setCell (p := ⟨wr.heap.size, 9, none⟩) (by simp) (.slice (some ⟨g1, 0, none⟩) tn c1))
        have n9 := (BoxE.all hM6).2.2.2.2.2.2.2.2.2.1
        have f9 := Blk.frozen hM6 9
        have hbw : b < wr.heap.size := HBW.out
        have HI9 := Lib.hid ((HI6.out.keep HK9.out (by simp)).more (R' := [g1]) (by simp))
        have HX9 := Lib.hid (HK9.out.blk HX6.out (by have := hB0l; simp; omega))
        have HG9 := Lib.hid (HK9.out.blk (show Blk w6 g1 cur 9 from hgh) (by simp; omega))
        have HB9 := Lib.hid (Kept.below HB6.out HK9.out (by simp; have := HBR.out.size; omega))
        have hp := put14_any HI9.out (fun r hr => by rw [List.mem_singleton.1 hr]; exact HG9.out.lt) (by have := HPL.out; omega) t.e HT.out.id (some ⟨g1, 0, none⟩) tn c1 HTN.out ⟨by rw [HTN.out]; exact htn, by rw [HTN.out]; exact hlc, hcm, .inr ⟨_, rfl, HG9.out.lt, fun j u hu => by
          rw [show (⟨g1, 0, none⟩ : Addr).add j = ⟨g1, j, none⟩ by unfold Addr.add; split <;> simp_all, HG9.out.cell j]
          rw [← htk] at hu
          have := hu
          rw [List.getElem?_take] at this
          split at this
          · simpa using this
          · cases this⟩⟩
        unfold enA at hp
        have HP := Lib.hid hp
        obtain ⟨e0, e1, e2, e3, e4, e5, e6, e7, e8, e9, e10, e11, e12⟩ := BoxE.all HM9.out
        have HCS := Lib.hid (show tn ≤ cur.size by omega)
        clear hp hown6 hg6 hb6 hbl hk6 hM6 hkg htk hcs HI6 HX6 HB6 HIM HB5 HX5
        go_wp2_with fail
        clear e0 e1 e2 e3 e4 e5 e6 e7 e8 e9 e10 e11 e12 n9 f9
        refine HP.out.mono ?_
        rintro e w10 ⟨rfl, p10, hI10, hk10, -⟩
        have HI10 := Lib.hid hI10
        have HX10 := Lib.hid (hk10.blk HX9.out (by have := HBC.out.2; have := HL01.out; simp; omega))
        have HM10 := Lib.hid (hk10.blk HM9.out (by simp; omega))
        have HG10 := Lib.hid (hk10.blk HG9.out (by simp; omega))
        have HB10 := Lib.hid (Kept.below HB9.out hk10 (by simp; exact HBB.out.2))
        have HGE := Lib.hid (show En.get (En.put M t.e) t.e.id = some t.e by rw [get_put HOK.out, if_pos rfl])
        have HGL := Lib.hid (show w.heap.size ≤ g1 from by have := HBR.out.size; omega)
        have HGB := Lib.hid (show g1 ≠ B0 ∧ g1 ≠ wr.heap.size from by omega)
        clear hI10 hk10 HP HI9 HX9 HM9 HG9 HB9 HK9 hgh
        go_wp2
        go_loopw [9] (fun s wq => ∃ (i : Nat) (cs : Array Value), s = .int .i64 (i : Int) ∧ i ≤ tn ∧ IsIdx [g1] wq x b p10 (En.put M t.e) ∧ BoxE wq B0 t.e (.slice t.A tn t.cap) ∧ BoxE wq wr.heap.size t.e (.slice (some ⟨g1, 0, none⟩) tn c1) ∧ Blk wq g1 cs 9 ∧ tn ≤ cs.size ∧ Below w.heap.size w wq) (fun i _ => tn - (intOf i).toNat)
        case atStart => exact ⟨0, cur, rfl, Nat.zero_le _, HI10.out, HX10.out, HM10.out, HG10.out, HCS.out, HB10.out⟩
        case round =>
          obtain ⟨i, cs, rfl, hi9, hI, hX, hM, hG, hcsz, hB⟩ := hrel
          have HI := Lib.hid hI
          have HX := Lib.hid hX
          have HM := Lib.hid hM
          have HG := Lib.hid hG
          have HB := Lib.hid hB
          have s9 := (BoxE.all hM).2.2.2.2.2.2.2.2.2.1
          clear hI hM hB HI10 HX10 HM10 HG10 HB10
          by_cases hlt : i < tn
          · have ci : wr.cell? ⟨g1, i, none⟩ = some cs[i] := by rw [hG.cell i]; simp
            have fi := hG.frozen i
            generalize cs[i] = cv at *
            have HG2 := Lib.hid (hG.set i (.string ⟨#[111, 116, 104, 101, 114]⟩))
            have HK2 := Lib.hid ((Kept.refl [g1] wr).setCell (p := ⟨g1, i, none⟩) (by simp) (.string ⟨#[111, 116, 104, 101, 114]⟩))
            clear hG hX
            go_wp2
            go_roundw
            case rel => exact ⟨i + 1, _, by go_num, by omega, HI.out.keep HK2.out (by simp), HK2.out.blk HX.out (by have := HGB.out.1; simp; omega), HK2.out.blk HM.out (by have := HGB.out.2; simp; omega), HG2.out, by simpa using hcsz, Kept.below HB.out HK2.out (by simp; exact HGL.out)⟩
            case measure => simp [intOf]; omega
          · obtain rfl : tn = i := by omega
            have z0 := (BoxE.all hX).1
            have hg := get14_any HI.out (i := t.e.id) HT.out.id
            unfold got14 at hg
            rw [HGE.out] at hg
            simp only [Option.getD_some, Option.isSome_some, HTN.out] at hg
            have HGT := Lib.hid hg
            clear hg hX hG
            go_wp2_with fail
            clear z0 s9
            refine HGT.out.mono ?_
            rintro e w12 ⟨v, rfl, ho, d12⟩
            obtain ⟨A2, c2, rfl, hS2, hfr⟩ := row_svs ho HTN.out htn
            have hrow : tn = 0 ∨ ∃ g cs, A2 = some ⟨g, 0, none⟩ ∧ Blk w12 g cs 9 ∧ tn ≤ cs.size ∧ wr.heap.size ≤ g := by
              rcases ho.2 with ⟨-, h0⟩ | ⟨g, c, cu, e, h1, h2, h3, h4, h5, h6⟩
              · exact .inl h0
              · injection e with e1 e2 e3
                exact .inr ⟨g, cu, e1, h2, by rw [Nat.mul_one] at h5; omega, h1⟩
            have hob := own_block_lt ho
            have hb13 : Below w12.heap.size w12 (w12.alloc (.cells (enA t.e (.slice A2 tn c2)) 35)) := (Below.refl _ _).alloc (Nat.le_refl _) _
            have hbA := BoxE.new w12 t.e (.slice A2 tn c2)
            obtain ⟨W13, hW13⟩ : ∃ W13, w12.alloc (.cells (enA t.e (.slice A2 tn c2)) 35) = W13 := ⟨_, rfl⟩
            rw [hW13] at hb13 hbA
            have dA := d12.trans (hb13.mono d12.size)
            have HI13 := Lib.hid ((HI.out.more (R' := (Value.slice A2 tn c2).ownBlock.toList) (fun r hr => .inr (hob r hr).2)).below dA)
            have HX13 := Lib.hid (BoxE.below HX.out dA)
            have HB13 := Lib.hid (HB.out.trans (dA.mono HB.out.size))
            have HR13 := Lib.hid (show tn = 0 ∨ ∃ g cs, A2 = some ⟨g, 0, none⟩ ∧ Blk W13 g cs 9 ∧ tn ≤ cs.size ∧ wr.heap.size ≤ g ∧ g < w12.heap.size from hrow.imp id fun ⟨g, cs, h1, h2, h3, h4⟩ => ⟨g, cs, h1, (Kept.of hb13 []).blk h2 (by simp), h3, h4, h2.lt⟩)
            have HA13 := Lib.hid hbA
            have HW13 := Lib.hid hW13
            have hSM := sameE_any t.e t.e A2 t.A tn tn c2 t.cap W13 HTN.out HTN.out (hS2.below hb13) ((HT.out.below HB13.out).svs (by rw [HTN.out]; exact htn))
            rw [decide_eq_true rfl] at hSM
            unfold enA at hSM hW13 ⊢
            have HSM := Lib.hid hSM
            have HW13 := Lib.hid hW13
            have HS13 := Lib.hid (hS2.below hb13)
            have HBX := Lib.hid (BoxE.below HX.out d12)
            obtain ⟨z0, z1, z2, z3, z4, z5, z6, z7, z8, z9, z10, z11, z12⟩ := BoxE.all HBX.out
            have hzl := Blk.lt HBX.out
            have HWL := Lib.hid (And.intro (show w.heap.size ≤ wr.heap.size from HB.out.size) (show B0 < wr.heap.size from Blk.lt HX.out))
            clear ho d12 hS2 hfr hrow hob hb13 hbA hW13 dA hSM HI HX HB HM HG HGT
            go_wp2_with fail
            rw [HW13.out]
            clear z0 z1 z2 z3 z4 z5 z6 z7 z8 z9 z10 z11 z12 hzl
            refine HSM.out.mono ?_
            rintro e w14 ⟨rfl, d14⟩
            have HI14 := Lib.hid (HI13.out.below d14)
            have HX14 := Lib.hid (BoxE.below HX13.out d14)
            have HA14 := Lib.hid (BoxE.below HA13.out d14)
            have HB14 := Lib.hid (HB13.out.trans (d14.mono HB13.out.size))
            have HR14 := Lib.hid (show tn = 0 ∨ ∃ g cs, A2 = some ⟨g, 0, none⟩ ∧ Blk w14 g cs 9 ∧ tn ≤ cs.size ∧ wr.heap.size ≤ g ∧ g < w12.heap.size from HR13.out.imp id fun ⟨g, cs, h1, h2, h3, h4⟩ => ⟨g, cs, h1, (Kept.of d14 []).blk h2 (by simp), h3, h4⟩)
            clear d14 HI13 HX13 HA13 HB13 HR13 HSM HW13 HS13 HBX
            go_wp2
            go_loopw [13] (fun s wq => ∃ (i : Nat), s = .int .i64 (i : Int) ∧ i ≤ tn ∧ IsIdx (Value.slice A2 tn c2).ownBlock.toList wq x b p10 (En.put M t.e) ∧ BoxE wq B0 t.e (.slice t.A tn t.cap) ∧ BoxE wq w12.heap.size t.e (.slice A2 tn c2) ∧ (tn = 0 ∨ ∃ g cs, A2 = some ⟨g, 0, none⟩ ∧ Blk wq g cs 9 ∧ tn ≤ cs.size ∧ wr.heap.size ≤ g ∧ g < w12.heap.size) ∧ Below w.heap.size w wq) (fun i _ => tn - (intOf i).toNat)
            case atStart => exact ⟨0, rfl, Nat.zero_le _, HI14.out, HX14.out, HA14.out, HR14.out, HB14.out⟩
            case round =>
              obtain ⟨i, rfl, hi13, hI, hX, hM, hRW, hB⟩ := hrel
              have HI := Lib.hid hI
              have HX := Lib.hid hX
              have HM := Lib.hid hM
              have HB := Lib.hid hB
              have s9 := (BoxE.all hM).2.2.2.2.2.2.2.2.2.1
              clear hI hM hB HI14 HX14 HA14 HB14 HR14
              by_cases hlt : i < tn
              · obtain ⟨g2, cs, rfl, hG, hcsz, hg2, hg3⟩ := hRW.resolve_left (by omega)
                have ci : wr.cell? ⟨g2, i, none⟩ = some cs[i] := by rw [hG.cell i]; simp
                have fi := hG.frozen i
                generalize cs[i] = cv at *
                have HG2 := Lib.hid (hG.set i (.string ⟨#[97, 110, 111, 116, 104, 101, 114]⟩))
                have HK2 := Lib.hid ((Kept.refl [g2] wr).setCell (p := ⟨g2, i, none⟩) (by simp) (.string ⟨#[97, 110, 111, 116, 104, 101, 114]⟩))
                have HGX := Lib.hid (show g2 ≠ B0 ∧ g2 ≠ w12.heap.size ∧ w.heap.size ≤ g2 from by have := HWL.out; omega)
                clear hG hX hRW
                go_wp2
                go_roundw
                case rel => exact ⟨i + 1, by go_num, by omega, HI.out.keep HK2.out (by simp [Value.ownBlock]), HK2.out.blk HX.out (by have := HGX.out.1; simp; omega), HK2.out.blk HM.out (by have := HGX.out.2.1; simp; omega), .inr ⟨g2, _, rfl, HG2.out, by simpa using hcsz, hg2, hg3⟩, Kept.below HB.out HK2.out (by simp; exact HGX.out.2.2)⟩
                case measure => simp [intOf]; omega
              · obtain rfl : tn = i := by omega
                have z0 := (BoxE.all hX).1
                have hg := get14_any HI.out (i := t.e.id) HT.out.id
                unfold got14 at hg
                rw [HGE.out] at hg
                simp only [Option.getD_some, Option.isSome_some, HTN.out] at hg
                have HGT := Lib.hid hg
                clear hg hX hRW
                go_wp2_with fail
                clear z0 s9
                refine HGT.out.mono ?_
                rintro e w22 ⟨v, rfl, ho, d22⟩
                obtain ⟨A3, c3, rfl, hS3, -⟩ := row_svs ho HTN.out htn
                have hb23 : Below w22.heap.size w22 (w22.alloc (.cells (enA t.e (.slice A3 tn c3)) 35)) := (Below.refl _ _).alloc (Nat.le_refl _) _
                obtain ⟨W23, hW23⟩ : ∃ W23, w22.alloc (.cells (enA t.e (.slice A3 tn c3)) 35) = W23 := ⟨_, rfl⟩
                rw [hW23] at hb23
                have dA := d22.trans (hb23.mono d22.size)
                have HB23 := Lib.hid (HB.out.trans (dA.mono HB.out.size))
                have HBX := Lib.hid (BoxE.below HX.out d22)
                obtain ⟨z0, z1, z2, z3, z4, z5, z6, z7, z8, z9, z10, z11, z12⟩ := BoxE.all HBX.out
                have hzl := Blk.lt HBX.out
                have hSM := sameE_any t.e t.e A3 t.A tn tn c3 t.cap W23 HTN.out HTN.out (hS3.below hb23) ((HT.out.below HB23.out).svs (by rw [HTN.out]; exact htn))
                rw [decide_eq_true rfl] at hSM
                unfold enA at hSM hW23 ⊢
                have HSM := Lib.hid hSM
                have HW23 := Lib.hid hW23
                clear ho d22 hS3 hb23 dA hSM hW23 HI HX HB HM HGT
                go_wp2_with fail
                rw [HW23.out]
                clear z0 z1 z2 z3 z4 z5 z6 z7 z8 z9 z10 z11 z12 hzl
                refine HSM.out.mono ?_
                rintro e w24 ⟨rfl, d24⟩
                have HB24 := Lib.hid (HB23.out.trans (d24.mono HB23.out.size))
                clear d24 HSM
                go_wp2
                go_ret
                exact ⟨rfl, HB24.out⟩
theorem walk (w : World) (A : Option Addr) (cap : Nat) (l : List Opq) (hl : l.length ≤ cap) (hm : cap ≤ maxLen) (hA : Lies w A (flatO l)) (hQ : ∀ o ∈ l, OpIn w o) (t : Ent) (hT : EntIn w t) :
    Calls Try.prog 6 #[.slice A l.length cap, .agg (enA t.e (.slice t.A t.e.sv.length t.cap))] w fun e w' => e = .returned (.bool true) ∧ Below w.heap.size w w' := walkN w A l.length cap l t rfl hl hm hA hQ hT


set_option maxRecDepth 100000 in
theorem lifted (os : Os) (started : os.Started) (H : Type) (enc : TypeId × Value → H) :
    ReturnsInHanded {} Try.checked os 6 .any (Rows.entryStillSpec.pre6 enc Try.prog Try.f6 Rows.entryStillRow.domain false) (Rows.entryStillSpec.post enc Try.prog Try.f6 false true false false) := by
  refine returnsInHanded_of_change (C := Try.checked) own started (by kernel_rfl) Try.func6
    (ChangeSpec.witness6 (enc := enc) (C := Try.checked) false ⟨#[], #[.slice none 0 0, .agg #[.int .i64 0, .int .i64 0, .int .i64 0, .int .i64 0, .bool false, .int .i64 0, .int .i64 0, .int .i64 0, .int .i64 0, .slice none 0 0, .int .i64 0, .int .i64 0, .int .i64 0]], []⟩ 8 (by kernel_rfl) (by kernel_rfl) (by kernel_rfl) (by kernel_rfl)) ?_
  intro W base args ds gs before hval0 hW hcnd _
  have hval : ∀ (j : Nat) t v, Try.f6.params[j]? = some t → args[j]? = some v → Value.okWide Try.prog W .any base t v := hval0
  have hfin := fun W' => law_post (enc := enc) (P := Try.prog) (f := Try.f6) (s := Rows.entryStillSpec) (tb := 4) (W := W) (W' := W') (args := args) (ds := ds) (gs := gs) (before := before) laidOut rfl (by kernel_rfl) Try.underlying4 (by kernel_rfl) (fun xs h => by rw [Try.params6] at h; match xs, h with | [_, _], _ => rfl) hW
  have hlt : ∀ x ∈ before, x.block < W.heap.size := fun x hx => hW.lt x hx
  obtain ⟨p, q, hA0, hV, rfl, hfz, hnd⟩ := hW
  have hA : DataW.TrodAll enc Try.prog W 0 (fun _ => true) true Try.f6.params.toList args.toList ds p := hA0
  rw [Try.params6] at hA hval
  obtain ⟨v0, vs0, d0, ds0, p0, q0, hargs, rfl, rfl, h0, r0⟩ := trodAll_cons hA
  obtain ⟨v1, vs1, d1, ds1, p1, q1, rfl, rfl, rfl, h1, r1⟩ := trodAll_cons r0
  obtain ⟨rfl, rfl, rfl⟩ := trodAll_nil r1
  obtain rfl : args = #[v0, v1] := by cases args; simp_all
  obtain ⟨A0, cap0, l0, rfl, hl0, hm0, hB0, hQ0⟩ := open_ops14 (hval 0 22 v0 rfl rfl) h0 (fun x hx => hlt x (by simp [hx]))
  obtain ⟨t1, rfl, hT1⟩ := open_ent (hval 1 35 v1 rfl rfl) h1 (fun x hx => hlt x (by simp [hx]))
  refine (walk W A0 cap0 l0 hl0 hm0 hB0 hQ0 t1 hT1).mono fun e W' ⟨he, hg⟩ => ?_
  subst he
  exact ⟨_, rfl, hfin W' hg⟩

theorem proved : Rows.EntryStillSaid :=
  OpenClaim.holds_of_wide 6 Try.f6 rfl rfl rfl rfl rfl rfl rfl ⟨rfl, rfl, rfl, rfl, rfl⟩ rfl rfl rfl rfl rfl (by kernel_rfl) Try.func6 (by kernel_rfl)
    (of_decide_eq_true (by kernel_rfl)) (by unfold Func.isWrapper; first | (rw [if_pos (by decide +kernel)]; kernel_rfl) | (rw [if_neg (by decide +kernel)]; exact ⟨rfl, rfl⟩))
    (fun os started H enc _ => lifted os started H enc)
#print axioms proved
end Go.Proofs.Ytepfbpljkhchbaa.entryStill
