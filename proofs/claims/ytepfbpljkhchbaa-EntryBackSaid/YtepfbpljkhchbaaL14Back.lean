/-
  P14.2, EntryBack: for all calls, any Id and any entry the law returns true: what is changed, and changed back, is as it was; what is put, and deleted, leaves what was there. No condition.
-/
import Derived.Test.YtepfbpljkhchbaaLwE
import Derived.BigRegion
namespace Go.Proofs.Ytepfbpljkhchbaa.entryBack
open Go.ChangeShapes Go.WideShapes Go.ChangeAt Go.RowKit Go.Maps En
set_option maxRecDepth 100000

theorem uq_upd {m : List E} (h : Uq m) (i : Int) (f : E → E) (hf : ∀ x, (f x).id = x.id) : Uq (En.upd m i f) := by unfold Uq; rw [upd_ids m i f hf]; exact h
def Is14 (m m' : List E) : Prop := ∀ j, (En.get m j).isSome = (En.get m' j).isSome
def Sub14 (S S' : List Nat) : Prop := ∀ i ∈ S, i ∈ S'
theorem Is14.upd {m m' : List E} (h : Is14 m m') (i : Int) (f : E → E) (hf : ∀ x, (f x).id = x.id) : Is14 (En.upd m i f) m' := fun j => (upd_some m i f hf j).trans (h j)
theorem Sub14.upd {x b : Nat} {p : Int → Nat} {m : List E} {S : List Nat} (h : Sub14 (mine x b p m) S) (i : Int) (f : E → E) (hf : ∀ x, (f x).id = x.id) : Sub14 (mine x b p (En.upd m i f)) S := fun k hk => h k (mine_upd i f hf k hk)
/-- the index beside what was read: an entry's box, another one's, a row of entries -/
structure St (w0 : World) (x b : Nat) (p : Int → Nat) (M : List E) (id : Int) (B : Bool) (B0 : Nat) (t : E) (s : Value) (BY : Nat) (y : E) (s2 : Value) (A : Option Addr) (ts : List Ent) (W : World) (m : List E) : Prop where
  idx : IsIdx [] W x b p m
  is : Is14 m M
  got : (En.get M id).isSome = B
  sub : Sub14 (mine x b p m) (mine x b p M)
  new : ∀ i ∈ mine x b p M, i ≠ B0 ∧ i ≠ BY ∧ w0.heap.size ≤ i
  bx : BoxE W B0 t s
  yx : BoxE W BY y s2
  off : Off (mine x b p M) A (flatEn ts)
  li : Lies W A (flatEn ts)
  ok : EntOk (mine x b p M) W ts
  be : Below w0.heap.size w0 W
theorem St.step {w0 : World} {x b : Nat} {p : Int → Nat} {M : List E} {id : Int} {B : Bool} {B0 : Nat} {t : E} {s : Value} {BY : Nat} {y : E} {s2 : Value} {A : Option Addr} {ts : List Ent} {W W' : World} {m : List E} {e : Ending} {f : E → E} (h : St w0 x b p M id B B0 t s BY y s2 A ts W m) (hU : Upd14 [] W x b p m id f e W') (hf : ∀ x, (f x).id = x.id) :
    e = .returned (.bool B) ∧ St w0 x b p M id B B0 t s BY y s2 A ts W' (En.upd m id f) := by
  obtain ⟨he, hI, hk⟩ := hU
  have hk := hk.mono h.sub
  refine ⟨by rw [he, h.is id, h.got], hI, h.is.upd id f hf, h.got, h.sub.upd id f hf, h.new, hk.blk h.bx (fun h' => (h.new _ h').1 rfl), hk.blk h.yx (fun h' => (h.new _ h').2.1 rfl), h.off, h.li.kept h.off hk, h.ok.kept hk (fun s hs => .inl hs), Kept.below h.be hk (fun i hi => (h.new i hi).2.2)⟩
theorem back14 {m : List E} (h : Uq m) (i : Int) (p1 : Bool) (c1 s1 l1 z1 : Int) : En.upd (En.upd (En.upd (En.upd (En.upd (En.upd m i (pinU p1)) i (classU c1)) i (moveU s1 l1 z1)) i (pinU (got14 m i).pin)) i (classU (got14 m i).cl)) i (moveU (got14 m i).seq (got14 m i).pl (got14 m i).sz) = m := by
  rw [upd_upd, upd_upd, upd_upd, upd_upd, upd_upd]
  · unfold got14
    cases hg : En.get m i with
    | none => exact upd_none _ hg
    | some y => exact upd_same h hg _ (by obtain ⟨a, b, c, d, e, f, g, h, i, j, k, l, m⟩ := y; rfl)
  all_goals exact fun _ => rfl

set_option maxHeartbeats 16000000 in
theorem walkN (w : World) (A : Option Addr) (n cap : Nat) (l : List Opq) (t : Ent) (id : Int) (hn : l.length = n) (hl : n ≤ cap) (hm : cap ≤ maxLen) (hA : Lies w A (flatO l)) (hQ : ∀ o ∈ l, OpIn w o) (hT : EntIn w t) (hid : I64 id) :
    Calls Try.prog 8 #[.slice A n cap, .int .i64 id, .agg (enA t.e (.slice t.A t.e.sv.length t.cap))] w fun e w' => e = .returned (.bool true) ∧ Below w.heap.size w w' := by
  have HA := Lib.hid hA
  have HN := Lib.hid hn
  have HQ := Lib.hid hQ
  have HNM := Lib.hid (show n ≤ maxLen from Nat.le_trans hl hm)
  obtain ⟨tn, htn⟩ : ∃ tn, t.e.sv.length = tn := ⟨_, rfl⟩
  rw [htn]
  have HTN := Lib.hid htn
  have HT := Lib.hid hT
  have hEB := BoxE.new w t.e (.slice t.A tn t.cap)
  obtain ⟨W0, hW0⟩ : ∃ W0, w.alloc (.cells (enA t.e (.slice t.A tn t.cap)) 35) = W0 := ⟨_, rfl⟩
  obtain ⟨B0, hB0⟩ : ∃ B0, w.heap.size = B0 := ⟨_, rfl⟩
  have hb0 : Below w.heap.size w W0 := by rw [← hW0]; exact (Below.refl _ _).alloc (Nat.le_refl _) _
  rw [hW0, hB0] at hEB
  have HEB := Lib.hid hEB
  have HB00 := Lib.hid hb0
  have HW0 := Lib.hid hW0
  have HBB0 := Lib.hid hB0
  clear hA hn hQ hl hm hT htn hEB hb0 hW0 hB0
  go_enter Try.func8, Try.ntmps8
  go_wp2_with fail
  rw [HW0.out, HBB0.out]
  refine (head14_any W0).mono ?_
  rintro e w1 ⟨rfl, d1⟩
  have HB1 := Lib.hid (HB00.out.trans (d1.mono HB00.out.size))
  have HE1 := Lib.hid (HEB.out.below d1)
  have HL01 := Lib.hid (Blk.lt HE1.out)
  clear d1 HEB HB00
  go_wp2_with fail
  refine (new14_any [] w1 (by simp)).mono ?_
  rintro e w2 ⟨x, b, rfl, hI2, hx, hbx, d2⟩
  have HI2 := Lib.hid hI2
  have HB2 := Lib.hid (HB1.out.trans (d2.mono HB1.out.size))
  have HE2 := Lib.hid (HE1.out.below d2)
  have HBC := Lib.hid (And.intro hx hbx)
  have HBB := Lib.hid (And.intro (Nat.le_trans HB1.out.size hx) (Nat.le_trans HB1.out.size hbx))
  clear hI2 hx hbx d2 HE1
  go_wp2_with fail
  refine (great14_any A n cap l w2 HN.out HNM.out (HA.out.below HB2.out) (fun o ho => (HQ.out o ho).t.below HB2.out)).mono ?_
  rintro e w3 ⟨r, rfl, hr, rfl⟩
  rcases r with _ | _
  rotate_left
  · have HB := HB2.out
    go_wp2
    go_ret
    exact ⟨rfl, HB⟩
  have HR := Lib.hid (hr rfl)
  have hn200 := HR.out.1
  clear hr
  obtain ⟨a0, a1, a2, a3, a4, a5, a6, a7, a8, a9, a10, a11, a12⟩ := BoxE.all HE2.out
  have hlo := Lies.new w3 (opA ⟨0, t, 0, false, 0, 0, 0, 0⟩) 37
  have hbo : Below w3.heap.size w3 (w3.alloc (.cells (opA ⟨0, t, 0, false, 0, 0, 0, 0⟩) 37)) := (Below.refl _ _).alloc (Nat.le_refl _) _
  have hgr := great14_any (some ⟨w3.heap.size, 0, none⟩) 1 1 [⟨0, t, 0, false, 0, 0, 0, 0⟩] _ rfl (by unfold maxLen; omega) (by simpa [flatO, opCells] using hlo) (fun o ho => by rw [List.mem_singleton.1 ho]; exact (HT.out.below HB2.out).below hbo)
  have HBO := Lib.hid hbo
  unfold opA at hgr HBO
  simp only [HTN.out] at hgr HBO
  have HGR := Lib.hid hgr
  clear hlo hbo hgr
  go_wp2_with fail
  clear a0 a1 a2 a3 a4 a5 a6 a7 a8 a9 a10 a11 a12
  revert HGR HBO
  generalize hWO : w3.alloc (Obj.cells _ 37) = W4
  intro HBO HGR
  clear hWO
  refine HGR.out.mono ?_
  rintro e w4 ⟨r, rfl, hr, rfl⟩
  have HI4 := Lib.hid (HI2.out.below HBO.out)
  have HE4 := Lib.hid (HE2.out.below HBO.out)
  have HB4 := Lib.hid (HB2.out.trans (HBO.out.mono HB2.out.size))
  clear HI2 HE2 HB2 HBO HGR
  rcases r with _ | _
  rotate_left
  · have HB := HB4.out
    go_wp2
    go_ret
    exact ⟨rfl, HB⟩
  have HR2 := Lib.hid (show tn ≤ 9000 by have := (hr rfl).2 _ (List.mem_singleton.2 rfl); rw [← HTN.out]; exact this)
  clear hr
  have HI2 := HI4
  have HB2 := HB4
  clear HI4 HB4
  go_wp2
  go_loopw [9] (fun s wr => ∃ (k : Nat) (p : Int → Nat), s = .int .i64 (k : Int) ∧ k ≤ n ∧ IsIdx [] wr x b p (puts14 (l.take k)) ∧ (∀ i ∈ mine x b p (puts14 (l.take k)), w1.heap.size ≤ i) ∧ BoxE wr B0 t.e (.slice t.A tn t.cap) ∧ Below w.heap.size w wr) (fun i _ => n - (intOf i).toNat)
  case atStart =>
    refine ⟨0, _, rfl, Nat.zero_le _, HI2.out, fun i hi => ?_, HE4.out, HB2.out⟩
    rcases mem_mine.1 hi with rfl | rfl | ⟨e, he, -⟩
    · exact HBC.out.1
    · exact HBC.out.2
    · cases he
  case round =>
    obtain ⟨k, p, rfl, hk, hI, hmi, hbx, hbr⟩ := hrel
    have HBX := Lib.hid hbx
    have HI := Lib.hid hI
    have HMI := Lib.hid hmi
    have HBR := Lib.hid hbr
    clear hI hmi hbr hbx
    by_cases hlt : k < n
    · have hkl : k < l.length := by rw [HN.out]; exact hlt
      obtain ⟨ad, rfl, hadb, hcl⟩ := at_op HA.out k hkl
      have HIX := Lib.hid (fun (W : World) => show (Instr.indexAt 22 (.slice (some ad) n cap) (.int .i64 (k : Int))).run Try.prog W = .ok (.pointer (some (ad.add (k * 20)))) W by go_simp)
      have hix := HIX.out
      obtain ⟨c0, c1, c2, c3, c4, c5, c6, c7, c8, c9, c10, c11, c12⟩ := op_ent (hcl wr HBR.out)
      have hO := HQ.out l[k] (List.getElem_mem hkl)
      have HT := Lib.hid (puts14_take l k hkl)
      have HO := Lib.hid hO
      have H9 := Lib.hid (HR.out.2 l[k] (List.getElem_mem hkl))
      clear hcl hO
      obtain ⟨o, ho⟩ : ∃ o, l[k] = o := ⟨_, rfl⟩
      rw [ho] at c0 c1 c2 c3 c4 c5 c6 c7 c8 c9 c10 c11 c12 HT HO H9
      clear ho
      generalize ad.add (k * 20) = q at *
      obtain ⟨sn, hsn⟩ : ∃ sn, o.t.e.sv.length = sn := ⟨_, rfl⟩
      rw [hsn] at c9 H9
      have HSN := Lib.hid hsn
      clear hsn
      have hp := put14_any HI.out (by simp) (by have := puts14_len (l.take k); simp at this; omega) o.t.e HO.out.t.id o.t.A sn o.t.cap HSN.out ((HO.out.t.below HBR.out).svs (by rw [HSN.out]; exact H9.out))
      unfold enA at hp
      have HP := Lib.hid hp
      clear hp
      go_wp2_with fail
      clear c0 c1 c2 c3 c4 c5 c6 c7 c8 c9 c10 c11 c12
      refine HP.out.mono ?_
      rintro e w5 ⟨rfl, p5, hI5, hk5, hm5⟩
      rw [← HT.out] at hI5 hm5
      have HB5 := Lib.hid (Kept.below HBR.out hk5 (by simp; exact HBB.out.2))
      have HI5 := Lib.hid hI5
      have HM5 := Lib.hid (show ∀ i ∈ mine x b p5 (puts14 (l.take (k + 1))), w1.heap.size ≤ i from fun i hi => (hm5 i hi).elim (HMI.out i) (fun h => Nat.le_trans (Nat.le_of_lt (Nat.lt_of_le_of_lt HBC.out.2 HI.out.blt)) h))
      have HX5 := Lib.hid (show BoxE w5 B0 t.e (.slice t.A tn t.cap) from hk5.blk HBX.out (by have := HBC.out.2; have := HL01.out; simp; omega))
      clear hI5 hk5 hm5 HP HI HMI HBR
      go_wp2
      go_roundw
      case rel => exact ⟨k + 1, p5, by go_num, by omega, HI5.out, HM5.out, HX5.out, HB5.out⟩
      case measure => simp [intOf]; omega
    · obtain rfl : k = n := by omega
      have hpl := puts14_len l
      rw [HN.out] at hpl
      have hok := puts14_ok l
      rw [List.take_of_length_le (by rw [HN.out]; omega)] at HI HMI
      obtain ⟨M, hM⟩ : ∃ M, puts14 l = M := ⟨_, rfl⟩
      rw [hM] at HI HMI hpl hok
      have HOK := Lib.hid hok
      have HPL := Lib.hid (show M.length ≤ 200 by omega)
      clear hM hlt hpl hok HI2 HA HQ
      go_wp2_with fail
      refine (all14_any HI.out).mono ?_
      rintro e w5 ⟨v, ts, rfl, ho, hts, hsv, d5⟩
      obtain ⟨Aa, ca, rfl, hca1, hca2, hLa, hfa, -⟩ := row_form ho
      have HLA := Lib.hid (show Lies w5 Aa (flatEn ts) by
        rcases hLa with h | h
        · have : ts = [] := by rw [← List.map_eq_nil_iff (f := Ent.e), hts]; exact nil_of_len h
          rw [this]; exact .inl rfl
        · exact h)
      have HOF := Lib.hid (show Off (mine x b p M) Aa (flatEn ts) from .inr fun ad e hm => by have h1 := hfa ad e; have h2 := HI.out.lt _ hm; omega)
      have HTO := Lib.hid (show EntOk (mine x b p M) w5 ts from fun t' ht' => ⟨(hsv t' ht').1, .inr fun ad e hm => by have h1 := (hsv t' ht').2 ad e; have h2 := HI.out.lt _ hm; omega⟩)
      have HTS := Lib.hid hts
      have HI5 := Lib.hid (HI.out.below d5)
      have HX5 := Lib.hid (HBX.out.below d5)
      have HB5 := Lib.hid (HBR.out.trans (d5.mono HBR.out.size))
      obtain ⟨m, hml⟩ : ∃ m, M.length = m := ⟨_, rfl⟩
      rw [hml] at HPL hca1
      simp only [hml]
      have HML := Lib.hid hml
      have hm200 := HPL.out
      have HCA := Lib.hid (And.intro hca1 hca2)
      clear ho hts hsv d5 hLa hfa HI HBX HBR hml hca1 hca2
      -- Get
      have HG := Lib.hid (get14_any HI5.out (i := id) hid)
      have HSL := Lib.hid (show (got14 M id).sv.length ≤ 9000 by
        unfold got14
        cases hg : En.get M id with
        | none => simp [E.zero]
        | some y => obtain ⟨h1, -⟩ := get_some hg; obtain ⟨_, _, _, hs, _⟩ := HI5.out.ent y h1; exact hs.few)
      have HBACK := Lib.hid (fun (p1 : Bool) (c1 s1 l1 z1 : Int) => back14 HOK.out.uq id p1 c1 s1 l1 z1)
      obtain ⟨y, hy⟩ : ∃ y, got14 M id = y := ⟨_, rfl⟩
      obtain ⟨B, hB⟩ : ∃ B, (En.get M id).isSome = B := ⟨_, rfl⟩
      rw [hy, hB] at HG
      rw [hy] at HSL HBACK
      have HBI := Lib.hid (fun (m' : List E) (h : Is14 m' M) => (h id).trans hB)
      clear hy hB
      go_wp2_with fail
      refine HG.out.mono ?_
      rintro e w6 ⟨v, rfl, ho, d6⟩
      obtain ⟨C, c2, rfl, -, -⟩ := row_svs ho rfl HSL.out
      have hIY := (HI5.out.below d6).below ((Below.refl w6.heap.size w6).alloc (Nat.le_refl _) (.cells (enA y (.slice C y.sv.length c2)) 35))
      have hYB := BoxE.new w6 y (.slice C y.sv.length c2)
      have HYL := Lib.hid (show ∀ i ∈ mine x b p M, i < w6.heap.size from (HI5.out.below d6).lt)
      have dA : Below w5.heap.size w5 (w6.alloc (.cells (enA y (.slice C y.sv.length c2)) 35)) := d6.trans (((Below.refl w6.heap.size w6).alloc (Nat.le_refl _) _).mono d6.size)
      obtain ⟨W7, hW7⟩ : ∃ W7, w6.alloc (.cells (enA y (.slice C y.sv.length c2)) 35) = W7 := ⟨_, rfl⟩
      rw [hW7] at hIY hYB dA
      obtain ⟨BY, hBY⟩ : ∃ BY, w6.heap.size = BY := ⟨_, rfl⟩
      rw [hBY] at hYB HYL
      have HI7 := Lib.hid hIY
      have HY7 := Lib.hid hYB
      have HX7 := Lib.hid (HX5.out.below dA)
      have HL7 := Lib.hid (HLA.out.below dA)
      have HO7 := Lib.hid (HTO.out.below dA)
      have HB7 := Lib.hid (HB5.out.trans (dA.mono HB5.out.size))
      have HW7 := Lib.hid hW7
      have HBY := Lib.hid hBY
      have HXM := Lib.hid (show ∀ i ∈ mine x b p M, i ≠ B0 ∧ i ≠ BY from fun i hi => by
        have h1 := HMI.out i hi
        have h2 := HL01.out
        have h3 := HYL.out i hi
        omega)
      have HWM := Lib.hid (show ∀ i ∈ mine x b p M, w.heap.size ≤ i from fun i hi => Nat.le_trans HB1.out.size (HMI.out i hi))
      obtain ⟨sn, hsn⟩ : ∃ sn, y.sv.length = sn := ⟨_, rfl⟩
      rw [hsn] at HY7 HW7 ⊢
      have HSN := Lib.hid hsn
      obtain ⟨y0, y1, y2, y3, y4, y5, y6, y7, y8, y9, y10, y11, y12⟩ := BoxE.all HY7.out
      clear ho d6 hIY hYB dA hW7 hBY hsn HI5 HX5 HLA HTO HB5 HYL HG
      unfold enA at HW7 ⊢
      have HS7 := Lib.hid (show St w x b p M id B B0 t.e (.slice t.A tn t.cap) BY y (.slice C sn c2) Aa ts W7 M from ⟨HI7.out, fun _ => rfl, HBI.out M (fun _ => rfl), fun _ h => h, fun i hi => ⟨(HXM.out i hi).1, (HXM.out i hi).2, HWM.out i hi⟩, HX7.out, HY7.out, HOF.out, HL7.out, HO7.out, HB7.out⟩)
      clear HI7 HY7 HX7 HL7 HO7 HB7
      go_wp2_with fail
      rw [HBY.out, HW7.out]
      refine (pin14_any HS7.out.idx hid _).mono ?_
      rintro e w8 hU
      obtain ⟨rfl, hS⟩ := HS7.out.step hU (fun _ => rfl)
      have HS8 := Lib.hid hS
      clear hS hU HS7 y0 y1 y2 y3 y4 y5 y6 y7 y8 y9 y10 y11 y12
      obtain ⟨y0, y1, y2, y3, y4, y5, y6, y7, y8, y9, y10, y11, y12⟩ := BoxE.all HS8.out.yx
      go_wp2_with fail
      refine (class14_any HS8.out.idx hid _).mono ?_
      rintro e w9 hU
      obtain ⟨rfl, hS⟩ := HS8.out.step hU (fun _ => rfl)
      have HS9 := Lib.hid hS
      clear hS hU HS8 y0 y1 y2 y3 y4 y5 y6 y7 y8 y9 y10 y11 y12
      obtain ⟨y0, y1, y2, y3, y4, y5, y6, y7, y8, y9, y10, y11, y12⟩ := BoxE.all HS9.out.yx
      go_wp2_with fail
      refine (move14_any HS9.out.idx hid _ _ _).mono ?_
      rintro e w10 hU
      obtain ⟨rfl, hS⟩ := HS9.out.step hU (fun _ => rfl)
      have HS10 := Lib.hid hS
      clear hS hU HS9 y0 y1 y2 y3 y4 y5 y6 y7 y8 y9 y10 y11 y12
      obtain ⟨y0, y1, y2, y3, y4, y5, y6, y7, y8, y9, y10, y11, y12⟩ := BoxE.all HS10.out.yx
      go_wp2_with fail
      refine (pin14_any HS10.out.idx hid _).mono ?_
      rintro e w11 hU
      obtain ⟨rfl, hS⟩ := HS10.out.step hU (fun _ => rfl)
      have HS11 := Lib.hid hS
      clear hS hU HS10 y0 y1 y2 y3 y4 y5 y6 y7 y8 y9 y10 y11 y12
      obtain ⟨y0, y1, y2, y3, y4, y5, y6, y7, y8, y9, y10, y11, y12⟩ := BoxE.all HS11.out.yx
      go_wp2_with fail
      refine (class14_any HS11.out.idx hid _).mono ?_
      rintro e w12 hU
      obtain ⟨rfl, hS⟩ := HS11.out.step hU (fun _ => rfl)
      have HS12 := Lib.hid hS
      clear hS hU HS11 y0 y1 y2 y3 y4 y5 y6 y7 y8 y9 y10 y11 y12
      obtain ⟨y0, y1, y2, y3, y4, y5, y6, y7, y8, y9, y10, y11, y12⟩ := BoxE.all HS12.out.yx
      go_wp2_with fail
      refine (move14_any HS12.out.idx hid _ _ _).mono ?_
      rintro e w13 hU
      obtain ⟨rfl, hS⟩ := HS12.out.step hU (fun _ => rfl)
      have HS13 := Lib.hid hS
      clear hS hU HS12 y0 y1 y2 y3 y4 y5 y6 y7 y8 y9 y10 y11 y12
      obtain ⟨y0, y1, y2, y3, y4, y5, y6, y7, y8, y9, y10, y11, y12⟩ := BoxE.all HS13.out.yx
      have HX13 := Lib.hid HS13.out.bx
      have HL13 := Lib.hid HS13.out.li
      have HO13 := Lib.hid HS13.out.ok
      have HB13 := Lib.hid HS13.out.be
      have hI := HS13.out.idx
      rw [HBACK.out] at hI
      have HI := Lib.hid hI
      have HAL := Lib.hid (all14_any hI)
      rw [HML.out] at HAL
      have HMN := Lib.hid (many14_any hI)
      clear hI y0 y1 y2 y3 y4 y5 y6 y7 y8 y9 y10 y11 y12 HS13 HBACK
      go_wp2_with fail
      refine HAL.out.mono ?_
      rintro e w14 ⟨v, us, rfl, ho, hus, hsu, d14⟩
      obtain ⟨Au, cu, rfl, hcu1, hcu2, hLu, -, -⟩ := row_form ho
      have HSM := Lib.hid (same14_any Au Aa m m cu ca us ts w14 (by have := congrArg List.length hus; simpa [HML.out] using this) (by have := congrArg List.length HTS.out; simpa [HML.out] using this) hcu1 HCA.out.1 hcu2 HCA.out.2 (by
        rcases hLu with h | h
        · have : us = [] := by rw [← List.map_eq_nil_iff (f := Ent.e), hus]; exact nil_of_len (HML.out.trans h)
          rw [this]; exact .inl rfl
        · exact h) (HL13.out.below d14) (fun t' ht' => (hsu t' ht').1) (fun t' ht' => ((HO13.out.below d14) t' ht').1))
      rw [hus, HTS.out, decide_eq_true rfl] at HSM
      have HI14 := Lib.hid (HI.out.below d14)
      have HX14 := Lib.hid (BoxE.below HX13.out d14)
      have HL14 := Lib.hid (HL13.out.below d14)
      have HO14 := Lib.hid (HO13.out.below d14)
      have HB14 := Lib.hid (HB13.out.trans (d14.mono HB13.out.size))
      clear ho hus hsu d14 hLu HAL HMN HI HX13 HL13 HO13 HB13 hcu1 hcu2
      go_wp2_with fail
      refine HSM.out.mono ?_
      rintro e w15 ⟨rfl, d15⟩
      have HI15 := Lib.hid (HI14.out.below d15)
      have hX15 := BoxE.below HX14.out d15
      have HX15 := Lib.hid hX15
      have HL15 := Lib.hid (HL14.out.below d15)
      have HO15 := Lib.hid (HO14.out.below d15)
      have HB15 := Lib.hid (HB14.out.trans (d15.mono HB14.out.size))
      obtain ⟨z0, -⟩ := hX15.all
      have HG := Lib.hid (get14_any HI15.out (i := t.e.id) HT.out.id)
      obtain ⟨sn2, hsn2⟩ : ∃ s, (got14 M t.e.id).sv.length = s := ⟨_, rfl⟩
      have HSL2 := Lib.hid (show (got14 M t.e.id).sv.length ≤ 9000 by
        unfold got14
        cases hg : En.get M t.e.id with
        | none => simp [E.zero]
        | some y => obtain ⟨h1, -⟩ := get_some hg; obtain ⟨_, _, _, hs, _⟩ := HI15.out.ent y h1; exact hs.few)
      obtain ⟨y2, hy2⟩ : ∃ y, got14 M t.e.id = y := ⟨_, rfl⟩
      obtain ⟨D, hD⟩ : ∃ D, (En.get M t.e.id).isSome = D := ⟨_, rfl⟩
      rw [hy2] at HG HSL2
      rw [hD] at HG
      have HD := Lib.hid hD
      clear hX15 d15 HSM HI14 HX14 HL14 HO14 HB14 hsn2 hy2 hD
      go_wp2_with fail
      refine HG.out.mono ?_
      rintro e w16 ⟨v, rfl, ho, d16⟩
      obtain ⟨C2, c3, rfl, -, -⟩ := row_svs ho rfl HSL2.out
      have hb17 : Below w16.heap.size w16 (w16.alloc (.cells (enA y2 (.slice C2 y2.sv.length c3)) 35)) := (Below.refl _ _).alloc (Nat.le_refl _) _
      obtain ⟨w17, hW17⟩ : ∃ w17, w16.alloc (.cells (enA y2 (.slice C2 y2.sv.length c3)) 35) = w17 := ⟨_, rfl⟩
      rw [hW17] at hb17
      have dA := d16.trans (hb17.mono d16.size)
      have HI17 := Lib.hid (HI15.out.below dA)
      have hX17 := BoxE.below HX15.out dA
      have HX17 := Lib.hid hX17
      have HL17 := Lib.hid (HL15.out.below dA)
      have HO17 := Lib.hid (HO15.out.below dA)
      have HB17 := Lib.hid (HB15.out.trans (dA.mono HB15.out.size))
      have hX16 := BoxE.below HX15.out d16
      have hB0l := Blk.lt hX16
      obtain ⟨z0, z1, z2, z3, z4, z5, z6, z7, z8, z9, z10, z11, z12⟩ := hX16.all
      have hp := put14_any HI17.out (by simp) (by have := HML.out; omega) t.e HT.out.id t.A tn t.cap HTN.out ((HT.out.below HB17.out).svs (by rw [HTN.out]; exact HR2.out))
      obtain ⟨sn2, hsn2⟩ : ∃ s, y2.sv.length = s := ⟨_, rfl⟩
      rw [hsn2] at hW17 ⊢
      unfold enA at hp hW17 ⊢
      have HP := Lib.hid hp
      have HW17 := Lib.hid hW17
      clear ho d16 hb17 dA hX17 hX16 HI15 HX15 HL15 HO15 HB15 HG hp hsn2 hW17
      go_wp2_with fail
      clear z0 z1 z2 z3 z4 z5 z6 z7 z8 z9 z10 z11 z12
      rw [HW17.out]
      have HSB := Lib.hid (show ∀ s ∈ [b], s ∈ mine x b p M from fun s hs => by rw [List.mem_singleton.1 hs]; exact mem_mine.2 (.inr (.inl rfl)))
      have hbB : B0 ∉ [b] := by
        have h1 := HBC.out.2
        have h2 := HL01.out
        simp
        omega
      have HNB := Lib.hid hbB
      have HWB := Lib.hid (show ∀ s ∈ [b], w.heap.size ≤ s from by simp; exact HBB.out.2)
      clear hbB hB0l
      refine HP.out.mono ?_
      rintro e w18 ⟨rfl, p18, hI18, hk18, -⟩
      have hX18 := hk18.blk (show Blk w17 B0 _ _ from HX17.out) HNB.out
      have HX18 := Lib.hid hX18
      have HL18 := Lib.hid (HL17.out.kept (HOF.out.mono HSB.out) hk18)
      have HO18 := Lib.hid (HO17.out.kept hk18 (fun s hs => .inl (HSB.out s hs)))
      have HB18 := Lib.hid (Kept.below HB17.out hk18 HWB.out)
      have HDL := Lib.hid (del14_any hI18 (i := t.e.id) HT.out.id)
      have z0 : w18.cell? ⟨B0, 0, none⟩ = some (.int .i64 t.e.id) := hX18.cell 0
      clear hI18 hk18 hX18 HP HI17 HX17 HL17 HO17 HB17
      go_wp2_with fail
      refine HDL.out.mono ?_
      rintro e w19 ⟨rfl, hI19, hk19⟩
      rw [del_put] at hI19
      have HL19 := Lib.hid (HL18.out.kept (HOF.out.mono HSB.out) hk19)
      have HO19 := Lib.hid (HO18.out.kept hk19 (fun s hs => .inl (HSB.out s hs)))
      have HB19 := Lib.hid (Kept.below HB18.out hk19 HWB.out)
      have HI19 := Lib.hid hI19
      clear hI19 hk19 HDL HX18 HL18 HO18 HB18 z0
      have hca := HCA.out.2
      unfold maxLen at hca
      rcases D with _ | _
      · have hdn : En.del M t.e.id = M := del_none (by
          cases hg : En.get M t.e.id with
          | none => rfl
          | some y => have := HD.out; rw [hg] at this; cases this)
        have hI := HI19.out
        rw [hdn] at hI
        have HAL := Lib.hid (all14_any hI)
        rw [HML.out] at HAL
        clear hI hdn HI19
        go_wp2_with fail
        refine HAL.out.mono ?_
        rintro e w20 ⟨v, us, rfl, ho, hus, hsu, d20⟩
        obtain ⟨Au, cu, rfl, hcu1, hcu2, hLu, -, -⟩ := row_form ho
        have HSM := Lib.hid (same14_any Au Aa m m cu ca us ts w20 (by have := congrArg List.length hus; simpa [HML.out] using this) (by have := congrArg List.length HTS.out; simpa [HML.out] using this) hcu1 HCA.out.1 hcu2 HCA.out.2 (by
          rcases hLu with h | h
          · have : us = [] := by rw [← List.map_eq_nil_iff (f := Ent.e), hus]; exact nil_of_len (HML.out.trans h)
            rw [this]; exact .inl rfl
          · exact h) (HL19.out.below d20) (fun t' ht' => (hsu t' ht').1) (fun t' ht' => ((HO19.out.below d20) t' ht').1))
        rw [hus, HTS.out, decide_eq_true rfl] at HSM
        have HB20 := Lib.hid (HB19.out.trans (d20.mono HB19.out.size))
        clear ho hus hsu d20 hLu HAL hcu1 hcu2
        go_wp2_with fail
        refine HSM.out.mono ?_
        rintro e w21 ⟨rfl, d21⟩
        have HB21 := Lib.hid (HB20.out.trans (d21.mono HB20.out.size))
        clear d21 HSM
        go_wp2
        go_ret
        exact ⟨rfl, HB21.out⟩
      · have hl := len_del HOK.out.uq t.e.id
        have hd := HD.out
        rw [hd, if_pos rfl, HML.out] at hl
        have HMN := Lib.hid (many14_any HI19.out)
        obtain ⟨L, hL⟩ : ∃ L, (En.del M t.e.id).length = L := ⟨_, rfl⟩
        rw [hL] at hl HMN
        have hq : ((L : Int) == (m : Int) - 1) = true := by simp; omega
        clear hd hL HI19
        go_wp2_with fail
        refine HMN.out.mono ?_
        rintro e w20 ⟨rfl, rfl⟩
        go_wp2
        go_ret
        exact ⟨rfl, HB19.out⟩
theorem walk (w : World) (A : Option Addr) (cap : Nat) (l : List Opq) (hl : l.length ≤ cap) (hm : cap ≤ maxLen) (hA : Lies w A (flatO l)) (hQ : ∀ o ∈ l, OpIn w o) (id : Int) (hid : -9223372036854775808 ≤ id ∧ id ≤ 9223372036854775807) (t : Ent) (hT : EntIn w t) :
    Calls Try.prog 8 #[.slice A l.length cap, .int .i64 id, .agg (enA t.e (.slice t.A t.e.sv.length t.cap))] w fun e w' => e = .returned (.bool true) ∧ Below w.heap.size w w' := walkN w A l.length cap l t id rfl hl hm hA hQ hT (by unfold I64; omega)


set_option maxRecDepth 100000 in
theorem lifted (os : Os) (started : os.Started) (H : Type) (enc : TypeId × Value → H) :
    ReturnsInHanded {} Try.checked os 8 .any (Rows.entryBackSpec.pre6 enc Try.prog Try.f8 Rows.entryBackRow.domain false) (Rows.entryBackSpec.post enc Try.prog Try.f8 false true false false) := by
  refine returnsInHanded_of_change (C := Try.checked) own started (by kernel_rfl) Try.func8
    (ChangeSpec.witness6 (enc := enc) (C := Try.checked) false ⟨#[], #[.slice none 0 0, .int .i64 0, .agg #[.int .i64 0, .int .i64 0, .int .i64 0, .int .i64 0, .bool false, .int .i64 0, .int .i64 0, .int .i64 0, .int .i64 0, .slice none 0 0, .int .i64 0, .int .i64 0, .int .i64 0]], []⟩ 8 (by kernel_rfl) (by kernel_rfl) (by kernel_rfl) (by kernel_rfl)) ?_
  intro W base args ds gs before hval0 hW hcnd _
  have hval : ∀ (j : Nat) t v, Try.f8.params[j]? = some t → args[j]? = some v → Value.okWide Try.prog W .any base t v := hval0
  have hfin := fun W' => law_post (enc := enc) (P := Try.prog) (f := Try.f8) (s := Rows.entryBackSpec) (tb := 4) (W := W) (W' := W') (args := args) (ds := ds) (gs := gs) (before := before) laidOut rfl (by kernel_rfl) Try.underlying4 (by kernel_rfl) (fun xs h => by rw [Try.params8] at h; match xs, h with | [_, _, _], _ => rfl) hW
  have hlt : ∀ x ∈ before, x.block < W.heap.size := fun x hx => hW.lt x hx
  obtain ⟨p, q, hA0, hV, rfl, hfz, hnd⟩ := hW
  have hA : DataW.TrodAll enc Try.prog W 0 (fun _ => true) true Try.f8.params.toList args.toList ds p := hA0
  rw [Try.params8] at hA hval
  obtain ⟨v0, vs0, d0, ds0, p0, q0, hargs, rfl, rfl, h0, r0⟩ := trodAll_cons hA
  obtain ⟨v1, vs1, d1, ds1, p1, q1, rfl, rfl, rfl, h1, r1⟩ := trodAll_cons r0
  obtain ⟨v2, vs2, d2, ds2, p2, q2, rfl, rfl, rfl, h2, r2⟩ := trodAll_cons r1
  obtain ⟨rfl, rfl, rfl⟩ := trodAll_nil r2
  obtain rfl : args = #[v0, v1, v2] := by cases args; simp_all
  obtain ⟨A0, cap0, l0, rfl, hl0, hm0, hB0, hQ0⟩ := open_ops14 (hval 0 22 v0 rfl rfl) h0 (fun x hx => hlt x (by simp [hx]))
  obtain ⟨a1, rfl, rfl, rfl, w1⟩ := open_int Try.underlying2 (hval 1 2 v1 rfl rfl) h1
  obtain ⟨t2, rfl, hT2⟩ := open_ent (hval 2 35 v2 rfl rfl) h2 (fun x hx => hlt x (by simp [hx]))
  refine (walk W A0 cap0 l0 hl0 hm0 hB0 hQ0 a1 (bounds_i64 w1) t2 hT2).mono fun e W' ⟨he, hg⟩ => ?_
  subst he
  exact ⟨_, rfl, hfin W' hg⟩

theorem proved : Rows.EntryBackSaid :=
  OpenClaim.holds_of_wide 8 Try.f8 rfl rfl rfl rfl rfl rfl rfl ⟨rfl, rfl, rfl, rfl, rfl⟩ rfl rfl rfl rfl rfl (by kernel_rfl) Try.func8 (by kernel_rfl)
    (of_decide_eq_true (by kernel_rfl)) (by unfold Func.isWrapper; first | (rw [if_pos (by decide +kernel)]; kernel_rfl) | (rw [if_neg (by decide +kernel)]; exact ⟨rfl, rfl⟩))
    (fun os started H enc _ => lifted os started H enc)
#print axioms proved
end Go.Proofs.Ytepfbpljkhchbaa.entryBack
