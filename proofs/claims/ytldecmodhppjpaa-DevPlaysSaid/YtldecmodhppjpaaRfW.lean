/-
  Layer 7's given answer: Write. Nothing is assumed.
-/
import Derived.Test.YtldecmodhppjpaaRfR

namespace Go.Proofs.Ytldecmodhppjpaa
open Go.ChangeShapes Go.WideShapes Go.ChangeAt Go.RowKit
set_option maxRecDepth 100000

set_option maxHeartbeats 2000000 in
theorem rwrite_any (w : World) (bk bw bl g : Nat) (d : Plain.Dv) (i : Int) (A : Option Addr) (cap len : Nat) (bs : List UInt8) (hlen : bs.length = len) (hL : Lies w A (cells bs)) (hoff : Off [g] A (cells bs)) (hdone : d.done < 4611686018427387904) (h : IsRef w bk bw bl g d) :
    Calls Try.prog 14 #[.pointer (some ⟨g, 0, none⟩), .int .i64 i, .slice A len cap] w fun e w' => e = .returned (.int .i64 ((d.write i bs).2 : Int)) ∧ IsRef w' bk bw bl g (d.write i bs).1 ∧ Kept [bw, bl, g] w w' := by
  by_cases hh : d.has i = true
  case neg =>
    have hh : d.has i = false := by simpa using hh
    have HH := Lib.hid (ris_is i false hh h)
    have HE2 := Lib.hid (show d.write i bs = (d, 1) by unfold Plain.Dv.write; rw [if_pos (.inl hh)])
    have HD := Lib.hid h
    clear hh h hL hoff
    go_enter Try.func14, Try.ntmps14
    go_wp2_with fail
    refine HH.out.mono ?_
    rintro e w' ⟨rfl, rfl⟩
    go_wp2
    go_returns
    rw [HE2.out]
    exact ⟨rfl, HD.out, Kept.refl _ _⟩
  have HH := Lib.hid (ris_is i true hh h)
  by_cases h64 : len = 64
  case neg =>
    have HE2 := Lib.hid (show d.write i bs = (d, 1) by unfold Plain.Dv.write; rw [if_pos (.inr (by rw [hlen]; exact h64))])
    have HD := Lib.hid h
    have t1 : ((len : Int) != 64) = true := by simp; omega
    clear hh h hL hoff
    go_enter Try.func14, Try.ntmps14
    go_wp2_with fail
    refine HH.out.mono ?_
    rintro e w' ⟨rfl, rfl⟩
    go_wp2
    go_returns
    rw [HE2.out]
    exact ⟨rfl, HD.out, Kept.refl _ _⟩
  subst h64
  have HT := Lib.hid (rthing_any h hdone)
  have HE := Lib.hid (show d.write i bs = if d.begin.2 ≠ 0 then d.begin else ({ d.begin.1 with wr := Plain.upd d.wr i.toNat (some bs) }, 0) by unfold Plain.Dv.write; rw [if_neg (by simp [hh, hlen])])
  obtain ⟨hi0, hi1⟩ := (d.has_iff i).1 hh
  obtain ⟨i, rfl⟩ := Int.eq_ofNat_of_zero_le hi0
  have hin0 : i < d.n := by omega
  have HL := Lib.hid hL
  have HO := Lib.hid hoff
  have HBL := Lib.hid hlen
  have HAP := Lib.hid h.apart
  obtain ⟨e1, e2, e3, -⟩ := d.begin_same
  have HOK := Lib.hid (d.write_ok h.ok (i : Int) bs)
  have HE1 := Lib.hid e1
  have HE2 := Lib.hid e2
  have HE3 := Lib.hid e3
  obtain ⟨n, hn⟩ : ∃ n, d.n = n := ⟨_, rfl⟩
  have HN := Lib.hid hn
  rw [hn] at hin0 hi1
  have hin := hin0
  have hlts := h.lts
  clear hh h hL hoff hlen e1 e2 e3 hn hin0
  go_enter Try.func14, Try.ntmps14
  go_wp2_with fail
  refine HH.out.mono ?_
  rintro e w' ⟨rfl, rfl⟩
  go_wp2_with fail
  refine HT.out.mono ?_
  rintro e wt ⟨rfl, hr, hk⟩
  obtain ⟨er, her⟩ : ∃ er, d.begin.2 = er := ⟨_, rfl⟩
  rw [her]
  have HK := Lib.hid hk
  have HR := Lib.hid hr
  have HL2 := Lib.hid (HL.out.kept HO.out hk)
  clear hr hk HH HT
  by_cases he : er = 0
  case neg =>
    have t1 : ((er : Int) == 0) = false := by simp; omega
    have HE4 := Lib.hid (show d.write i bs = (d.begin.1, er) by rw [HE.out, if_pos (by rw [her]; exact he), ← her])
    clear her
    go_wp2
    go_returns
    rw [HE4.out]
    exact ⟨rfl, HR.out, HK.out.mono (by simp)⟩
  subst he
  have HE4 := Lib.hid (show d.write i bs = ({ d.begin.1 with wr := Plain.upd d.wr i (some bs) }, 0) by rw [HE.out, if_neg (by rw [her]; simp), Int.toNat_natCast])
  obtain ⟨D1, hD1⟩ : ∃ D1, d.begin.1 = D1 := ⟨_, rfl⟩
  rw [hD1] at HR HE1 HE2 HE3 HE4
  have hD1n : D1.n = n := by rw [HE1.out, HN.out]
  have b0 : wt.cell? ⟨g, 1, none⟩ = some (.slice (some ⟨bw, 0, none⟩) n n) := by rw [← hD1n]; exact HR.out.box.cell 1
  have b1 : wt.cell? ⟨g, 2, none⟩ = some (.slice (some ⟨bl, 0, none⟩) n n) := by rw [← hD1n]; exact HR.out.box.cell 2
  have hgt := HR.out.lts
  have HC1 := Lib.hid (fun (W : World) (hW : Below wt.heap.size wt W) => run_loadSl W ⟨g, 1, none⟩ _ ((hW.cell (p := ⟨g, 1, none⟩) hgt.2.2.2).trans b0))
  obtain ⟨Wf, hwf, hwr⟩ := HR.out.wr
  rw [hD1n] at hwf
  have HWF := Lib.hid hwf
  have HWR := Lib.hid hwr
  have HB1 := Lib.hid b1
  have HDN := Lib.hid hD1n
  have hbd : Below wt.heap.size wt wt.drew := (Below.refl _ _).drew
  clear hD1 her b0 b1 hwf hwr hD1n
  go_wp2
  refine wp_late (by kernel_rfl) 36 [(21, [0]), (22, [21]), (23, [22]), (24, [23]), (25, [1]), (26, [2]), (27, [26]), (28, [24, 25]), (1008, [28, 27])]
    [Fact.is (.pointer (some ⟨g, 0, none⟩)), Fact.is (.pointer (some ⟨g, 0, none⟩)), Fact.is (.pointer (some ⟨g, 1, none⟩)), Fact.is (.slice (some ⟨bw, 0, none⟩) n n), Fact.is (.int .i64 (i : Int)), Fact.is (.slice A 64 cap), Fact.is (.string (str bs)), Fact.is (.pointer (some ⟨bw, i, none⟩)), default]
    [1, 1, 1, 1, 1, 1, 1, 1, 2] [8] [] [21, 22, 23, 24, 25, 26, 27, 28] ((fun _ _ w' => ∃ W, Below wt.heap.size wt W ∧ w' = W.setCell ⟨bw, i, none⟩ (.string (str bs))))
    (by kernel_rfl) (by kernel_rfl) rfl rfl ⟨?s0, ?s1, ?s2, ?s3, ?s4, ?s5, ?s6, ?s7, trivial⟩ ?late ?fin
  case s0 =>
    intro ρ W hb hc hf hr
    obtain ⟨r0, -⟩ := hr
    have e0 : ρ (.tmp 0) = .pointer (some ⟨g, 0, none⟩) := r0
    clear r0
    refine under_none rfl ?_
    exact ⟨e0, Below.refl _ _⟩
  case s1 =>
    intro ρ W hb hc hf hr
    obtain ⟨r21, -⟩ := hr
    have e21 : ρ (.tmp 21) = .pointer (some ⟨g, 0, none⟩) := r21
    clear r21
    refine under_none rfl ?_
    simp [execOp, e21, go_sem, softUpon, Fact.is, Below.refl]
  case s2 =>
    intro ρ W hb hc hf hr
    obtain ⟨r22, -⟩ := hr
    have e22 : ρ (.tmp 22) = .pointer (some ⟨g, 0, none⟩) := r22
    clear r22
    refine under_none rfl ?_
    exact soft_field e22 rfl (fun W => by go_simp)
  case s3 =>
    intro ρ W hb hc hf hr
    obtain ⟨r23, -⟩ := hr
    have e23 : ρ (.tmp 23) = .pointer (some ⟨g, 1, none⟩) := r23
    clear r23
    refine under_none rfl ?_
    exact soft_load e23 (HC1.out W (hbd.trans (hb.mono (by simp)))) rfl
  case s4 =>
    intro ρ W hb hc hf hr
    obtain ⟨r1, -⟩ := hr
    have e1 : ρ (.tmp 1) = .int .i64 (i : Int) := r1
    clear r1
    refine under_none rfl ?_
    exact ⟨e1, Below.refl _ _⟩
  case s5 =>
    intro ρ W hb hc hf hr
    obtain ⟨r2, -⟩ := hr
    have e2 : ρ (.tmp 2) = .slice A 64 cap := r2
    clear r2
    refine under_none rfl ?_
    exact ⟨e2, Below.refl _ _⟩
  case s6 =>
    intro ρ W hb hc hf hr
    obtain ⟨r26, -⟩ := hr
    have e26 : ρ (.tmp 26) = .slice A 64 cap := r26
    clear r26
    refine under_none rfl ?_
    exact soft_conv e26 (conv_lies (HL2.out.below (hbd.trans (hb.mono (by simp)))) HBL.out) rfl
  case s7 =>
    intro ρ W hb hc hf hr
    obtain ⟨r24, r25, -⟩ := hr
    have e24 : ρ (.tmp 24) = .slice (some ⟨bw, 0, none⟩) n n := r24
    clear r24
    have e25 : ρ (.tmp 25) = .int .i64 (i : Int) := r25
    clear r25
    refine under_none rfl ?_
    exact soft_index e24 e25 (run_idxS W bw n n i hin) rfl
  case late =>
    intro p j o hj ho a W hsz h0 h1 hfr hou
    match p, hj with
    | 0, hj =>
      obtain rfl : 8 = j := Option.some.inj hj
      obtain rfl := Option.some.inj ho
      clear hj ho
      obtain ⟨hb, hhard⟩ := h0 rfl
      have e28 : a.eval (.tmp 28) = .pointer (some ⟨bw, i, none⟩) := hhard 28 7 rfl rfl
      have e27 : a.eval (.tmp 27) = .string (str bs) := hhard 27 6 rfl rfl
      clear h0 h1 hhard hfr hou
      have hW := hbd.trans (hb.mono (by simp))
      refine late_store (x := .tmp 28) (y := .tmp 27) (w' := W.setCell ⟨bw, i, none⟩ (.string (str bs))) rfl (by rw [e28, e27]; exact run_storeS W _ _ _ ((HWF.out.kept (Kept.of hW []) (by simp)).cell hin) ((HWF.out.kept (Kept.of hW []) (by simp)).frozen i)) ⟨undef, rfl, W, hW, rfl⟩
    | q + 1, hj => cases hj
  case fin =>
    intro a w5 ha hP
    obtain ⟨W, hW, rfl⟩ := hP
    have hp := HAP.out
    have k1 : Kept [bw] wt (W.setCell ⟨bw, i, none⟩ (.string (str bs))) := (Kept.of hW _).setCell (by simp) _
    have HW2 := Lib.hid ((HWF.out.kept (Kept.of hW []) (by simp)).set hin (.string (str bs)))
    have HX := Lib.hid (HR.out.box)
    obtain ⟨w5, hw5⟩ : ∃ w5, W.setCell ⟨bw, i, none⟩ (.string (str bs)) = w5 := ⟨_, rfl⟩
    rw [hw5] at k1 HW2 ⊢
    have HBX := Lib.hid (k1.blk HR.out.box (by simp; exact fun h => hp.2.2.2.2.1 h.symm))
    have HKD := Lib.hid (HR.out.kept.kept k1 (by simp; exact hp.1))
    have HLD := Lib.hid (HR.out.loose.kept k1 (by simp; exact fun h => hp.2.2.1 h.symm))
    have HK1 := Lib.hid k1
    rw [HDN.out] at HBX HKD HLD
    have c2 : w5.cell? ⟨g, 2, none⟩ = some (.slice (some ⟨bl, 0, none⟩) n n) := HBX.out.cell 2
    have hcell := HLD.out.cell hin
    have hfz := HLD.out.frozen i
    have hi0' : (0 : Int) ≤ (i : Int) := by omega
    clear k1 hw5 hW HX HC1 HWF
    simp only [List.foldl_cons, List.foldl_nil] at ha
    generalize a.tmps.getD 21 undef = v21 at ha
    generalize a.tmps.getD 22 undef = v22 at ha
    generalize a.tmps.getD 23 undef = v23 at ha
    generalize a.tmps.getD 24 undef = v24 at ha
    generalize a.tmps.getD 25 undef = v25 at ha
    generalize a.tmps.getD 26 undef = v26 at ha
    generalize a.tmps.getD 27 undef = v27 at ha
    generalize a.tmps.getD 28 undef = v28 at ha
    simp only [Act.put, List.setIfInBounds_toArray, List.set_cons_succ, List.set_cons_zero] at ha
    subst ha
    go_wp2
    go_returns
    have k2 : Kept [bl] w5 (w5.setCell ⟨bl, i, none⟩ (.bool true)) := (Kept.refl _ _).setCell (by simp) _
    refine ⟨by rw [HE4.out]; rfl, ?_, (HK.out.mono (by simp)).trans ((HK1.out.mono (by simp)).trans (k2.mono (by simp)))⟩
    have hok := HOK.out
    rw [HE4.out] at hok ⊢
    have hq : ∀ j, (Plain.upd D1.wr i (some bs) j).isSome = Plain.upd (fun j => (D1.wr j).isSome) i true j := fun j => by
      unfold Plain.upd; split <;> rfl
    refine ⟨hok, ?_, ?_, ?_, ?_, HAP.out⟩
    · show Blk _ g #[.slice (some ⟨bk, 0, none⟩) D1.n D1.n, .slice (some ⟨bw, 0, none⟩) D1.n D1.n, .slice (some ⟨bl, 0, none⟩) D1.n D1.n, .bool D1.down, .int .i64 (D1.done : Int), .int .i64 (D1.left : Int), .bool D1.cut] 63
      rw [HDN.out]
      exact k2.blk HBX.out (by simp; exact fun h => hp.2.2.2.2.2 h.symm)
    · show RowN _ bk _ D1.n (fun i => .string (str (D1.kept i)))
      rw [HDN.out]
      exact HKD.out.kept k2 (by simp; exact hp.2.1)
    · refine ⟨fun j => if j = i then str bs else Wf j, ?_, fun j s hs => ?_⟩
      · show RowN _ bw _ D1.n _
        rw [HDN.out]
        exact (HW2.out.kept k2 (by simp; exact hp.2.2.1)).congr fun j _ => by by_cases e : j = i <;> simp [Plain.upd, e]
      · have hs : Plain.upd d.wr i (some bs) j = some s := hs
        show (if j = i then str bs else Wf j) = str s
        unfold Plain.upd at hs
        split at hs
        · rename_i e; rw [if_pos e]; injection hs with hs; rw [hs]
        · rename_i e; rw [if_neg e]; exact HWR.out j s (by rw [HE3.out]; exact hs)
    · show RowN _ bl _ D1.n (fun j => .bool (Plain.upd d.wr i (some bs) j).isSome)
      rw [HDN.out]
      exact (HLD.out.set hin (.bool true)).congr fun j _ => by rw [← HE3.out, hq]; unfold Plain.upd; split <;> rfl
end Go.Proofs.Ytldecmodhppjpaa

