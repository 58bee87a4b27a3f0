/-
  P3.3, SpanCut: for every span and every place the law returns true: bytes of a right one that are cut are ErrShort. No condition; what the row lists is tied to the program's text.
-/
import Derived.Test.YtiipcnldedjkdaaDoorSpanO
namespace Go.Proofs.YtiipcnldedjkdaaDoor.spanCut
open Go.ChangeShapes Go.WideShapes Go.ChangeAt Go.RowKit
set_option maxRecDepth 100000

theorem agg_eta (x : Plain.Sp) : x = ⟨x.t, x.i, x.p, x.s, x.d, x.sv, x.nm⟩ := rfl

set_option maxHeartbeats 4000000 in
theorem walk (w : World) (hh : Handle w) (x : Plain.Sp) (hv : x.sv.length ≤ maxLen) (hn : x.nm.length ≤ maxLen) (c : Int) (hc : 0 ≤ c ∧ c ≤ 255) :
    Calls Tryd.prog 5 #[.agg #[.int .i64 x.t, .int .i64 x.i, .int .i64 x.p, .int .i64 x.s, .int .i64 x.d, .string (str x.sv), .string (str x.nm)], .int .u8 c] w fun e w' => e = .returned (.bool true) ∧ Below w.heap.size w w' := by
  obtain ⟨m, rfl⟩ := Int.eq_ofNat_of_zero_le hc.1
  have hm : m ≤ 255 := by omega
  clear hc
  have hP := fun u : World => spanPut_any none 0 0 [] x u rfl (by omega) Lies.nil hv hn
  rw [← str_size x.sv] at hv
  rw [← str_size x.nm] at hn
  have hpos := x.put_pos_iff
  have hmax := x.put_max
  have hcut := x.get_cut
  have hor : x.right = true → x.outp = x.bytes := fun h => by unfold Plain.Sp.outp; rw [if_pos h]
  simp only [List.nil_append] at hP
  obtain ⟨xt, xi, xp, xs, xd, xv, xn⟩ := x
  simp only at *
  generalize Plain.Sp.outp { t := xt, i := xi, p := xp, s := xs, d := xd, sv := xv, nm := xn } = out at *
  generalize Plain.Sp.bytes { t := xt, i := xi, p := xp, s := xs, d := xd, sv := xv, nm := xn } = by_ at *
  generalize Plain.Sp.right { t := xt, i := xi, p := xp, s := xs, d := xd, sv := xv, nm := xn } = R at *
  generalize str xv = XV at *
  generalize str xn = XN at *
  have HH := Lib.hid hh
  have HP := Lib.hid hP
  have HPOS := Lib.hid hpos
  have HCUT := Lib.hid hcut
  have HOR := Lib.hid hor
  clear hP hh hpos hcut hor
  have bx := Blk.new w #[.int .i64 xt, .int .i64 xi, .int .i64 xp, .int .i64 xs, .int .i64 xd, .string XV, .string XN] 23
  have k0 : Kept [] w (w.alloc (.cells #[.int .i64 xt, .int .i64 xi, .int .i64 xp, .int .i64 xs, .int .i64 xd, .string XV, .string XN] 23)) := (Kept.refl _ _).alloc _
  have HBX := Lib.hid bx
  have HK := Lib.hid k0
  clear bx k0
  go_enter Tryd.func5, Tryd.ntmps5
  go_wp2_with fail
  generalize w.alloc (.cells #[.int .i64 xt, .int .i64 xi, .int .i64 xp, .int .i64 xs, .int .i64 xd, .string XV, .string XN] 23) = V at *
  have CX := Lib.hid (fun (u : World) (h : Below V.heap.size V u) => ((Kept.of h []).blk HBX.out (by simp)).seven)
  have HV := Lib.hid (show ∀ u, Below V.heap.size V u → Below w.heap.size w u from fun u h => HK.out.to.trans (h.mono HK.out.to.size))
  refine (head_any V (HH.out.below HH.out.lt HK.out.to)).mono ?_
  rintro e w1 ⟨rfl, c1⟩
  obtain ⟨x0, x1, x2, x3, x4, x5, x6⟩ := CX.out w1 c1
  go_wp2_with fail
  clear x0 x1 x2 x3 x4 x5 x6
  refine (HP.out w1).mono ?_
  rintro e w2 ⟨v, rfl, ho, d2⟩
  have c2 := c1.trans (d2.mono c1.size)
  obtain ⟨A, cap, rfl, hlc, hcm, -, hL⟩ := own_form ho
  clear ho
  obtain ⟨x0, x1, x2, x3, x4, x5, x6⟩ := CX.out w2 c2
  go_wp2_with fail
  clear x0 x1 x2 x3 x4 x5 x6
  refine (great_any xt xi xp xs xd XV XN w2 hv hn).mono ?_
  rintro e w3 ⟨⟨g, rfl⟩, d3⟩
  have c3 := c2.trans (d3.mono c2.size)
  have HL := Lib.hid (hL.below d3)
  clear hL
  rcases g with _ | _
  · by_cases h0 : out.length = 0
    · have h0' : ((out.length : Int) == 0) = true := by rw [h0]; rfl
      go_wp2
      go_ret
      exact ⟨rfl, HV.out _ c3⟩
    · have h0' : ((out.length : Int) == 0) = false := beq_eq_false_iff_ne.2 (by omega)
      have hR := HPOS.out.1 (by omega)
      have hO := HOR.out hR
      have hk := Nat.mod_lt m (show 0 < out.length by omega)
      have HC := Lib.hid (show Plain.Sp.rd (out.take (m % out.length)) = (Plain.Sp.zero, 0, 11) by rw [hO]; rw [hO] at hk; exact HCUT.out _ hR hk)
      have hlt := (HL.out.take (m % out.length))
      rw [cells_take] at hlt
      have hG := spanGet_any A (m % out.length) cap (out.take (m % out.length)) w3 (HH.out.below HH.out.lt (HV.out _ c3)) (by rw [List.length_take]; omega) (by omega) hcm (by omega) hlt
      rw [HC.out] at hG
      have HG := Lib.hid hG
      clear hG hO hR hlt
      generalize hL0 : out.length = L at *
      clear hL0
      go_wp2_with fail
      refine HG.out.mono ?_
      rintro e w4 ⟨rfl, d4⟩
      have c4 := c3.trans (d4.mono c3.size)
      simp only [Plain.Sp.zero, str]
      go_wp2
      go_ret
      exact ⟨rfl, (HV.out _ c4).alloc (HV.out _ c4).size _⟩
  · go_wp2
    go_ret
    exact ⟨rfl, HV.out _ c3⟩
set_option maxRecDepth 100000 in
theorem lifted (os : Os) (started : os.Started) (H : Type) (enc : TypeId × Value → H) :
    ReturnsInHanded {} Tryd.checked os 5 .any (fun w args => (Rows.spanCutSpec.pre enc Tryd.prog Tryd.f5 [] false w args ∧ laidMetH Tryd.prog laidHere w) ∧ sizedMet enc Tryd.prog Tryd.f5 (OpenSpec.ofChange Rows.spanCutSpec) false w args) (Rows.spanCutSpec.post enc Tryd.prog Tryd.f5 false true false false) := by
  refine returnsInHanded_of_change_and (C := Tryd.checked) (X := fun w _ => laidMetH Tryd.prog laidHere w) (fun _ _ _ hh h => h.of_heap hh) own started (by kernel_rfl) Tryd.func5
    (ChangeSpec.witness_at (enc := enc) (C := Tryd.checked) (os := os) (X := fun w _ => laidMetH Tryd.prog laidHere w) false (laidWorld os) #[.agg #[.int .i64 0, .int .i64 0, .int .i64 0, .int .i64 0, .int .i64 0, .string .empty, .string .empty], .int .u8 0] 8 rfl (by kernel_rfl) (by kernel_rfl) (by kernel_rfl) (by kernel_rfl) (by kernel_rfl) (laidWorld_met os _)) ?_
  intro W base args ds gs before hval0 hW _ _ hL _
  have hval : ∀ (j : Nat) t v, Tryd.f5.params[j]? = some t → args[j]? = some v → Value.okWide Tryd.prog W .any base t v := hval0
  have hfin := fun W' => law_post (enc := enc) (P := Tryd.prog) (f := Tryd.f5) (s := Rows.spanCutSpec) (tb := 4) (W := W) (W' := W') (args := args) (ds := ds) (gs := gs) (before := before) laidOut rfl (by kernel_rfl) Tryd.underlying4 (by kernel_rfl) (fun xs h => by rw [Tryd.params5] at h; match xs, h with | [_, _], _ => rfl) hW
  obtain ⟨p, q, hA0, hV, rfl, hfz, hnd⟩ := hW
  have hA : DataW.TrodAll enc Tryd.prog W 0 (fun _ => true) true Tryd.f5.params.toList args.toList ds p := hA0
  rw [Tryd.params5] at hA hval
  obtain ⟨v0, vs0, d0, ds0, p0, q0, hargs, rfl, rfl, h0, r0⟩ := trodAll_cons hA
  obtain ⟨v1, vs1, d1, ds1, p1, q1, rfl, rfl, rfl, h1, r1⟩ := trodAll_cons r0
  obtain ⟨rfl, rfl, rfl⟩ := trodAll_nil r1
  obtain rfl : args = #[v0, v1] := by cases args; simp_all
  obtain ⟨x0, rfl, hs0, hn0⟩ := open_span (hval 0 23 v0 rfl rfl) h0
  obtain ⟨a1, rfl, rfl, rfl, w1⟩ := open_int Tryd.underlying5 (hval 1 5 v1 rfl rfl) h1
  refine (walk W (of_laid hL) x0 hs0 hn0 a1 (bounds_u8 w1)).mono fun e W' ⟨he, hg⟩ => ?_
  subst he
  exact ⟨_, rfl, hfin W' hg⟩

theorem proved : Rows.SpanCutSaid :=
  OpenClaim.holds_of_wide 5 Tryd.f5 rfl rfl rfl rfl rfl rfl rfl ⟨rfl, rfl, rfl, rfl, rfl⟩ rfl rfl rfl rfl rfl (by kernel_rfl) Tryd.func5 (by kernel_rfl)
    (of_decide_eq_true (by kernel_rfl)) (by unfold Func.isWrapper; first | (rw [if_pos (by decide +kernel)]; kernel_rfl) | (rw [if_neg (by decide +kernel)]; exact ⟨rfl, rfl⟩))
    (fun os started H enc _ => lifted os started H enc)

set_option maxRecDepth 100000 in
theorem card : Rows.SpanCutCardSaid :=
  Claim7.holds_tied_plain_at .later [] laidKindsHere true _ true
    proved (fun _ h => by cases h) (by kernel_rfl) (fun _ h => by cases h) spanCut_row_tie rfl ⟨rfl, rfl⟩ (by kernel_rfl) rfl
    (fun f fn hf hfn => by
      obtain rfl : f = 5 := Option.some.inj ((show Tryd.prog.funcNamed "turntable/turntablelaw03.SpanCut" = some 5 by kernel_rfl).symm.trans hf) |>.symm
      obtain rfl : fn = Tryd.f5 := (Option.some.inj (Tryd.func5.symm.trans hfn)).symm
      exact ⟨by kernel_rfl, fun j t ht => by
        rw [Tryd.params5] at ht
        have hm : t ∈ [23, 5] := by simpa using Array.mem_of_getElem? ht
        have hall : ([23, 5].all fun u => !Tryd.prog.wantsStandIn u) = true := by kernel_rfl
        exact (show Tryd.prog.wantsStandIn t = false by simpa using List.all_eq_true.1 hall t hm)⟩)
    (by kernel_rfl)
#print axioms card
end Go.Proofs.YtiipcnldedjkdaaDoor.spanCut
