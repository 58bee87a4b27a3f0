/-
  P13.2, RecCut: for all records, places and bytes the law returns true: a record's bytes that are cut are none's (ErrShort just if none is left); nor are these with a byte behind them. No condition; what the row lists is tied to the program's text.
-/
import Derived.Test.YtdfeccmcefcpbaaDoorL13T
namespace Go.Proofs.YtdfeccmcefcpbaaDoor.recCut
open Go.ChangeShapes Go.WideShapes Go.ChangeAt Go.RowKit
set_option maxRecDepth 100000

set_option maxHeartbeats 8000000 in
theorem walkN (w : World) (hH : Handle w) (q : Rc.R) (A : Option Addr) (n cap X Y : Nat) (hn : q.sp.length = n) (hl : n ≤ cap) (hm : cap ≤ maxLen) (hB : Lies w A (flat q.sp)) (hS : Fine q.sp) (hX : X ≤ 65535) (hY : Y ≤ 255) :
    Calls Tryd.prog 9 #[recV q A n cap, .int .u16 (X : Int), .int .u8 (Y : Int)] w fun e w' => e = .returned (.bool true) ∧ Below w.heap.size w w' := by
  obtain ⟨P, hP⟩ : ∃ P, Rc.rput q = P := ⟨_, rfl⟩
  obtain ⟨m, hPm⟩ : ∃ m, P.length = m := ⟨_, rfl⟩
  have hmx := Rc.rput_max q
  have HPOS := Lib.hid (Rc.rput_pos q)
  have HCUT := Lib.hid (fun (h : Rc.right q = true) => cut13 h)
  have HMORE := Lib.hid (fun (h : Rc.right q = true) => more13 h)
  have HPU := Lib.hid (fun (W : World) (h : Below w.heap.size w W) => put13_any q A n cap W P m hP hPm hn (by omega) (hB.below h) hS)
  rw [hP, hPm] at hmx HPOS
  rw [hP] at HCUT HMORE
  rw [hPm] at HCUT
  obtain ⟨RR, hRR⟩ : ∃ RR, Rc.right q = RR := ⟨_, rfl⟩
  rw [hRR] at HPOS HCUT HMORE
  have HG := Lib.hid (fun (W : World) (h : Below w.heap.size w W) => great_any A n cap q.sp W hn hl hm (hB.below h))
  obtain ⟨kind, id, cls, tick, pin, sp⟩ := q
  unfold recV recCs at *
  simp only at hn hB hS HPU HG
  have hbx := Blk.new w #[.int .i64 kind, .int .i64 id, .int .i64 cls, .int .i64 tick, .bool pin, .slice A n cap] 24
  have hB0 : Below w.heap.size w (w.alloc (.cells #[.int .i64 kind, .int .i64 id, .int .i64 cls, .int .i64 tick, .bool pin, .slice A n cap] 24)) := (Below.refl _ _).alloc (Nat.le_refl _) _
  have HBX := Lib.hid hbx
  have HB0 := Lib.hid hB0
  have HH0 := Lib.hid (up13_any _ (handle13_below hH hB0))
  have HH := Lib.hid (fun (W : World) (h : Below w.heap.size w W) => handle13_below hH h)
  have HPM := Lib.hid hPm
  clear hbx hB0 hRR hP hPm hB hS hn hH hl hm
  go_enter Tryd.func9, Tryd.ntmps9
  go_wp2_with fail
  refine HH0.out.mono ?_
  rintro e w1 ⟨rfl, hb1⟩
  have HB1 := Lib.hid (HB0.out.trans (hb1.mono HB0.out.size))
  have HX1 := Lib.hid (show Blk w1 w.heap.size _ _ from (hb1.block _ HBX.out.lt).trans HBX.out)
  obtain ⟨x0, x1, x2, x3, x4, x5⟩ := six13 HX1.out
  clear hb1
  go_wp2_with fail
  refine (HPU.out w1 HB1.out).mono ?_
  rintro e w2 ⟨A4, cap4, rfl, hl4, hm4, hL4, hb2⟩
  have HB2 := Lib.hid (HB1.out.trans (hb2.mono HB1.out.size))
  have HX2 := Lib.hid (show Blk w2 w.heap.size _ _ from (hb2.block _ HX1.out.lt).trans HX1.out)
  have HL2 := Lib.hid hL4
  clear hb2 hL4 x0 x1 x2 x3 x4 x5
  obtain ⟨x0, x1, x2, x3, x4, x5⟩ := six13 HX2.out
  go_wp2_with fail
  refine (HG.out w2 HB2.out).mono ?_
  rintro e w3 ⟨g, rfl, -, hb3⟩
  have HB3 := Lib.hid (HB2.out.trans (hb3.mono HB2.out.size))
  have HL4 := Lib.hid (HL2.out.below hb3)
  clear hb3 x0 x1 x2 x3 x4 x5
  rcases g with _ | _
  rotate_left
  · go_wp2
    go_ret
    exact ⟨rfl, HB3.out⟩
  by_cases ht0 : m = 0
  · subst ht0
    go_wp2
    go_ret
    exact ⟨rfl, HB3.out⟩
  have hTs := HPOS.out.1 (by omega)
  obtain ⟨k, hk⟩ : ∃ k, X % m = k := ⟨_, rfl⟩
  have hkm : k < m := by rw [← hk]; exact Nat.mod_lt _ (by omega)
  have hki : (X : Int) % (m : Int) = (k : Int) := by omega
  have HC1 := Lib.hid (HCUT.out hTs k hkm)
  have hne : ((m : Int) == 0) = false := beq_eq_false_iff_ne.2 (by omega)
  have hm4' := hm4
  unfold maxLen at hm4'
  have hsh := fun W => slice_hi13 A4 m cap4 k W (by omega) hl4
  obtain ⟨C, hC⟩ : ∃ C : Nat, (if k = 0 then 11 else 12) = C := ⟨_, rfl⟩
  rw [hC] at HC1
  have HG1 := Lib.hid (get_code13 A4 k cap4 (P.take k) w3 C (HH.out _ HB3.out) (by rw [List.length_take, HPM.out]; omega) (by omega) hm4 (by omega) (by rw [← cells_take]; exact HL4.out.take k) HC1.out)
  have HCC := Lib.hid hC
  clear HC1 hk hC HCUT HPOS HL2
  go_wp2_with fail
  refine HG1.out.mono ?_
  rintro e w5 ⟨v0, v1, v2, v3, v4, A5, n5, c5, rfl, d5⟩
  have HB5 := Lib.hid (HB3.out.trans (d5.mono HB3.out.size))
  have HL5 := Lib.hid ((HL4.out.below d5).below ((Below.refl _ _).alloc (Nat.le_refl _) (.cells #[.int .i64 v0, .int .i64 v1, .int .i64 v2, .int .i64 v3, .bool v4, .slice A5 n5 c5] 24)))
  obtain ⟨i0, hi, hz0, hz1, hz2⟩ := info_parts infoU8
  have HCT := Lib.hid (show (cells P).length = m by rw [cells_length, HPM.out])
  clear HG1 HL4 d5
  go_wp2_with (at_builtin; refine wpList_app rfl _ _ 25 rfl w5.heap.size 5 i0 (.int .u8 0) Tryd.underlying25 hi hz0 hz1 hz2 rfl (.slice (some ⟨w5.heap.size + 1, 0, none⟩) 0 0) 0 [] rfl ?a1 A4 m cap4 (cells P) rfl HCT.out ?a3 (cells_one P) (by omega) ?a5 ?a6)
  case a1 =>
    have := World.ownsRow_lit (base := w5.heap.size) (e := 5) (size := 1) (w5.alloc (.cells #[.int .i64 v0, .int .i64 v1, .int .i64 v2, .int .i64 v3, .bool v4, .slice A5 n5 c5] 24)) #[] 0 (by simp) (by unfold maxLen; omega) rfl
    simpa using this
  case a3 => exact HL5.out.keep (by simp) fun p hp => World.cell?_alloc_lt _ _ p hp
  case a5 => simp; omega
  case a6 =>
    intro v6 w6 ho6 hg6 _
    have k6 : Below w5.heap.size w5 w6 := (((Below.refl _ _).alloc (Nat.le_refl _) _).alloc (by simp) _).grown hg6 (by simp; omega) (fun g hg => by simp [Value.ownBlock] at hg; omega)
    have HO6 := Lib.hid (ho6.alloc (.cells #[.int .u8 (Y : Int)] 5))
    have hs6 := k6.size
    have HY6 := Lib.hid (lies_made w6 w6.heap.size [.int .u8 (Y : Int)] #[.int .u8 (Y : Int)] 5 rfl rfl)
    have K6 := Lib.hid k6
    clear ho6 hg6 k6
    go_wp2_with (at_builtin; refine wpList_app rfl _ _ 25 rfl w5.heap.size 5 i0 (.int .u8 0) Tryd.underlying25 hi hz0 hz1 hz2 rfl v6 m (cells P) rfl HO6.out (some ⟨w6.heap.size, 0, none⟩) 1 1 [.int .u8 (Y : Int)] rfl rfl HY6.out (by simp [Value.oneCell']) (by omega) (by simp; omega) ?_)
    intro v7 w7 ho7 hg7 _
    have k7 : Below w5.heap.size w5 w7 := (K6.out.alloc K6.out.size _).grown hg7 (by simp; omega) (fun g hg => (HO6.out.lt g hg).1)
    have HB7 := Lib.hid (HB5.out.trans (k7.mono HB5.out.size))
    have eT : cells P ++ [.int .u8 (Y : Int)] = cells (P ++ [UInt8.ofNat Y]) := by
      rw [cells_append]
      have : (UInt8.ofNat Y).toNat = Y := by simp [UInt8.toNat_ofNat']; omega
      simp [cells, this]
    rw [eT] at ho7
    obtain ⟨A7, cap7, rfl, hl7, hm7, -, hL7⟩ := own_form ho7
    have HG2 := Lib.hid (get_code13 A7 (m + 1) cap7 (P ++ [UInt8.ofNat Y]) w7 12 (HH.out _ HB7.out) (by rw [List.length_append, HPM.out]; rfl) hl7 hm7 (by omega) hL7 (HMORE.out hTs (UInt8.ofNat Y)))
    clear ho7 hg7 eT hL7 hTs HO6 HY6 k7
    go_wp2_with fail
    refine HG2.out.mono ?_
    rintro e w8 ⟨u0, u1, u2, u3, u4, A8, n8, c8, rfl, d8⟩
    have HB8 := Lib.hid ((HB7.out.trans (d8.mono HB7.out.size)).alloc (HB7.out.trans (d8.mono HB7.out.size)).size (.cells #[.int .i64 u0, .int .i64 u1, .int .i64 u2, .int .i64 u3, .bool u4, .slice A8 n8 c8] 24))
    clear d8
    by_cases hk0 : k = 0
    · subst hk0
      obtain rfl : C = 11 := HCC.out.symm
      go_wp2
      go_ret
      exact ⟨rfl, HB8.out⟩
    · obtain rfl : C = 12 := by have := HCC.out; rw [if_neg hk0] at this; exact this.symm
      have dk : ((k : Int) == 0) = false := by rw [beq_eq_false_iff_ne]; omega
      go_wp2
      go_ret
      exact ⟨rfl, HB8.out⟩

theorem walk (w : World) (hH : Handle w) (q : Rc.R) (A : Option Addr) (cap : Nat) (hl : q.sp.length ≤ cap) (hm : cap ≤ maxLen) (hB : Lies w A (flat q.sp)) (hS : Fine q.sp) (x : Int) (hx : 0 ≤ x ∧ x ≤ 65535) (y : Int) (hy : 0 ≤ y ∧ y ≤ 255) :
    Calls Tryd.prog 9 #[recV q A q.sp.length cap, .int .u16 x, .int .u8 y] w fun e w' => e = .returned (.bool true) ∧ Below w.heap.size w w' := by
  obtain ⟨X, rfl⟩ := Int.eq_ofNat_of_zero_le hx.1
  obtain ⟨Y, rfl⟩ := Int.eq_ofNat_of_zero_le hy.1
  exact walkN w hH q A q.sp.length cap X Y rfl hl hm hB hS (by omega) (by omega)


set_option maxRecDepth 100000 in
theorem lifted (os : Os) (started : os.Started) (H : Type) (enc : TypeId × Value → H) :
    ReturnsInHanded {} Tryd.checked os 9 .any (fun w args => (Rows.recCutSpec.pre enc Tryd.prog Tryd.f9 [] false w args ∧ laidMetH Tryd.prog laidHere w) ∧ sizedMet enc Tryd.prog Tryd.f9 (OpenSpec.ofChange Rows.recCutSpec) false w args) (Rows.recCutSpec.post enc Tryd.prog Tryd.f9 false true false false) := by
  refine returnsInHanded_of_change_and (C := Tryd.checked) (X := fun w _ => laidMetH Tryd.prog laidHere w) (fun _ _ _ hh h => h.of_heap hh) own started (by kernel_rfl) Tryd.func9
    (ChangeSpec.witness_at (enc := enc) (C := Tryd.checked) (os := os) (X := fun w _ => laidMetH Tryd.prog laidHere w) false (laidWorld os) #[.agg #[.int .i64 0, .int .i64 0, .int .i64 0, .int .i64 0, .bool false, .slice none 0 0], .int .u16 0, .int .u8 0] 8 rfl (by kernel_rfl) (by kernel_rfl) (by kernel_rfl) (by kernel_rfl) (by kernel_rfl) (laidWorld_met os _)) ?_
  intro W base args ds gs before hval0 hW _ _ hL _
  have hval : ∀ (j : Nat) t v, Tryd.f9.params[j]? = some t → args[j]? = some v → Value.okWide Tryd.prog W .any base t v := hval0
  have hfin := fun W' => law_post (enc := enc) (P := Tryd.prog) (f := Tryd.f9) (s := Rows.recCutSpec) (tb := 4) (W := W) (W' := W') (args := args) (ds := ds) (gs := gs) (before := before) laidOut rfl (by kernel_rfl) Tryd.underlying4 (by kernel_rfl) (fun xs h => by rw [Tryd.params9] at h; match xs, h with | [_, _, _], _ => rfl) hW
  have hlt : ∀ x ∈ before, x.block < W.heap.size := fun x hx => hW.lt x hx
  obtain ⟨p, q, hA0, hV, rfl, hfz, hnd⟩ := hW
  have hA : DataW.TrodAll enc Tryd.prog W 0 (fun _ => true) true Tryd.f9.params.toList args.toList ds p := hA0
  rw [Tryd.params9] at hA hval
  obtain ⟨v0, vs0, d0, ds0, p0, q0, hargs, rfl, rfl, h0, r0⟩ := trodAll_cons hA
  obtain ⟨v1, vs1, d1, ds1, p1, q1, rfl, rfl, rfl, h1, r1⟩ := trodAll_cons r0
  obtain ⟨v2, vs2, d2, ds2, p2, q2, rfl, rfl, rfl, h2, r2⟩ := trodAll_cons r1
  obtain ⟨rfl, rfl, rfl⟩ := trodAll_nil r2
  obtain rfl : args = #[v0, v1, v2] := by cases args; simp_all
  obtain ⟨q0, A0, cap0, rfl, hl0, hm0, hB0, hS0⟩ := open_rec (hval 0 24 v0 rfl rfl) h0 (fun x hx => hlt x (by simp [hx]))
  obtain ⟨a1, rfl, rfl, rfl, w1⟩ := open_int Tryd.underlying43 (hval 1 43 v1 rfl rfl) h1
  obtain ⟨a2, rfl, rfl, rfl, w2⟩ := open_int Tryd.underlying5 (hval 2 5 v2 rfl rfl) h2
  refine (walk W (of_laid hL) q0 A0 cap0 hl0 hm0 hB0 hS0 a1 (bounds_u16 w1) a2 (bounds_u8 w2)).mono fun e W' ⟨he, hg⟩ => ?_
  subst he
  exact ⟨_, rfl, hfin W' hg⟩

theorem proved : Rows.RecCutSaid :=
  OpenClaim.holds_of_wide 9 Tryd.f9 rfl rfl rfl rfl rfl rfl rfl ⟨rfl, rfl, rfl, rfl, rfl⟩ rfl rfl rfl rfl rfl (by kernel_rfl) Tryd.func9 (by kernel_rfl)
    (of_decide_eq_true (by kernel_rfl)) (by unfold Func.isWrapper; first | (rw [if_pos (by decide +kernel)]; kernel_rfl) | (rw [if_neg (by decide +kernel)]; exact ⟨rfl, rfl⟩))
    (fun os started H enc _ => lifted os started H enc)

set_option maxRecDepth 100000 in
theorem card : Rows.RecCutCardSaid :=
  Claim7.holds_tied_plain_at .later [] laidKindsHere true _ true
    proved (fun _ h => by cases h) (by kernel_rfl) (fun _ h => by cases h) recCut_row_tie rfl ⟨rfl, rfl⟩ (by kernel_rfl) rfl
    (fun f fn hf hfn => by
      obtain rfl : f = 9 := Option.some.inj ((show Tryd.prog.funcNamed "turntable/turntablelaw13.RecCut" = some 9 by kernel_rfl).symm.trans hf) |>.symm
      obtain rfl : fn = Tryd.f9 := (Option.some.inj (Tryd.func9.symm.trans hfn)).symm
      exact ⟨by kernel_rfl, fun j t ht => by
        rw [Tryd.params9] at ht
        have hm : t ∈ [24, 43, 5] := Array.mem_def.1 (Array.mem_of_getElem? ht)
        have hall : ([24, 43, 5].all fun u => !Tryd.prog.wantsStandIn u) = true := by kernel_rfl
        exact (show Tryd.prog.wantsStandIn t = false by simpa using List.all_eq_true.1 hall t hm)⟩)
    (by kernel_rfl)
#print axioms card
end Go.Proofs.YtdfeccmcefcpbaaDoor.recCut
