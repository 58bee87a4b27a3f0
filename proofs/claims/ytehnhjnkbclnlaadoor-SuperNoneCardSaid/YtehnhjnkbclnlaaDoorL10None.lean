/-
  P10.1, SuperNone: for all tables the law returns true: with both sectors lost there is no table, and what is in another sector is none. No condition but that the program's table starts as its text lays it.
-/
import Derived.Test.YtehnhjnkbclnlaaDoorHd10
import Derived.Test.YtehnhjnkbclnlaaDoorSuA
import Derived.Test.YtehnhjnkbclnlaaDoorLaid2
namespace Go.Proofs.YtehnhjnkbclnlaaDoor.superNone
open Go.ChangeShapes Go.WideShapes Go.ChangeAt Go.RowKit

theorem none_facts {t : Tb.T} (hr : Tb.right t = true) {d1 d2 d3 d4 d5 : Plain.Dv} {k : Nat} (hk : Su.slot t.gen = k) (h1 : (Su.save (Plain.Dv.new 4) t).1 = d1) (h2 : (d1.write 0 (Plain.full 0)).1 = d2) (h3 : (d2.write 1 (Plain.full 0)).1 = d3) (h4 : (d3.write 2 (Tb.put t)).1 = d4) (h5 : (d4.write (1 - (k : Int)) (Tb.put t)).1 = d5) :
    Su.load d1 = (t, true, 0) ∧ Su.load d5 = (Tb.T.zero, false, 0) ∧ d1.done ≤ 3 ∧ d2.done ≤ 4 ∧ d3.done ≤ 5 ∧ d4.done ≤ 6 := by
  have hk2 := Su.slot_lt t.gen
  have f0 := Su.new_free 4 (by omega) (by omega)
  have n0 : 2 ≤ (Plain.Dv.new 4).n := by show 2 ≤ 4; omega
  have f1 := Su.save_stays f0 n0 hr
  have s1 := Su.save_sec f0 n0 hr
  have m1 := Su.save_n (Plain.Dv.new 4) t
  have k1 := Su.save_done (Plain.Dv.new 4) t
  have l1 := Su.load_saved f0 n0 hr (by rw [Su.new_sec, Su.full_wrong])
  rw [h1] at f1 s1 m1 k1 l1
  have m1 : d1.n = 4 := m1
  have f2 := f1.write_free 0 (Plain.full 0) (by omega) (Plain.full_length 0)
  have s2 := Plain.sec_write f1 0 (Plain.full 0) (by omega) (Plain.full_length 0)
  have m2 := d1.write_n 0 (Plain.full 0)
  have k2 := d1.write_done 0 (Plain.full 0)
  have h2' : (d1.write ((0 : Nat) : Int) (Plain.full 0)).1 = d2 := h2
  rw [h2'] at f2 s2
  rw [h2] at m2 k2
  have f3 := f2.write_free 1 (Plain.full 0) (by omega) (Plain.full_length 0)
  have s3 := Plain.sec_write f2 1 (Plain.full 0) (by omega) (Plain.full_length 0)
  have m3 := d2.write_n 1 (Plain.full 0)
  have k3 := d2.write_done 1 (Plain.full 0)
  have h3' : (d2.write ((1 : Nat) : Int) (Plain.full 0)).1 = d3 := h3
  rw [h3'] at f3 s3
  rw [h3] at m3 k3
  have f4 := f3.write_free 2 (Tb.put t) (by omega) (Su.put_64 hr)
  have s4 := Plain.sec_write f3 2 (Tb.put t) (by omega) (Su.put_64 hr)
  have m4 := d3.write_n 2 (Tb.put t)
  have k4 := d3.write_done 2 (Tb.put t)
  have h4' : (d3.write ((2 : Nat) : Int) (Tb.put t)).1 = d4 := h4
  rw [h4'] at f4 s4
  rw [h4] at m4 k4
  have e5 : (1 : Int) - (k : Int) = ((1 - k : Nat) : Int) := by omega
  rw [e5] at h5
  have f5 := f4.write_free (1 - k) (Tb.put t) (by omega) (Su.put_64 hr)
  have s5 := Plain.sec_write f4 (1 - k) (Tb.put t) (by omega) (Su.put_64 hr)
  have m5 := d4.write_n ((1 - k : Nat) : Int) (Tb.put t)
  rw [h5] at f5 s5 m5
  have z : (Plain.Dv.new 4).done = 0 := rfl
  refine ⟨l1, ?_, by omega, by omega, by omega, by omega⟩
  refine Su.none_left hr f5.down (by omega) ?_ ?_
  · rw [hk, s5, if_neg (by omega), s4, if_neg (by omega), s3]
    split
    · rfl
    · rw [s2, if_pos (by omega)]
  · rw [hk, s5, if_pos rfl]

set_option maxHeartbeats 4000000 in
set_option maxRecDepth 100000 in
theorem walkN (S : SuperOk) (w : World) (hT : Tab w) (x o : Int) (A : Option Addr) (cap n : Nat) (xs : List Tb.Ext) (hn : xs.length = n) (hc : n ≤ cap) (hA : Lies w A (flatX xs)) :
    Calls Tryd.prog 6 #[tabV x o A n cap] w fun e w' => e = .returned (.bool true) ∧ Below w.heap.size w w' := by
  have HX0 := Lib.hid (Blk.new w #[.int .i64 x, .int .i64 o, .slice A n cap] 24)
  have B0 := Lib.hid ((Below.refl w.heap.size w).alloc (Nat.le_refl _) (.cells #[.int .i64 x, .int .i64 o, .slice A n cap] 24))
  have HA0 := Lib.hid (hA.below B0.out)
  have HT0 := Lib.hid (hT.below B0.out (Nat.le_refl _))
  have HQ0 := Lib.hid (HX0.out.lt)
  have HN := Lib.hid hn
  obtain ⟨L, hL⟩ : ∃ L, (Tb.put ⟨x, o, xs⟩).length = L := ⟨_, rfl⟩
  have HPL := Lib.hid hL
  have hL2 := hL
  rw [Tb.put_length] at hL2
  clear hA hT hn hL
  go_enter Tryd.func6, Tryd.ntmps6
  go_wp2_with fail
  generalize w.alloc (.cells #[.int .i64 x, .int .i64 o, .slice A n cap] 24) = w0 at *
  refine (head10_any S w0 HT0.out).mono ?_
  rintro e w1 ⟨rfl, b1⟩
  have HX1 := Lib.hid (HX0.out.below b1 (Nat.le_refl _))
  have HA1 := Lib.hid (HA0.out.below b1)
  have HT1 := Lib.hid (HT0.out.below b1 (Nat.le_refl _))
  have B1 := Lib.hid (B0.out.trans (b1.mono B0.out.size))
  have HQ := Lib.hid (show w.heap.size < w1.heap.size by have := HQ0.out; have := b1.size; omega)
  clear b1
  go_wp2_with fail
  refine (fr_new 4 w1 (by omega) (by omega) HT1.out).mono ?_
  rintro e w2 ⟨rfl, f2, b2⟩
  have F2 := Lib.hid f2
  have O2 := Lib.hid (Old.of HA1.out (Nat.le_refl _) b2)
  have X2 := Lib.hid (HX1.out.below b2 (Nat.le_refl _))
  have B2 := Lib.hid (B1.out.trans (b2.mono B1.out.size))
  clear f2 b2
  generalize w1.heap.size = q at *
  obtain ⟨z0, z1, z2⟩ := X2.out.three
  go_wp2_with fail
  refine (rput_is x o A cap n xs L w2 HN.out O2.out.lies HPL.out).mono ?_
  rintro e w3 ⟨A5, c5, rfl, hc5, hl5, hf5, b3⟩
  have F3 := Lib.hid (F2.out.below b3)
  have O3 := Lib.hid (O2.out.below b3)
  have X3 := Lib.hid (X2.out.below b3 (Nat.le_refl _))
  have P3 := Lib.hid (Old.new hl5 hf5 F2.out.dev.lt)
  have B3 := Lib.hid (B2.out.trans (b3.mono B2.out.size))
  clear hl5 hf5 b3 z0 z1 z2
  by_cases hr : Tb.right ⟨x, o, xs⟩ = true
  rotate_left
  · rw [if_neg hr] at hL2
    subst hL2
    clear hr
    go_wp2
    go_ret
    exact ⟨rfl, B3.out⟩
  rw [if_pos hr] at hL2
  subst hL2
  obtain ⟨k, hk⟩ : ∃ k, Su.slot x = k := ⟨_, rfl⟩
  obtain ⟨d1, h1⟩ : ∃ d1, (Su.save (Plain.Dv.new 4) ⟨x, o, xs⟩).1 = d1 := ⟨_, rfl⟩
  obtain ⟨d2, h2⟩ : ∃ d2, (d1.write 0 (Plain.full 0)).1 = d2 := ⟨_, rfl⟩
  obtain ⟨d3, h3⟩ : ∃ d3, (d2.write 1 (Plain.full 0)).1 = d3 := ⟨_, rfl⟩
  obtain ⟨d4, h4⟩ : ∃ d4, (d3.write 2 (Tb.put ⟨x, o, xs⟩)).1 = d4 := ⟨_, rfl⟩
  obtain ⟨d5, h5⟩ : ∃ d5, (d4.write (1 - (k : Int)) (Tb.put ⟨x, o, xs⟩)).1 = d5 := ⟨_, rfl⟩
  obtain ⟨l1, l5, n1, n2, n3, n4⟩ := none_facts hr (show Su.slot (⟨x, o, xs⟩ : Tb.T).gen = k from hk) h1 h2 h3 h4 h5
  have hR := Tb.right_iff.1 hr
  have hg1 : 1 ≤ x := hR.g1
  have hg2 : x ≤ 2147483648 := hR.g2
  have HSV := Lib.hid (S.save q (Plain.Dv.new 4) x o A cap n xs w3 HN.out hc O3.out (by show (0 : Nat) < _; omega) F3.out)
  have HLD := Lib.hid (fun (W : World) (hF : Fr W q d1) => S.load q d1 x o xs n true 0 W hF l1 HN.out)
  have HW0 := Lib.hid (fun (b : Nat) (W : World) (hO : Old W q (some ⟨b, 0, none⟩) (cells (Plain.full 0))) (hF : Fr W q d1) => fr_write q d1 0 (some ⟨b, 0, none⟩) 64 64 (Plain.full 0) W (Plain.full_length 0) hO (by omega) hF)
  have HW1 := Lib.hid (fun (b : Nat) (W : World) (hO : Old W q (some ⟨b, 0, none⟩) (cells (Plain.full 0))) (hF : Fr W q d2) => fr_write q d2 1 (some ⟨b, 0, none⟩) 64 64 (Plain.full 0) W (Plain.full_length 0) hO (by omega) hF)
  have HW2 := Lib.hid (fun (W : World) (hO : Old W q A5 (cells (Tb.put ⟨x, o, xs⟩))) (hF : Fr W q d3) => fr_write q d3 2 A5 c5 64 (Tb.put ⟨x, o, xs⟩) W HPL.out hO (by omega) hF)
  have HW3 := Lib.hid (fun (W : World) (hO : Old W q A5 (cells (Tb.put ⟨x, o, xs⟩))) (hF : Fr W q d4) => fr_write q d4 (1 - (k : Int)) A5 c5 64 (Tb.put ⟨x, o, xs⟩) W HPL.out hO (by omega) hF)
  have HLN := Lib.hid (fun (W : World) (hF : Fr W q d5) => S.load q d5 0 0 [] 0 false 0 W hF l5 rfl)
  have HSL := Lib.hid (fun (W : World) => S.slot x W (by omega) (by omega))
  rw [h1] at HSV
  rw [h2] at HW0
  rw [h3] at HW1
  rw [h4] at HW2
  rw [h5] at HW3
  rw [hk] at HSL
  have hk2 : IntKind.i64.wrap (1 - (k : Int)) = 1 - (k : Int) := by have := Su.slot_lt x; rw [IntKind.wrap_i64]; omega
  have hmk := fun W => make64 W
  clear hr hk h1 h2 h3 h4 h5 l1 l5 n1 n2 n3 n4 hR hg1 hg2 HPL
  generalize Plain.full 0 = zz at *
  generalize Tb.put ⟨x, o, xs⟩ = PT at *
  generalize (Su.save (Plain.Dv.new 4) ⟨x, o, xs⟩).2 = E1 at *
  obtain ⟨z0, z1, z2⟩ := X3.out.three
  go_wp2_with fail
  refine HSV.out.mono ?_
  rintro e w4 ⟨rfl, f4, q4⟩
  have hqq : w.heap.size ∉ [q, q + 1, q + 2] := by have := HQ.out; simp; omega
  have HQQ := Lib.hid hqq
  have hqw : ∀ i ∈ [q, q + 1, q + 2], w.heap.size ≤ i := by have := HQ.out; simp; omega
  have HQW := Lib.hid hqw
  have F4 := Lib.hid f4
  have P4 := Lib.hid (P3.out.on q4)
  have X4 := Lib.hid (q4.blk X3.out hqq)
  have B4 := Lib.hid (Kept.below B3.out q4 hqw)
  clear f4 q4 hqq hqw z0 z1 z2 HSV
  go_wp2_with fail
  refine (HLD.out w4 F4.out).mono ?_
  rintro e w5 ⟨AX, cx, rfl, -, -, -, b5⟩
  have ba : Below w5.heap.size w5 (w5.alloc (.cells #[.int .i64 x, .int .i64 o, .slice AX n cx] 24)) := (Below.refl _ _).alloc (Nat.le_refl _) _
  have bb := b5.trans (ba.mono b5.size)
  have F6 := Lib.hid (F4.out.below bb)
  have P6 := Lib.hid (P4.out.below bb)
  have X6 := Lib.hid (X4.out.below bb (Nat.le_refl _))
  have B6 := Lib.hid (B4.out.trans (bb.mono B4.out.size))
  have HS6 := Lib.hid (show (w5.alloc (.cells #[.int .i64 x, .int .i64 o, .slice AX n cx] 24)).heap.size = w5.heap.size + 1 by simp)
  have HB6 := Lib.hid (show q + 2 < w5.heap.size + 1 by have := F4.out.dev.lt; have := b5.size; omega)
  clear ba bb b5 HLD
  go_wp2_with fail
  generalize w5.alloc (.cells #[.int .i64 x, .int .i64 o, .slice AX n cx] 24) = w6 at *
  generalize w5.heap.size = p5 at *
  have ba : Below w6.heap.size w6 (w6.alloc (.cells (cells zz).toArray 5)) := (Below.refl _ _).alloc (Nat.le_refl _) _
  refine (HW0.out (p5 + 1) _ (zero_old HS6.out HB6.out) (F6.out.below ba)).mono ?_
  rintro e w7 ⟨rfl, f7, q7⟩
  have F7 := Lib.hid f7
  have P7 := Lib.hid ((P6.out.below ba).on q7)
  have X7 := Lib.hid (q7.blk (X6.out.below ba (Nat.le_refl _)) HQQ.out)
  have B7 := Lib.hid (Kept.below (B6.out.trans (ba.mono B6.out.size)) q7 HQW.out)
  clear f7 q7 ba HW0
  generalize (d1.write 0 zz).2 = E2 at *
  go_wp2_with fail
  have ba : Below w7.heap.size w7 (w7.alloc (.cells (cells zz).toArray 5)) := (Below.refl _ _).alloc (Nat.le_refl _) _
  refine (HW1.out w7.heap.size _ (zero_old rfl F7.out.dev.lt) (F7.out.below ba)).mono ?_
  rintro e w8 ⟨rfl, f8, q8⟩
  have F8 := Lib.hid f8
  have P8 := Lib.hid ((P7.out.below ba).on q8)
  have X8 := Lib.hid (q8.blk (X7.out.below ba (Nat.le_refl _)) HQQ.out)
  have B8 := Lib.hid (Kept.below (B7.out.trans (ba.mono B7.out.size)) q8 HQW.out)
  clear f8 q8 ba HW1
  generalize (d2.write 1 zz).2 = E3 at *
  go_wp2_with fail
  refine (HW2.out w8 P8.out F8.out).mono ?_
  rintro e w9 ⟨rfl, f9, q9⟩
  have F9 := Lib.hid f9
  have P9 := Lib.hid (P8.out.on q9)
  have X9 := Lib.hid (q9.blk X8.out HQQ.out)
  have B9 := Lib.hid (Kept.below B8.out q9 HQW.out)
  clear f9 q9 HW2
  generalize (d3.write 2 PT).2 = E4 at *
  have y0 : w9.cell? ⟨w.heap.size, 0, none⟩ = some (.int .i64 x) := X9.out.cell 0
  go_wp2_with fail
  refine (HSL.out w9).mono ?_
  rintro e w10 ⟨rfl, b10⟩
  have F10 := Lib.hid (F9.out.below b10)
  have P10 := Lib.hid (P9.out.below b10)
  have B10 := Lib.hid (B9.out.trans (b10.mono B9.out.size))
  clear b10 y0
  go_wp2_with fail
  refine (HW3.out w10 P10.out F10.out).mono ?_
  rintro e w11 ⟨rfl, f11, q11⟩
  have F11 := Lib.hid f11
  have B11 := Lib.hid (Kept.below B10.out q11 HQW.out)
  clear f11 q11 HW3
  generalize (d4.write (1 - (k : Int)) PT).2 = E5 at *
  go_wp2_with fail
  refine (HLN.out w11 F11.out).mono ?_
  rintro e w12 ⟨AY, cy, rfl, -, -, -, b12⟩
  have B12 := Lib.hid (B11.out.trans ((b12.trans (((Below.refl w12.heap.size w12).alloc (Nat.le_refl _) (.cells #[.int .i64 0, .int .i64 0, .slice AY 0 cy] 24)).mono b12.size)).mono B11.out.size))
  clear b12
  go_wp2
  go_ret
  exact ⟨rfl, B12.out⟩

theorem walk (w : World) (hT : Tab w) (g o : Int) (A : Option Addr) (cap : Nat) (xs : List Tb.Ext) (hl : xs.length ≤ cap) (_ : cap ≤ maxLen) (hA : Lies w A (flatX xs)) :
    Calls Tryd.prog 6 #[tabV g o A xs.length cap] w fun e w' => e = .returned (.bool true) ∧ Below w.heap.size w w' :=
  walkN superOk w hT g o A cap xs.length xs rfl hl hA


set_option maxRecDepth 100000 in
theorem lifted (os : Os) (started : os.Started) (H : Type) (enc : TypeId × Value → H) :
    ReturnsInHanded {} Tryd.checked os 6 .any (fun w args => (Rows.superNoneSpec.pre enc Tryd.prog Tryd.f6 [] false w args ∧ laidMetH Tryd.prog laidHere w) ∧ sizedMet enc Tryd.prog Tryd.f6 (OpenSpec.ofChange Rows.superNoneSpec) false w args) (Rows.superNoneSpec.post enc Tryd.prog Tryd.f6 false true false false) := by
  refine returnsInHanded_of_change_and (C := Tryd.checked) (X := fun w _ => laidMetH Tryd.prog laidHere w) (fun _ _ _ hh h => h.of_heap hh) own started (by kernel_rfl) Tryd.func6
    (ChangeSpec.witness_shaped (enc := enc) (C := Tryd.checked) (os := os) (X := fun w _ => laidMetH Tryd.prog laidHere w) false (World.doorLaid Tryd.prog doorSteps os) #[.agg #[.int .i64 0, .int .i64 0, .slice none 0 0]] 8 rfl (World.shaped_of_RefB (by kernel_rfl) (by kernel_rfl)) (by kernel_rfl) (by kernel_rfl) (by kernel_rfl) (door_met os _)) ?_
  intro W base args ds gs before hval0 hW _ _ hL _
  have hval : ∀ (j : Nat) t v, Tryd.f6.params[j]? = some t → args[j]? = some v → Value.okWide Tryd.prog W .any base t v := hval0
  have hfin := fun W' => law_post (enc := enc) (P := Tryd.prog) (f := Tryd.f6) (s := Rows.superNoneSpec) (tb := 4) (W := W) (W' := W') (args := args) (ds := ds) (gs := gs) (before := before) laidOut rfl (by kernel_rfl) Tryd.underlying4 (by kernel_rfl) (fun xs h => by rw [Tryd.params6] at h; match xs, h with | [_], _ => rfl) hW
  have hlt : ∀ x ∈ before, x.block < W.heap.size := fun x hx => hW.lt x hx
  obtain ⟨p, q, hA0, hV, rfl, hfz, hnd⟩ := hW
  have hA : DataW.TrodAll enc Tryd.prog W 0 (fun _ => true) true Tryd.f6.params.toList args.toList ds p := hA0
  rw [Tryd.params6] at hA hval
  obtain ⟨v0, vs0, d0, ds0, p0, q0, hargs, rfl, rfl, h0, r0⟩ := trodAll_cons hA
  obtain ⟨rfl, rfl, rfl⟩ := trodAll_nil r0
  obtain rfl : args = #[v0] := by cases args; simp_all
  obtain ⟨g0, o0, A0, cap0, l0, rfl, hl0, hm0, hB0⟩ := open_table (hval 0 24 v0 rfl rfl) h0 (fun x hx => hlt x (by simp [hx]))
  refine (walk W (of_laid hL) g0 o0 A0 cap0 l0 hl0 hm0 hB0).mono fun e W' ⟨he, hg⟩ => ?_
  subst he
  exact ⟨_, rfl, hfin W' hg⟩

theorem proved : Rows.SuperNoneSaid :=
  OpenClaim.holds_of_wide 6 Tryd.f6 rfl rfl rfl rfl rfl rfl rfl ⟨rfl, rfl, rfl, rfl, rfl⟩ rfl rfl rfl rfl rfl (by kernel_rfl) Tryd.func6 (by kernel_rfl)
    (of_decide_eq_true (by kernel_rfl)) (by unfold Func.isWrapper; first | (rw [if_pos (by decide +kernel)]; kernel_rfl) | (rw [if_neg (by decide +kernel)]; exact ⟨rfl, rfl⟩))
    (fun os started H enc _ => lifted os started H enc)

set_option maxRecDepth 100000 in
theorem card : Rows.SuperNoneCardSaid :=
  Claim7.holds_tied_plain_at .later [] laidKindsHere true _ false
    proved (fun _ h => by cases h) (by kernel_rfl) (fun _ h => by cases h) superNone_row_tie rfl ⟨rfl, rfl⟩ (by kernel_rfl) rfl
    (fun f fn hf hfn => by
      obtain rfl : f = 6 := Option.some.inj ((show Tryd.prog.funcNamed "turntable/turntablelaw10.SuperNone" = some 6 by kernel_rfl).symm.trans hf) |>.symm
      obtain rfl : fn = Tryd.f6 := (Option.some.inj (Tryd.func6.symm.trans hfn)).symm
      exact ⟨by kernel_rfl, fun j t ht => by
        rw [Tryd.params6] at ht
        have hm : t ∈ [24] := Array.mem_def.1 (Array.mem_of_getElem? ht)
        have hall : ([24].all fun u => !Tryd.prog.wantsStandIn u) = true := by kernel_rfl
        exact (show Tryd.prog.wantsStandIn t = false by simpa using List.all_eq_true.1 hall t hm)⟩)
    (by kernel_rfl)
#print axioms card
end Go.Proofs.YtehnhjnkbclnlaaDoor.superNone
