/-
  Layer 13, the document's answer (turntableref13): Get, of bytes that begin as a seal does; then of any bytes.
-/
import Derived.Test.YtdfeccmcefcpbaaDoorRg13

namespace Go.Proofs.YtdfeccmcefcpbaaDoor
open Go.RowKit
set_option maxRecDepth 100000

set_option maxHeartbeats 8000000 in
theorem rget13_seal (A : Option Addr) (n cap : Nat) (x : List UInt8) (w : World) (hn : x.length = n) (h2 : 2 < n) (hc : n ≤ cap) (hm : cap ≤ maxLen) (hf : n ≤ 1099511627776) (hA : Lies w A (cells x)) (hk1 : (x.getD 0 0).toNat = 1) :
    Calls Tryd.prog 13 #[.slice A n cap] w (RGives13 w (Rc.rget x)) := by
  have hpx := parse_seal13 x hk1
  rw [if_pos (by omega)] at hpx
  obtain ⟨ad, rfl, -⟩ := hA.at_ (k := 0) (by rw [cells_length]; omega)
  have HX0 := Lib.hid (fun (u : World) (h : Below w.heap.size w u) => show u.cell? ad = some (.int .u8 1) by
    obtain ⟨ad', e, -, h3⟩ := (hA.below h).at_ (k := 0) (by rw [cells_length]; omega)
    injection e with e; subst e
    rw [show ad = ad.add 0 from rfl, h3, show (1 : Int) = ((1 : Nat) : Int) from rfl, ← hk1]
    simp [cells, List.getD_eq_getElem?_getD, List.getElem?_eq_getElem (show 0 < x.length by omega)])
  obtain ⟨bq, hbq⟩ : ∃ bq, (x.getD 1 0).toNat = bq := ⟨_, rfl⟩
  have hbq256 : bq < 256 := by rw [← hbq]; exact (x.getD 1 0).toNat_lt
  rw [hbq] at hpx
  have HX2 := Lib.hid (fun (u : World) (h : Below w.heap.size w u) => show u.cell? (ad.add 1) = some (.int .u8 (bq : Int)) by
    obtain ⟨ad', e, -, h3⟩ := (hA.below h).at_ (k := 1) (by rw [cells_length]; omega)
    injection e with e; subst e
    rw [h3, ← hbq]
    simp [cells, List.getD_eq_getElem?_getD, List.getElem?_eq_getElem (show 1 < x.length by omega)])
  have hm' := hm
  unfold maxLen at hm'
  have hLd := hA.drop (k := 2) (cap := cap) (by rw [cells_length]; omega)
  rw [cells_drop] at hLd
  have hsl : ∀ W, (Instr.sliceAt 25 (.slice (some ad) n cap) (some (.int .i64 2)) none none).run Tryd.prog W = .ok (.slice (cutA (some ad) cap 2) (n - 2) (cap - 2)) W := fun W => slice_lo (some ad) n cap 2 W (by omega) hc (by omega)
  have hsm := Plain.get_small (x.drop 2)
  rw [List.length_drop, hn] at hsm
  obtain ⟨X, hX⟩ : ∃ X, (Plain.get (x.drop 2)).1 = X := ⟨_, rfl⟩
  obtain ⟨K, hK⟩ : ∃ K, (Plain.get (x.drop 2)).2.1 = K := ⟨_, rfl⟩
  obtain ⟨C, hC⟩ : ∃ C, (Plain.get (x.drop 2)).2.2 = C := ⟨_, rfl⟩
  have HGT := Lib.hid (fun (W : World) (h : Below w.heap.size w W) => rget_is (cutA (some ad) cap 2) (n - 2) (cap - 2) (x.drop 2) W X K C (by rw [List.length_drop, hn]) (by unfold maxLen; omega) (hLd.below h) (by rw [hX]) (by rw [hK]) (by rw [hC]))
  rw [hX, hK] at hsm hpx
  clear hX hK hC
  have hLe := hA.drop (k := 2 + K) (cap := cap) (by rw [cells_length]; omega)
  rw [cells_drop] at hLe
  have hsl2 : ∀ W, (Instr.sliceAt 25 (.slice (some ad) n cap) (some (.int .i64 (2 + (K : Int)))) none none).run Tryd.prog W = .ok (.slice (cutA (some ad) cap (2 + K)) (n - (2 + K)) (cap - (2 + K))) W := fun W => by
    have := slice_lo (some ad) n cap (2 + K) W (by omega) hc (by unfold maxLen; omega)
    rwa [show ((2 + K : Nat) : Int) = 2 + (K : Int) by omega] at this
  have HTG := Lib.hid (fun (W : World) (h : Below w.heap.size w W) => rtget_any (cutA (some ad) cap (2 + K)) (n - (2 + K)) (cap - (2 + K)) (x.drop (2 + K)) W (by rw [List.length_drop, hn]) (by omega) (by unfold maxLen; omega) (by omega) (hLe.below h))
  have htf := tget_fine13 (x.drop (2 + K))
  obtain ⟨sp, hsp⟩ : ∃ sp, (Plain.tget (x.drop (2 + K))).1 = sp := ⟨_, rfl⟩
  have HTG := Lib.hid (fun (W : World) (h : Below w.heap.size w W) => (HTG.out W h).mono (fun e w' (hh : TGetPost _ _ e w') => show ∃ (A : Option Addr) (cap c : Nat), e = .returned (.tuple #[.slice A sp.length cap, .int .i64 (c : Int)]) ∧ sp.length ≤ cap ∧ cap ≤ maxLen ∧ Lies w' A (flat sp) ∧ Below W.heap.size W w' by
    obtain ⟨v, rfl, A9, cap9, rfl, q1, q2, q3, q4⟩ := hh
    rw [hsp] at q1 q3 ⊢
    exact ⟨A9, cap9, _, rfl, q1, q2, q3, q4⟩))
  rw [hsp] at hpx htf
  clear hsp hLe hLd
  generalize hCB : cutA (some ad) cap (2 + K) = CB at *
  generalize hCA : cutA (some ad) cap 2 = CA at *
  clear hCA hCB
  have hbx := Blk.new w #[.int .i64 0, .int .i64 0, .int .i64 0, .int .i64 0, .bool false, .slice none 0 0] 24
  have hB0 : Below w.heap.size w (w.alloc (.cells #[.int .i64 0, .int .i64 0, .int .i64 0, .int .i64 0, .bool false, .slice none 0 0] 24)) := (Below.refl _ _).alloc (Nat.le_refl _) _
  have hbx4 := Blk.new (w.alloc (.cells #[.int .i64 0, .int .i64 0, .int .i64 0, .int .i64 0, .bool false, .slice none 0 0] 24)) #[.int .i64 0, .int .i64 0, .int .i64 0, .int .i64 0, .bool false, .slice none 0 0] 24
  have hs0 : (w.alloc (.cells #[.int .i64 0, .int .i64 0, .int .i64 0, .int .i64 0, .bool false, .slice none 0 0] 24)).heap.size = w.heap.size + 1 := by simp
  rw [hs0] at hbx4
  have hx0 := HX0.out _ hB0
  have HA := Lib.hid hA
  have HBX := Lib.hid hbx
  have HBX4 := Lib.hid hbx4
  have HB0 := Lib.hid hB0
  have HS0 := Lib.hid hs0
  have HPX := Lib.hid hpx
  have HN := Lib.hid hn
  have HTF := Lib.hid htf
  have HX1 := Lib.hid (show ¬ x = [] from fun h => by rw [h] at hn; simp at hn; omega)
  clear hbx hbx4 hB0 hs0 hA hpx hk1 hbq htf
  have dl : ((n : Int) == 0) = false := by rw [beq_eq_false_iff_ne]; omega
  have d2 : decide ((2 : Int) < (n : Int)) = true := by rw [decide_eq_true_eq]; omega
  go_enter Tryd.func13, Tryd.ntmps13
  go_wp2_with (first | fail | refine wpList_storeR rfl _ _ rfl (w.heap.size + 1) rfl 1 0 0 0 false none 0 0 rfl _ _ _ _ _ _ HBX4.out ?k1)
  case k1 =>
    intro w3 hb3 hk3
    have HB3 := Lib.hid (Kept.below (HB0.out.alloc HB0.out.size _) hk3 (by simp))
    have HZ3 := Lib.hid (hk3.blk (show Blk _ w.heap.size #[.int .i64 0, .int .i64 0, .int .i64 0, .int .i64 0, .bool false, .slice none 0 0] 24 from (((Below.refl _ _).alloc (by rw [HS0.out]; exact Nat.le_refl _) _ : Below (w.heap.size + 1) _ _).block w.heap.size (by omega)).trans HBX.out) (by simp))
    obtain ⟨q0, q1, q2, q3, q4, q5⟩ := six13 hb3
    have HBR3 := Lib.hid hb3
    have y1 : w3.cell? ⟨ad.block, ad.off + 1, none⟩ = some (.int .u8 (bq : Int)) := HX2.out w3 HB3.out
    have f2 := hb3.frozen 2
    clear hb3 hk3 hx0
    go_wp2_with (first | fail | refine wpList_storeF rfl _ _ _ rfl (w.heap.size + 1) 2 rfl _ rfl _ _ HBR3.out (by go_simp) ?k2)
    case k2 =>
      intro w4 hb4 hk4
      have hb4' : Blk w4 (w.heap.size + 1) #[.int .i64 1, .int .i64 0, .int .i64 ((bq % 8 : Nat) : Int), .int .i64 0, .bool false, .slice none 0 0] 24 := hb4
      have HB4 := Lib.hid (Kept.below HB3.out hk4 (by simp))
      have HZ4 := Lib.hid (hk4.blk HZ3.out (by simp))
      clear q0 q1 q2 q3 q4 q5 y1 f2 hb4
      obtain ⟨q0, q1, q2, q3, q4, q5⟩ := six13 hb4'
      have HBR4 := Lib.hid hb4'
      have y1 : w4.cell? ⟨ad.block, ad.off + 1, none⟩ = some (.int .u8 (bq : Int)) := HX2.out w4 HB4.out
      have f4 := hb4'.frozen 4
      clear hb4' hk4
      go_wp2_with (first | fail | refine wpList_storeF rfl _ _ _ rfl (w.heap.size + 1) 4 rfl _ rfl _ _ HBR4.out (by go_simp) ?k3)
      case k3 =>
        intro w5 hb5 hk5
        have hb5' : Blk w5 (w.heap.size + 1) #[.int .i64 1, .int .i64 0, .int .i64 ((bq % 8 : Nat) : Int), .int .i64 0, .bool (decide ((8 : Int) ≤ (bq : Int))), .slice none 0 0] 24 := hb5
        rw [show decide ((8 : Int) ≤ (bq : Int)) = decide (8 ≤ bq) by by_cases h : 8 ≤ bq <;> simp [h] <;> omega] at hb5'
        have HB5 := Lib.hid (Kept.below HB4.out hk5 (by simp))
        have HZ5 := Lib.hid (hk5.blk HZ4.out (by simp))
        clear q0 q1 q2 q3 q4 q5 y1 f4 hb5
        obtain ⟨q0, q1, q2, q3, q4, q5⟩ := six13 hb5'
        have HBR5 := Lib.hid hb5'
        have HG5 := Lib.hid (HGT.out w5 HB5.out)
        have f3 := hb5'.frozen 3
        clear hb5' hk5
        go_wp2_with fail
        refine HG5.out.mono ?_
        rintro e w9 ⟨rfl, rfl⟩
        go_wp2_with (first | fail | refine wpList_storeF rfl _ _ _ rfl (w.heap.size + 1) 3 rfl _ rfl _ _ HBR5.out (by go_simp) ?k4)
        case k4 =>
          intro w6 hb6 hk6
          have hb6' : Blk w6 (w.heap.size + 1) #[.int .i64 1, .int .i64 0, .int .i64 ((bq % 8 : Nat) : Int), .int .i64 (X : Int), .bool (decide (8 ≤ bq)), .slice none 0 0] 24 := hb6
          have HB6 := Lib.hid (Kept.below HB5.out hk6 (by simp))
          have HZ6 := Lib.hid (hk6.blk HZ5.out (by simp))
          clear q0 q1 q2 q3 q4 q5 f3 hb6
          have HBR6 := Lib.hid hb6'
          have HT6 := Lib.hid (HTG.out w6 HB6.out)
          clear hb6' hk6 HG5 HBR5 HBR4 HBR3 HZ3 HZ4 HZ5 HGT
          go_wp2_with fail
          refine HT6.out.mono ?_
          rintro e w7 ⟨A7, cap7, c7, rfl, hl7, hm7, hL7, hb7⟩
          have HB7 := Lib.hid (HB6.out.trans (hb7.mono HB6.out.size))
          have HZ7 := Lib.hid ((hb7.block _ HZ6.out.lt).trans HZ6.out)
          have hb7' := (hb7.block _ HBR6.out.lt).trans HBR6.out
          obtain ⟨q0, q1, q2, q3, q4, q5⟩ := six13 hb7'
          have HBR7 := Lib.hid (show Blk w7 (w.heap.size + 1) _ 24 from hb7')
          have HL7 := Lib.hid hL7
          have f5 := Blk.frozen hb7' 5
          clear hb7 hb7' hL7 HT6 HTG
          go_wp2_with (first | fail | refine wpList_storeF rfl _ _ _ rfl (w.heap.size + 1) 5 rfl _ rfl _ _ HBR7.out (by go_simp) ?k5)
          case k5 =>
            intro w8 hb8 hk8
            have hb8' : Blk w8 (w.heap.size + 1) #[.int .i64 1, .int .i64 0, .int .i64 ((bq % 8 : Nat) : Int), .int .i64 (X : Int), .bool (decide (8 ≤ bq)), .slice A7 sp.length cap7] 24 := hb8
            have HB8 := Lib.hid (Kept.below HB7.out hk8 (by simp))
            have HZ8 := Lib.hid (hk8.blk HZ7.out (by simp))
            have hL8 := lies_other13 HL7.out HBR7.out (by simp) hk8
            clear q0 q1 q2 q3 q4 q5 f5 hb8 hk8
            obtain ⟨q0, q1, q2, q3, q4, q5⟩ := six13 hb8'
            have HBR8 := Lib.hid hb8'
            have HL8 := Lib.hid hL8
            have f1 := hb8'.frozen 1
            by_cases hs : sp.length = 0
            · have hs0 : sp = [] := List.length_eq_zero_iff.1 hs
              subst hs0
              have HBT := Lib.hid HB8.out
              have HZ4 := Lib.hid HZ8.out
              obtain ⟨wt, hwt⟩ : ∃ wt, wt = w8 := ⟨_, rfl⟩
              subst hwt
              obtain ⟨r, AA, nn, cc, H44, hR, hnr, hLr, hFr, hcr, hmr⟩ : ∃ (r : Rc.R) (AA : Option Addr) (nn cc : Nat), Blk wt (w.heap.size + 1) (recCs r AA nn cc) 24 ∧ Rc.parse x = r ∧ r.sp.length = nn ∧ Lies wt AA (flat r.sp) ∧ Fine r.sp ∧ nn ≤ cc ∧ cc ≤ maxLen :=
                ⟨⟨1, 0, ((bq % 8 : Nat) : Int), (X : Int), decide (8 ≤ bq), []⟩, A7, 0, cap7, hb8', by rw [HPX.out]; rfl, rfl, Lies.nil, fun y hy => by simp at hy, Nat.zero_le _, hm7⟩
              clear hb8' hL8 hl7 hm7
              obtain ⟨kd, id, cl, tk, pn, sp⟩ := r
              simp only [recCs] at H44 hR hnr hLr hFr
              have hrg : Rc.rget x = if Rc.rput ⟨kd, id, cl, tk, pn, sp⟩ = x then (⟨kd, id, cl, tk, pn, sp⟩, 0) else (Rc.zero, 12) := by unfold Rc.rget; rw [if_neg HX1.out, hR]
              obtain ⟨PB, hPB⟩ : ∃ PB, Rc.rput ⟨kd, id, cl, tk, pn, sp⟩ = PB := ⟨_, rfl⟩
              have HP := Lib.hid (fun (W : World) (h : Below wt.heap.size wt W) => rput13_any ⟨kd, id, cl, tk, pn, sp⟩ AA nn cc W hnr (hLr.below h) hFr)
              rw [hPB] at HP hrg
              simp only [recV, recCs] at HP
              obtain ⟨D, hD⟩ : ∃ D, decide (PB = x) = D := ⟨_, rfl⟩
              have NE := Lib.hid (fun (W : World) => neqt13 W PB x D hD)
              have LR := Lib.hid (fun (u : World) (h : Below wt.heap.size wt u) => load_rec13 (six13 ((h.block _ H44.lt).trans H44)).1 (six13 ((h.block _ H44.lt).trans H44)).2.1 (six13 ((h.block _ H44.lt).trans H44)).2.2.1 (six13 ((h.block _ H44.lt).trans H44)).2.2.2.1 (six13 ((h.block _ H44.lt).trans H44)).2.2.2.2.1 (six13 ((h.block _ H44.lt).trans H44)).2.2.2.2.2)
              have CV := Lib.hid (fun (W : World) (h : Below wt.heap.size wt W) => show (convert 25 9 (.slice (some ad) n cap)).run Tryd.prog W = .ok (.string (str x)) W by
                have := conv_str (P := Tryd.prog) (c := cap) (HA.out.below (HBT.out.trans (h.mono HBT.out.size))) 25 5 Tryd.underlying25 Tryd.underlying5 9 Tryd.underlying9
                rwa [HN.out] at this)
              have HRG := Lib.hid (show Rc.rget x = if D = true then (⟨kd, id, cl, tk, pn, sp⟩, 0) else (Rc.zero, 12) by
                rw [hrg, ← hD]
                by_cases h : PB = x <;> simp [h])
              have H4 := Lib.hid H44
              have HLR := Lib.hid hLr
              have HNR := Lib.hid hnr
              have HFR := Lib.hid hFr
              have HMR := Lib.hid (And.intro hcr hmr)
              clear hrg hPB hD H44 hLr hnr hFr hcr hmr hR
              go_wp2
              refine wp_softS (by kernel_rfl) 105 [(97, [4]), (98, [97]), (99, [98]), (100, [0]), (101, [100]), (102, [99, 101])]
                [Fact.is (.agg #[.int .i64 kd, .int .i64 id, .int .i64 cl, .int .i64 tk, .bool pn, .slice AA nn cc]), Fact.own PB, Fact.is (.string (str PB)), Fact.is (.slice (some ad) n cap), Fact.is (.string (str x)), Fact.is (.bool (!D))]
                (by kernel_rfl) rfl rfl ⟨?s0, ?s1, ?s2, ?s3, ?s4, ?s5, trivial⟩ ?fin
              case s0 =>
                intro ρ W hb hc hf hr
                obtain ⟨r4, -⟩ := hr
                have e4 : ρ (.tmp 4) = .pointer (some ⟨w.heap.size + 1, 0, none⟩) := r4
                clear r4
                refine under_none rfl ?_
                exact soft_load e4 (LR.out W (undrew13 hb)) rfl
              case s1 =>
                intro ρ W hb hc hf hr
                obtain ⟨r97, -⟩ := hr
                have e97 : ρ (.tmp 97) = .agg #[.int .i64 kd, .int .i64 id, .int .i64 cl, .int .i64 tk, .bool pn, .slice AA nn cc] := r97
                clear r97
                refine under_none rfl ?_
                exact soft_call1 hf e97 (HP.out W (undrew13 hb)) rfl (by kernel_rfl) made_own
              case s2 =>
                intro ρ W hb hc hf hr
                obtain ⟨r98, -⟩ := hr
                refine under_none rfl ?_
                exact soft_own r98 rfl
              case s3 =>
                intro ρ W hb hc hf hr
                obtain ⟨r0, -⟩ := hr
                have e0 : ρ (.tmp 0) = .slice (some ad) n cap := r0
                clear r0
                refine under_none rfl ?_
                exact ⟨e0, Below.refl _ _⟩
              case s4 =>
                intro ρ W hb hc hf hr
                obtain ⟨r100, -⟩ := hr
                have e100 : ρ (.tmp 100) = .slice (some ad) n cap := r100
                clear r100
                refine under_none rfl ?_
                exact soft_conv e100 (CV.out W (undrew13 hb)) rfl
              case s5 =>
                intro ρ W hb hc hf hr
                obtain ⟨r99, r101, -⟩ := hr
                have e99 : ρ (.tmp 99) = .string (str PB) := r99
                clear r99
                have e101 : ρ (.tmp 101) = .string (str x) := r101
                clear r101
                refine under_none rfl ?_
                exact soft_bin e99 e101 rfl rfl (NE.out W)
              case fin =>
                intro a w1 hb hd hsz hk
                have ea := act_puts hd hsz rfl hk
                have k97 : a.tmps.getD 97 undef = .agg #[.int .i64 kd, .int .i64 id, .int .i64 cl, .int .i64 tk, .bool pn, .slice AA nn cc] := hk 97
                have k98 : (Fact.own PB).φ (a.tmps.getD 98 undef) w1 := hk 98
                have k99 : a.tmps.getD 99 undef = .string (str PB) := hk 99
                have k100 : a.tmps.getD 100 undef = .slice (some ad) n cap := hk 100
                have k101 : a.tmps.getD 101 undef = .string (str x) := hk 101
                have k102 : a.tmps.getD 102 undef = .bool (!D) := hk 102
                clear hk hd hsz
                simp only [List.map_cons, List.map_nil, List.foldl_cons, List.foldl_nil, k97, k99, k100, k101, k102] at ea
                clear k97 k99 k100 k101 k102
                generalize a.tmps.getD 98 undef = v98 at ea k98
                simp only [Act.put, List.setIfInBounds_toArray, List.set_cons_succ, List.set_cons_zero] at ea
                subst ea
                have hb1 : Below wt.heap.size wt w1 := undrew13 hb
                have HB1 := Lib.hid (HBT.out.trans (hb1.mono HBT.out.size))
                have HZ1 := Lib.hid ((hb1.block _ HZ4.out.lt).trans HZ4.out)
                have HL1 := Lib.hid (HLR.out.below hb1)
                obtain ⟨z0, z1, z2, z3, z4, z5⟩ := six13 ((hb1.block _ H4.out.lt).trans H4.out)
                clear hb hb1
                cases D with
                | false =>
                  have HRF := Lib.hid (show Rc.rget x = (Rc.zero, 12) by rw [HRG.out]; rfl)
                  go_wp2_with (first | fail | refine wpList_storeR rfl _ _ rfl w.heap.size rfl 0 0 0 0 false none 0 0 rfl _ _ _ _ _ _ HZ1.out ?k9)
                  case k9 =>
                    intro w6 hb6 hk6
                    obtain ⟨c0, c1, c2, c3, c4, c5⟩ := six13 hb6
                    have HB6 := Lib.hid (Kept.below HB1.out hk6 (by simp))
                    clear hb6 hk6 z0 z1 z2 z3 z4 z5
                    go_wp2
                    refine bodyPost_ret (v := .tuple #[.agg #[.int .i64 0, .int .i64 0, .int .i64 0, .int .i64 0, .bool false, .slice none 0 0], .int .i64 12]) (by simp [results, Tryd.results13, go_sem, c0, c1, c2, c3, c4, c5, Result.andThen]) rfl ?_
                    rw [HRF.out]
                    exact ⟨none, 0, rfl, Nat.zero_le _, by unfold maxLen; omega, Lies.nil, (fun x hx => by simp [Rc.zero] at hx), HB6.out⟩
                | true =>
                  have HRF := Lib.hid (show Rc.rget x = (⟨kd, id, cl, tk, pn, sp⟩, 0) by rw [HRG.out]; rfl)
                  go_wp2_with (first | fail | refine wpList_storeR rfl _ _ rfl w.heap.size rfl kd id cl tk pn AA nn cc rfl _ _ _ _ _ _ HZ1.out ?k9)
                  case k9 =>
                    intro w6 hb6 hk6
                    obtain ⟨c0, c1, c2, c3, c4, c5⟩ := six13 hb6
                    have HB6 := Lib.hid (Kept.below HB1.out hk6 (by simp))
                    have HL6 := Lib.hid (lies_other13 HL1.out HZ1.out (by simp) hk6)
                    clear hb6 hk6 z0 z1 z2 z3 z4 z5
                    go_wp2
                    refine bodyPost_ret (v := .tuple #[.agg #[.int .i64 kd, .int .i64 id, .int .i64 cl, .int .i64 tk, .bool pn, .slice AA nn cc], .int .i64 0]) (by simp [results, Tryd.results13, go_sem, c0, c1, c2, c3, c4, c5, Result.andThen]) rfl ?_
                    rw [HRF.out]
                    exact ⟨AA, cc, by rw [HNR.out]; rfl, by rw [HNR.out]; exact HMR.out.1, HMR.out.2, HL6.out, HFR.out, HB6.out⟩
            · obtain ⟨ad8, rfl, -, hc8⟩ := at_span hL8 0 (by omega)
              have y8 : w8.cell? ad8 = some (.int .i64 (sp.headD Plain.Sp.zero).t) := by
                have := (hc8 w8 (Below.refl _ _)).1
                rw [head_at (by omega)]
                exact this
              have hlz : ∃ kz, sp.length = kz := ⟨_, rfl⟩
              obtain ⟨kz, hkz⟩ := hlz
              have HKZ := Lib.hid hkz
              rw [hkz] at hs hl7
              have dz : decide ((0 : Int) < (kz : Int)) = true := by rw [decide_eq_true_eq]; omega
              have HPY := Lib.hid HPX.out
              obtain ⟨zt, hzt⟩ : ∃ zt, (sp.headD Plain.Sp.zero).t = zt := ⟨_, rfl⟩
              rw [hzt] at y8
              have HZT := Lib.hid hzt
              rw [hkz] at hb8' q5
              have HBR9 := Lib.hid hb8'
              clear hc8 hL8 hzt hb8' HBR8 HBR7 HBR6
              rw [hkz]
              clear hkz
              go_wp2_with (first | fail | refine wpList_storeF rfl _ _ _ rfl (w.heap.size + 1) 1 rfl (.int .i64 zt) rfl _ _ HBR9.out (by go_simp) ?k6)
              case k6 =>
                intro wt hb9 hk9
                have hb9' : Blk wt (w.heap.size + 1) #[.int .i64 1, .int .i64 zt, .int .i64 ((bq % 8 : Nat) : Int), .int .i64 (X : Int), .bool (decide (8 ≤ bq)), .slice (some ad8) kz cap7] 24 := hb9
                have HBT := Lib.hid (Kept.below HB8.out hk9 (by simp))
                have HZ4 := Lib.hid (hk9.blk HZ8.out (by simp))
                have hL9 := lies_other13 HL8.out HBR9.out (by simp) hk9
                clear q0 q1 q2 q3 q4 q5 f1 y8 hb9 hk9
                obtain ⟨q0, q1, q2, q3, q4, q5⟩ := six13 hb9'
                obtain ⟨r, AA, nn, cc, H44, hR, hnr, hLr, hFr, hcr, hmr⟩ : ∃ (r : Rc.R) (AA : Option Addr) (nn cc : Nat), Blk wt (w.heap.size + 1) (recCs r AA nn cc) 24 ∧ Rc.parse x = r ∧ r.sp.length = nn ∧ Lies wt AA (flat r.sp) ∧ Fine r.sp ∧ nn ≤ cc ∧ cc ≤ maxLen :=
                  ⟨⟨1, zt, ((bq % 8 : Nat) : Int), (X : Int), decide (8 ≤ bq), sp⟩, some ad8, kz, cap7, hb9', by rw [HPX.out, HZT.out], HKZ.out, hL9, HTF.out, hl7, hm7⟩
                clear hb9' hL9 hl7 hm7
                obtain ⟨kd, id, cl, tk, pn, sp⟩ := r
                simp only [recCs] at H44 hR hnr hLr hFr
                have hrg : Rc.rget x = if Rc.rput ⟨kd, id, cl, tk, pn, sp⟩ = x then (⟨kd, id, cl, tk, pn, sp⟩, 0) else (Rc.zero, 12) := by unfold Rc.rget; rw [if_neg HX1.out, hR]
                obtain ⟨PB, hPB⟩ : ∃ PB, Rc.rput ⟨kd, id, cl, tk, pn, sp⟩ = PB := ⟨_, rfl⟩
                have HP := Lib.hid (fun (W : World) (h : Below wt.heap.size wt W) => rput13_any ⟨kd, id, cl, tk, pn, sp⟩ AA nn cc W hnr (hLr.below h) hFr)
                rw [hPB] at HP hrg
                simp only [recV, recCs] at HP
                obtain ⟨D, hD⟩ : ∃ D, decide (PB = x) = D := ⟨_, rfl⟩
                have NE := Lib.hid (fun (W : World) => neqt13 W PB x D hD)
                have LR := Lib.hid (fun (u : World) (h : Below wt.heap.size wt u) => load_rec13 (six13 ((h.block _ H44.lt).trans H44)).1 (six13 ((h.block _ H44.lt).trans H44)).2.1 (six13 ((h.block _ H44.lt).trans H44)).2.2.1 (six13 ((h.block _ H44.lt).trans H44)).2.2.2.1 (six13 ((h.block _ H44.lt).trans H44)).2.2.2.2.1 (six13 ((h.block _ H44.lt).trans H44)).2.2.2.2.2)
                have CV := Lib.hid (fun (W : World) (h : Below wt.heap.size wt W) => show (convert 25 9 (.slice (some ad) n cap)).run Tryd.prog W = .ok (.string (str x)) W by
                  have := conv_str (P := Tryd.prog) (c := cap) (HA.out.below (HBT.out.trans (h.mono HBT.out.size))) 25 5 Tryd.underlying25 Tryd.underlying5 9 Tryd.underlying9
                  rwa [HN.out] at this)
                have HRG := Lib.hid (show Rc.rget x = if D = true then (⟨kd, id, cl, tk, pn, sp⟩, 0) else (Rc.zero, 12) by
                  rw [hrg, ← hD]
                  by_cases h : PB = x <;> simp [h])
                have H4 := Lib.hid H44
                have HLR := Lib.hid hLr
                have HNR := Lib.hid hnr
                have HFR := Lib.hid hFr
                have HMR := Lib.hid (And.intro hcr hmr)
                clear hrg hPB hD H44 hLr hnr hFr hcr hmr hR
                go_wp2
                refine wp_softS (by kernel_rfl) 105 [(97, [4]), (98, [97]), (99, [98]), (100, [0]), (101, [100]), (102, [99, 101])]
                  [Fact.is (.agg #[.int .i64 kd, .int .i64 id, .int .i64 cl, .int .i64 tk, .bool pn, .slice AA nn cc]), Fact.own PB, Fact.is (.string (str PB)), Fact.is (.slice (some ad) n cap), Fact.is (.string (str x)), Fact.is (.bool (!D))]
                  (by kernel_rfl) rfl rfl ⟨?s0, ?s1, ?s2, ?s3, ?s4, ?s5, trivial⟩ ?fin
                case s0 =>
                  intro ρ W hb hc hf hr
                  obtain ⟨r4, -⟩ := hr
                  have e4 : ρ (.tmp 4) = .pointer (some ⟨w.heap.size + 1, 0, none⟩) := r4
                  clear r4
                  refine under_none rfl ?_
                  exact soft_load e4 (LR.out W (undrew13 hb)) rfl
                case s1 =>
                  intro ρ W hb hc hf hr
                  obtain ⟨r97, -⟩ := hr
                  have e97 : ρ (.tmp 97) = .agg #[.int .i64 kd, .int .i64 id, .int .i64 cl, .int .i64 tk, .bool pn, .slice AA nn cc] := r97
                  clear r97
                  refine under_none rfl ?_
                  exact soft_call1 hf e97 (HP.out W (undrew13 hb)) rfl (by kernel_rfl) made_own
                case s2 =>
                  intro ρ W hb hc hf hr
                  obtain ⟨r98, -⟩ := hr
                  refine under_none rfl ?_
                  exact soft_own r98 rfl
                case s3 =>
                  intro ρ W hb hc hf hr
                  obtain ⟨r0, -⟩ := hr
                  have e0 : ρ (.tmp 0) = .slice (some ad) n cap := r0
                  clear r0
                  refine under_none rfl ?_
                  exact ⟨e0, Below.refl _ _⟩
                case s4 =>
                  intro ρ W hb hc hf hr
                  obtain ⟨r100, -⟩ := hr
                  have e100 : ρ (.tmp 100) = .slice (some ad) n cap := r100
                  clear r100
                  refine under_none rfl ?_
                  exact soft_conv e100 (CV.out W (undrew13 hb)) rfl
                case s5 =>
                  intro ρ W hb hc hf hr
                  obtain ⟨r99, r101, -⟩ := hr
                  have e99 : ρ (.tmp 99) = .string (str PB) := r99
                  clear r99
                  have e101 : ρ (.tmp 101) = .string (str x) := r101
                  clear r101
                  refine under_none rfl ?_
                  exact soft_bin e99 e101 rfl rfl (NE.out W)
                case fin =>
                  intro a w1 hb hd hsz hk
                  have ea := act_puts hd hsz rfl hk
                  have k97 : a.tmps.getD 97 undef = .agg #[.int .i64 kd, .int .i64 id, .int .i64 cl, .int .i64 tk, .bool pn, .slice AA nn cc] := hk 97
                  have k98 : (Fact.own PB).φ (a.tmps.getD 98 undef) w1 := hk 98
                  have k99 : a.tmps.getD 99 undef = .string (str PB) := hk 99
                  have k100 : a.tmps.getD 100 undef = .slice (some ad) n cap := hk 100
                  have k101 : a.tmps.getD 101 undef = .string (str x) := hk 101
                  have k102 : a.tmps.getD 102 undef = .bool (!D) := hk 102
                  clear hk hd hsz
                  simp only [List.map_cons, List.map_nil, List.foldl_cons, List.foldl_nil, k97, k99, k100, k101, k102] at ea
                  clear k97 k99 k100 k101 k102
                  generalize a.tmps.getD 98 undef = v98 at ea k98
                  simp only [Act.put, List.setIfInBounds_toArray, List.set_cons_succ, List.set_cons_zero] at ea
                  subst ea
                  have hb1 : Below wt.heap.size wt w1 := undrew13 hb
                  have HB1 := Lib.hid (HBT.out.trans (hb1.mono HBT.out.size))
                  have HZ1 := Lib.hid ((hb1.block _ HZ4.out.lt).trans HZ4.out)
                  have HL1 := Lib.hid (HLR.out.below hb1)
                  obtain ⟨z0, z1, z2, z3, z4, z5⟩ := six13 ((hb1.block _ H4.out.lt).trans H4.out)
                  clear hb hb1
                  cases D with
                  | false =>
                    have HRF := Lib.hid (show Rc.rget x = (Rc.zero, 12) by rw [HRG.out]; rfl)
                    go_wp2_with (first | fail | refine wpList_storeR rfl _ _ rfl w.heap.size rfl 0 0 0 0 false none 0 0 rfl _ _ _ _ _ _ HZ1.out ?k9)
                    case k9 =>
                      intro w6 hb6 hk6
                      obtain ⟨c0, c1, c2, c3, c4, c5⟩ := six13 hb6
                      have HB6 := Lib.hid (Kept.below HB1.out hk6 (by simp))
                      clear hb6 hk6 z0 z1 z2 z3 z4 z5
                      go_wp2
                      refine bodyPost_ret (v := .tuple #[.agg #[.int .i64 0, .int .i64 0, .int .i64 0, .int .i64 0, .bool false, .slice none 0 0], .int .i64 12]) (by simp [results, Tryd.results13, go_sem, c0, c1, c2, c3, c4, c5, Result.andThen]) rfl ?_
                      rw [HRF.out]
                      exact ⟨none, 0, rfl, Nat.zero_le _, by unfold maxLen; omega, Lies.nil, (fun x hx => by simp [Rc.zero] at hx), HB6.out⟩
                  | true =>
                    have HRF := Lib.hid (show Rc.rget x = (⟨kd, id, cl, tk, pn, sp⟩, 0) by rw [HRG.out]; rfl)
                    go_wp2_with (first | fail | refine wpList_storeR rfl _ _ rfl w.heap.size rfl kd id cl tk pn AA nn cc rfl _ _ _ _ _ _ HZ1.out ?k9)
                    case k9 =>
                      intro w6 hb6 hk6
                      obtain ⟨c0, c1, c2, c3, c4, c5⟩ := six13 hb6
                      have HB6 := Lib.hid (Kept.below HB1.out hk6 (by simp))
                      have HL6 := Lib.hid (lies_other13 HL1.out HZ1.out (by simp) hk6)
                      clear hb6 hk6 z0 z1 z2 z3 z4 z5
                      go_wp2
                      refine bodyPost_ret (v := .tuple #[.agg #[.int .i64 kd, .int .i64 id, .int .i64 cl, .int .i64 tk, .bool pn, .slice AA nn cc], .int .i64 0]) (by simp [results, Tryd.results13, go_sem, c0, c1, c2, c3, c4, c5, Result.andThen]) rfl ?_
                      rw [HRF.out]
                      exact ⟨AA, cc, by rw [HNR.out]; rfl, by rw [HNR.out]; exact HMR.out.1, HMR.out.2, HL6.out, HFR.out, HB6.out⟩

theorem rget13_any (A : Option Addr) (n cap : Nat) (x : List UInt8) (w : World) (hn : x.length = n) (hc : n ≤ cap) (hm : cap ≤ maxLen) (hf : n ≤ 1099511627776) (hA : Lies w A (cells x)) :
    Calls Tryd.prog 13 #[.slice A n cap] w (RGives13 w (Rc.rget x)) := by
  by_cases h0 : n = 0
  · obtain rfl := List.length_eq_zero_iff.1 (hn.trans h0)
    exact rget13_empty A n cap w h0
  · by_cases h1 : (x.getD 0 0).toNat = 1
    · by_cases h2 : 2 < n
      · exact rget13_seal A n cap x w hn h2 hc hm hf hA h1
      · exact rget13_short A n cap x w hn (by omega) (by omega) hm hA h1
    · exact rget13_other A n cap x w hn (by omega) hc hm hf hA h1
end Go.Proofs.YtdfeccmcefcpbaaDoor


