/-
  What is written to one sector changes no other one; a hurt turns what lies near, of one that was loose: the law DevPlace returns true at any input, and leaves what it was given as it was. Nothing is assumed.
-/
import Derived.Test.YtldecmodhppjpaaLw9

namespace Go.Proofs.Ytldecmodhppjpaa.devPlace
open Go.ChangeShapes Go.WideShapes Go.ChangeAt Go.RowKit
set_option maxRecDepth 100000

theorem stay {w w' : World} {b : Nat} {cs : Array Value} {t : TypeId} (h : Blk w b cs t) (k : Below w.heap.size w w') : Blk w' b cs t := (Kept.of k []).blk h (by simp)
theorem blk_lt {w : World} {b : Nat} {cs : Array Value} {t : TypeId} (h : Blk w b cs t) : b < w.heap.size := h.lt

set_option maxHeartbeats 8000000 in
theorem walk (w : World) (A : Option Addr) (cap : Nat) (l : List Oq) (hl : l.length ≤ cap) (hm : cap ≤ maxLen) (hA : Lies w A (flatQ l)) (_hQ : ∀ u ∈ l, OqIn w u) (t : Int) (ht : 0 ≤ t ∧ t ≤ 255) (x : Plain.Hu) (hxb : x.bits < 4294967296) (_hx1 : -9223372036854775808 ≤ x.at_) (_hx2 : x.at_ ≤ 9223372036854775807) :
    Calls Try.prog 5 #[.slice A l.length cap, .int .u8 t, .agg #[.int .i64 x.which, .int .i64 x.at_, .int .u32 (x.bits : Int)]] w fun e w' => e = .returned (.bool true) ∧ Below w.heap.size w w' := by
  obtain ⟨at_, rfl⟩ := Int.eq_ofNat_of_zero_le ht.1
  have ht2 : at_ ≤ 255 := by omega
  obtain ⟨n, hn⟩ : ∃ n, l.length = n := ⟨_, rfl⟩
  have HN := Lib.hid hn
  have HA := Lib.hid hA
  rw [hn] at hl
  rw [hn]
  unfold maxLen at hm
  clear ht hn hA
  go_enter Try.func5, Try.ntmps5
  have HBA := Lib.hid ((Below.refl w.heap.size w).alloc (Nat.le_refl _) (.cells #[.int .i64 x.which, .int .i64 x.at_, .int .u32 (x.bits : Int)] 51))
  have HBX := Lib.hid (Blk.new w #[.int .i64 x.which, .int .i64 x.at_, .int .u32 (x.bits : Int)] 51)
  go_wp2_with fail
  refine (head_any _).mono ?_
  rintro e w0 ⟨rfl, hB0⟩
  have HBX := Lib.hid (stay HBX.out hB0)
  have zx := blk_lt HBX.out
  have hB0 := HBA.out.trans (hB0.mono (by simp))
  obtain ⟨bx, hbx⟩ : ∃ b, w.heap.size = b := ⟨_, rfl⟩
  have HWX := Lib.hid hbx
  simp only [hbx] at HBX zx ⊢
  clear HBA
  go_wp2_with fail
  refine Calls.mono (show Calls Try.prog 11 #[.int .i64 8] w0 _ from newDev_yes 8 w0 (by omega) (by omega)) ?_
  rintro e w1 ⟨rfl, hd1, hB1⟩
  have HBX := Lib.hid (stay HBX.out hB1)
  obtain ⟨g, hg⟩ : ∃ g, w0.heap.size = g := ⟨_, rfl⟩
  have z0 := hB0.size
  rw [hg] at hd1 hB1 z0 zx ⊢
  have z1 := hd1.lt
  have HB1 := Lib.hid (hB0.trans (hB1.mono z0))
  have HD1 := Lib.hid hd1
  clear hd1 hB1 hB0 hg
  have HG := Lib.hid (great_any A n cap l w1 HN.out (by unfold maxLen; omega) (HA.out.below HB1.out))
  go_wp2_with fail
  refine HG.out.mono ?_
  rintro e w2 ⟨r, rfl, hr, hB2⟩
  have z2 := hB2.size
  have HD2 := Lib.hid (HD1.out.below hB2)
  have HBX := Lib.hid (stay HBX.out hB2)
  have HB2 := Lib.hid (HB1.out.trans (hB2.mono (by omega)))
  have HR := Lib.hid hr
  clear hB2 hr
  rcases r with _ | _
  case true =>
    go_wp2
    go_returns
    exact ⟨rfl, HB2.out⟩
  have hn2 : n ≤ 200 := HR.out rfl
  go_wp2
  go_loopw [9] (fun s wr => ∃ k : Nat, s = .int .i64 (k : Int) ∧ k ≤ n ∧ IsDev wr g (runW l k) ∧ Below w.heap.size w wr ∧ w2.heap.size ≤ wr.heap.size ∧ Kept [g, g + 1, g + 2] w2 wr) (fun s _ => n - (RowKit.intOf s).toNat)
  case atStart => exact ⟨0, rfl, Nat.zero_le _, HD2.out, HB2.out, Nat.le_refl _, Kept.refl _ _⟩
  case round =>
    obtain ⟨k, rfl, hk, hd, hB, hz, hK⟩ := hrel
    have HD := Lib.hid hd
    have HB := Lib.hid hB
    have HK := Lib.hid hK
    have HF := Lib.hid (runW_free l k (by rw [HN.out]; exact hk))
    clear hd hB hK
    by_cases hkn : k < n
    · have hkl : k < l.length := by rw [HN.out]; exact hkn
      obtain ⟨ad, rfl, hadb, hc⟩ := at_oq (HA.out.below HB.out) k hkl
      have HRS := Lib.hid (runW_succ l k hkl)
      obtain ⟨y, hx⟩ : ∃ y, l[k] = y := ⟨_, rfl⟩
      rw [hx] at hc HRS
      obtain ⟨xw, xa, xc, xbA, xbc, xb, xkA, xkc, xk, xhA, xhc, xh⟩ := y
      simp only at hc
      have hcw := (hc wr (Below.refl _ _)).1
      have HXA := Lib.hid (fun (W : World) (hW : Below wr.heap.size wr W) => run_loadI W _ _ (hc W hW).2.1)
      have HXC := Lib.hid (fun (W : World) (hW : Below wr.heap.size wr W) => run_loadU8 W _ _ (hc W hW).2.2.1)
      clear hc hx
      by_cases h4 : xw = 4
      · subst h4
        go_wp2_with fail
        refine (flush_any wr g (runW l k) (by have := HF.out.done; omega) HD.out).mono ?_
        rintro e w3 ⟨rfl, hd3, k3⟩
        have HD3 := Lib.hid hd3
        have z3 := k3.size
        have HB3 := Lib.hid (k3.belowB HB.out (by omega) (by simp; omega))
        have HK3 := Lib.hid (HK.out.trans k3)
        clear hd3 k3
        go_wp2
        go_roundw
        case rel =>
          refine ⟨k + 1, by go_num, by omega, ?_, HB3.out, by omega, HK3.out⟩
          rw [HRS.out]
          unfold stepW
          rw [if_pos rfl]
          exact HD3.out
        case measure => simp [RowKit.intOf]; omega
      · have t4 : (xw == 4) = false := by simpa using h4
        have hbd : Below wr.heap.size wr wr.drew := (Below.refl _ _).drew
        go_wp2
        refine wp_late (by kernel_rfl) 197 [(51, [8]), (52, [0]), (53, [9]), (54, [52, 53]), (55, [54]), (56, [55]), (57, [56]), (58, [0]), (59, [9]), (60, [58, 59]), (61, [60]), (62, [61]), (63, [62]), (1013, [51, 57, 63])]
          [Fact.is (.pointer (some ⟨g + 2, 0, none⟩)), Fact.is (.slice (some ad) n cap), Fact.is (.int .i64 (k : Int)), Fact.is (.pointer (some (Addr.add ad (k * 6)))), Fact.is (.pointer (some ⟨((Addr.add ad (k * 6))).block, ((Addr.add ad (k * 6))).off + 1, none⟩)), Fact.is (.int .i64 xa), Fact.is (.int .i64 (xa % 8)), Fact.is (.slice (some ad) n cap), Fact.is (.int .i64 (k : Int)), Fact.is (.pointer (some (Addr.add ad (k * 6)))), Fact.is (.pointer (some ⟨((Addr.add ad (k * 6))).block, ((Addr.add ad (k * 6))).off + 2, none⟩)), Fact.is (.int .u8 (xc.toNat : Int)), Fact.fl xc, default]
          [1, 1, 1, 1, 1, 1, 1, 1, 1, 1, 1, 1, 1, 2] [13] [] [51, 52, 53, 54, 55, 56, 57, 58, 59, 60, 61, 62, 63, 64] ((fun _ _ w' => IsDev w' g ((runW l k).write (xa % 8) (Plain.full xc)).1 ∧ Kept [g + 1, g + 2] wr w'))
          (by kernel_rfl) (by kernel_rfl) rfl rfl ⟨?s0, ?s1, ?s2, ?s3, ?s4, ?s5, ?s6, ?s7, ?s8, ?s9, ?s10, ?s11, ?s12, trivial⟩ ?late ?fin
        case s0 =>
          intro ρ W hb hc hf hr
          obtain ⟨r8, -⟩ := hr
          have e8 : ρ (.tmp 8) = .pointer (some ⟨g + 2, 0, none⟩) := r8
          clear r8
          refine under_none rfl ?_
          exact ⟨e8, Below.refl _ _⟩
        case s1 =>
          intro ρ W hb hc hf hr
          obtain ⟨r0, -⟩ := hr
          have e0 : ρ (.tmp 0) = .slice (some ad) n cap := r0
          clear r0
          refine under_none rfl ?_
          exact ⟨e0, Below.refl _ _⟩
        case s2 =>
          intro ρ W hb hc hf hr
          obtain ⟨r9, -⟩ := hr
          have e9 : ρ (.tmp 9) = .int .i64 (k : Int) := r9
          clear r9
          refine under_none rfl ?_
          exact ⟨e9, Below.refl _ _⟩
        case s3 =>
          intro ρ W hb hc hf hr
          obtain ⟨r52, r53, -⟩ := hr
          have e52 : ρ (.tmp 52) = .slice (some ad) n cap := r52
          clear r52
          have e53 : ρ (.tmp 53) = .int .i64 (k : Int) := r53
          clear r53
          refine under_none rfl ?_
          exact soft_index6 e52 e53 (by omega) rfl
        case s4 =>
          intro ρ W hb hc hf hr
          obtain ⟨r54, -⟩ := hr
          have e54 : ρ (.tmp 54) = .pointer (some (Addr.add ad (k * 6))) := r54
          clear r54
          refine under_none rfl ?_
          exact soft_field e54 rfl (fun W => by go_simp)
        case s5 =>
          intro ρ W hb hc hf hr
          obtain ⟨r55, -⟩ := hr
          have e55 : ρ (.tmp 55) = .pointer (some ⟨((Addr.add ad (k * 6))).block, ((Addr.add ad (k * 6))).off + 1, none⟩) := r55
          clear r55
          refine under_none rfl ?_
          exact soft_load e55 (HXA.out W (hbd.trans (hb.mono (by simp)))) rfl
        case s6 =>
          intro ρ W hb hc hf hr
          obtain ⟨r56, -⟩ := hr
          have e56 : ρ (.tmp 56) = .int .i64 xa := r56
          clear r56
          refine under_none rfl ?_
          exact soft_bin e56 (hc _) rfl rfl (and7 W xa)
        case s7 =>
          intro ρ W hb hc hf hr
          obtain ⟨r0, -⟩ := hr
          have e0 : ρ (.tmp 0) = .slice (some ad) n cap := r0
          clear r0
          refine under_none rfl ?_
          exact ⟨e0, Below.refl _ _⟩
        case s8 =>
          intro ρ W hb hc hf hr
          obtain ⟨r9, -⟩ := hr
          have e9 : ρ (.tmp 9) = .int .i64 (k : Int) := r9
          clear r9
          refine under_none rfl ?_
          exact ⟨e9, Below.refl _ _⟩
        case s9 =>
          intro ρ W hb hc hf hr
          obtain ⟨r58, r59, -⟩ := hr
          have e58 : ρ (.tmp 58) = .slice (some ad) n cap := r58
          clear r58
          have e59 : ρ (.tmp 59) = .int .i64 (k : Int) := r59
          clear r59
          refine under_none rfl ?_
          exact soft_index6 e58 e59 (by omega) rfl
        case s10 =>
          intro ρ W hb hc hf hr
          obtain ⟨r60, -⟩ := hr
          have e60 : ρ (.tmp 60) = .pointer (some (Addr.add ad (k * 6))) := r60
          clear r60
          refine under_none rfl ?_
          exact soft_field e60 rfl (fun W => by go_simp)
        case s11 =>
          intro ρ W hb hc hf hr
          obtain ⟨r61, -⟩ := hr
          have e61 : ρ (.tmp 61) = .pointer (some ⟨((Addr.add ad (k * 6))).block, ((Addr.add ad (k * 6))).off + 2, none⟩) := r61
          clear r61
          refine under_none rfl ?_
          exact soft_load e61 (HXC.out W (hbd.trans (hb.mono (by simp)))) rfl
        case s12 =>
          intro ρ W hb hc hf hr
          obtain ⟨r62, -⟩ := hr
          have e62 : ρ (.tmp 62) = .int .u8 (xc.toNat : Int) := r62
          clear r62
          refine under_none rfl ?_
          exact soft_fl hf e62 rfl
        case late =>
          intro p j o hj ho a W hsz h0 h1 hfr hou
          match p, hj with
          | 0, hj =>
            obtain rfl : 13 = j := Option.some.inj hj
            obtain rfl := Option.some.inj ho
            clear hj ho
            obtain ⟨hb, hhard⟩ := h0 rfl
            have e51 : a.eval (.tmp 51) = .pointer (some ⟨g + 2, 0, none⟩) := hhard 51 0 rfl rfl
            have e57 : a.eval (.tmp 57) = .int .i64 (xa % 8) := hhard 57 6 rfl rfl
            have r63 : (Fact.fl xc).φ (a.tmps.getD 63 undef) W := hhard 63 12 rfl rfl
            clear h0 h1 hhard hfr hou
            refine late_write (x := .tmp 51) (y := .tmp 57) (z := .tmp 63) rfl e51 e57 r63 (hbd.trans (hb.mono (by simp))) (by have := HF.out.done; omega) HD.out fun w' h1 h2 => ⟨_, rfl, h1, h2⟩
          | q + 1, hj => cases hj
        case fin =>
          intro a w3 ha hP
          obtain ⟨h1, h2⟩ := hP
          have HD3 := Lib.hid h1
          have z3 := h2.size
          have HB3 := Lib.hid (h2.belowB HB.out (by omega) (by simp; omega))
          have HK3 := Lib.hid (HK.out.trans (h2.mono (by simp)))
          clear h1 h2
          simp only [List.foldl_cons, List.foldl_nil] at ha
          generalize a.tmps.getD 51 undef = v51 at ha
          generalize a.tmps.getD 52 undef = v52 at ha
          generalize a.tmps.getD 53 undef = v53 at ha
          generalize a.tmps.getD 54 undef = v54 at ha
          generalize a.tmps.getD 55 undef = v55 at ha
          generalize a.tmps.getD 56 undef = v56 at ha
          generalize a.tmps.getD 57 undef = v57 at ha
          generalize a.tmps.getD 58 undef = v58 at ha
          generalize a.tmps.getD 59 undef = v59 at ha
          generalize a.tmps.getD 60 undef = v60 at ha
          generalize a.tmps.getD 61 undef = v61 at ha
          generalize a.tmps.getD 62 undef = v62 at ha
          generalize a.tmps.getD 63 undef = v63 at ha
          generalize a.tmps.getD 64 undef = v64 at ha
          simp only [Act.put, List.setIfInBounds_toArray, List.set_cons_succ, List.set_cons_zero] at ha
          subst ha
          go_wp2
          go_roundw
          case rel =>
            refine ⟨k + 1, by go_num, by omega, ?_, HB3.out, by omega, HK3.out⟩
            rw [HRS.out]
            unfold stepW
            rw [if_neg h4]
            exact HD3.out
          case measure => simp [RowKit.intOf]; omega
    · obtain rfl : n = k := by omega
      obtain ⟨D, hD⟩ : ∃ D, runW l n = D := ⟨_, rfl⟩
      rw [hD] at HD HF
      obtain ⟨q, hq, hq8⟩ := Plain.mod8 (at_ : Int)
      have HBX := Lib.hid (HK.out.blk HBX.out (by simp; omega))
      have HA11 := Lib.hid ((Below.refl wr.heap.size wr).alloc (Nat.le_refl _) (.cells #[.string .empty, .string .empty, .string .empty, .string .empty, .string .empty, .string .empty, .string .empty, .string .empty] 52))
      have HRV := Lib.hid (show ∃ La : Nat → ByteArray, RowV (wr.alloc (.cells #[.string .empty, .string .empty, .string .empty, .string .empty, .string .empty, .string .empty, .string .empty, .string .empty] 52)) wr.heap.size 52 (fun j => .string (La j)) ∧ ∀ j, j < 0 → La j = str (D.sec j) from ⟨fun _ => .empty, ⟨_, Blk.new wr _ _, rfl, fun i hi => by rcases lt8 hi with rfl | rfl | rfl | rfl | rfl | rfl | rfl | rfl <;> rfl⟩, fun j hj => absurd hj (by omega)⟩)
      have HD := Lib.hid (HD.out.below HA11.out)
      have HB := Lib.hid (HB.out.trans (HA11.out.mono (by omega)))
      have HBX := Lib.hid (stay HBX.out HA11.out)
      obtain ⟨qs, hqs⟩ : ∃ q, wr.heap.size = q := ⟨_, rfl⟩
      clear hD HK HA11
      go_wp2
      simp only [hqs] at HRV hz
      rw [hq]
      clear hq
      have hqg : g + 2 < qs := by omega
      have hwq : w.heap.size ≤ g := by omega
      have hxg : bx < g := by omega
      clear hz zx z0 z1 z2 HD1 HD2 HB1 HB2 HG HR
      go_loopw [12] (fun s wr => ∃ i : Nat, s = .int .i64 (i : Int) ∧ i ≤ 8 ∧ IsDev wr g D ∧ Blk wr bx #[.int .i64 x.which, .int .i64 x.at_, .int .u32 (x.bits : Int)] 51 ∧ (∃ La : Nat → ByteArray, RowV wr qs 52 (fun j => .string (La j)) ∧ ∀ j, j < i → La j = str (D.sec j)) ∧ Below w.heap.size w wr) (fun s _ => 8 - (RowKit.intOf s).toNat)
      case atStart => exact ⟨0, rfl, Nat.zero_le _, HD.out, HBX.out, HRV.out, HB.out⟩
      case round =>
        clear HD HBX HRV HB
        obtain ⟨i, rfl, hi, hd, hbx2, ⟨La, hrv, hla⟩, hB⟩ := hrel
        have HD := Lib.hid hd
        have HB := Lib.hid hB
        have HBX := Lib.hid hbx2
        have HRV := Lib.hid hrv
        have HLA := Lib.hid hla
        have zr := hB.size
        have zq := hrv.lt
        clear hd hB hbx2 hrv hla
        by_cases hi8 : i < 8
        · have hi0 : (0 : Int) ≤ (i : Int) := by omega
          have hi1 : (i : Int) < 8 := by omega
          have HR1 := Lib.hid (read_any wr g D (i : Int) HD.out)
          rw [HF.out.free.read i (by rw [HF.out.n]; exact hi8)] at HR1
          obtain ⟨X, hX⟩ : ∃ X, D.sec i = X := ⟨_, rfl⟩
          have HX := Lib.hid hX
          rw [hX] at HR1
          clear hX
          go_wp2_with fail
          refine HR1.out.mono ?_
          intro e wa hg
          obtain ⟨Aa, capa, rfl, la, hBa⟩ := hg.text
          have za := hBa.size
          have HB := Lib.hid (HB.out.trans (hBa.mono zr))
          have HD := Lib.hid (HD.out.below hBa)
          have HBX := Lib.hid (stay HBX.out hBa)
          have HRV := Lib.hid (HRV.out.below hBa)
          obtain ⟨S, hS⟩ : ∃ S, str X = S := ⟨_, rfl⟩
          obtain ⟨xn, hxn⟩ : ∃ xn, X.length = xn := ⟨_, rfl⟩
          have hcva := conv_lies (c := capa) la hxn
          rw [hS] at hcva
          rw [hxn]
          have HS := Lib.hid hS
          have hix := run_index8s wa qs i hi8
          have hcell := HRV.out.cell hi8
          have hfz := HRV.out.frozen i
          have hkp : Kept [qs] wa (wa.setCell ⟨qs, i, none⟩ (.string S)) := (Kept.refl _ _).setCell (by simp) _
          have HKP := Lib.hid hkp
          have HRV := Lib.hid (HRV.out.set hi8 (.string S))
          clear hg la hBa hS hxn hkp
          go_wp2
          go_roundw
          case rel =>
            refine ⟨i + 1, by go_num, by omega, HD.out.keep HKP.out (by simp; omega) (by simp; omega) (by simp; omega), HKP.out.blk HBX.out (by simp; omega), ⟨fun j => if j = i then S else La j, ?_, ?_⟩, HKP.out.belowB HB.out (by omega) (by simp; omega)⟩
            · have := HRV.out
              have e : Plain.upd (fun j => Value.string (La j)) i (.string S) = fun j => Value.string (if j = i then S else La j) := by
                funext j; unfold Plain.upd; split <;> rfl
              rwa [e] at this
            · intro j hj
              show (if j = i then S else La j) = _
              by_cases e : j = i
              · subst e; rw [if_pos rfl, HX.out, HS.out]
              · rw [if_neg e]; exact HLA.out j (by omega)
          case measure => simp [RowKit.intOf]; omega
        · obtain rfl : i = 8 := by omega
          clear hi hi8
          have HFU := Lib.hid (full_any 200 wr)
          go_wp2_with fail
          refine Calls.mono (show Calls Try.prog 23 #[.int .u8 200] wr _ from HFU.out) ?_
          rintro e wa ⟨bf, rfl, hf1, hf2, hBa⟩
          have za := hBa.size
          have HB := Lib.hid (HB.out.trans (hBa.mono zr))
          have HD := Lib.hid (HD.out.below hBa)
          have HBX := Lib.hid (stay HBX.out hBa)
          have HRV := Lib.hid (HRV.out.below hBa)
          have HWF := Lib.hid (write_full wa g D (q : Int) bf 200 hf2 (by have := HF.out.done; omega) HD.out)
          clear hf1 hf2 hBa
          go_wp2_with fail
          refine HWF.out.mono ?_
          rintro e wb ⟨rfl, hd1, hk1⟩
          have zb := hk1.size
          have HD1 := Lib.hid hd1
          have HB := Lib.hid (hk1.belowB HB.out (by omega) (by simp; omega))
          have HBX := Lib.hid (hk1.blk HBX.out (by simp; omega))
          have HRV := Lib.hid (HRV.out.kept hk1 (by simp; omega))
          have HF1 := Lib.hid (HF.out.free.write_free q (Plain.full 200) (by rw [HF.out.n]; exact hq8) (Plain.full_length _))
          have HS1 := Lib.hid (Plain.sec_write HF.out.free q (Plain.full 200) (by rw [HF.out.n]; exact hq8) (Plain.full_length _))
          have HN1 := Lib.hid (show (D.write (q : Int) (Plain.full 200)).1.n = 8 by rw [Plain.Dv.write_n]; exact HF.out.n)
          obtain ⟨D1, hD1⟩ : ∃ D1, (D.write (q : Int) (Plain.full 200)).1 = D1 := ⟨_, rfl⟩
          rw [hD1] at HD1 HF1 HS1 HN1
          have HLA := Lib.hid (show (∀ j, j < 0 → La j = str (D1.sec j)) ∧ ∀ j, 0 ≤ j → j < 8 → La j = str (D.sec j) from ⟨fun j hj => absurd hj (by omega), fun j _ hj => HLA.out j hj⟩)
          clear hd1 hk1 hD1 HWF HFU HD
          go_wp2
          go_loopw [15] (fun s wr => ∃ i : Nat, s = .int .i64 (i : Int) ∧ i ≤ 8 ∧ IsDev wr g D1 ∧ Blk wr bx #[.int .i64 x.which, .int .i64 x.at_, .int .u32 (x.bits : Int)] 51 ∧ (∃ La : Nat → ByteArray, RowV wr qs 52 (fun j => .string (La j)) ∧ (∀ j, j < i → La j = str (D1.sec j)) ∧ ∀ j, i ≤ j → j < 8 → La j = str (D.sec j)) ∧ Below w.heap.size w wr) (fun s _ => 8 - (RowKit.intOf s).toNat)
          case atStart => exact ⟨0, rfl, Nat.zero_le _, HD1.out, HBX.out, ⟨La, HRV.out, HLA.out⟩, HB.out⟩
          case round =>
            clear HD1 HBX HRV HB HLA
            obtain ⟨i, rfl, hi, hd, hbx2, ⟨La, hrv, hla, hlb⟩, hB⟩ := hrel
            have HD1 := Lib.hid hd
            have HB := Lib.hid hB
            have HBX := Lib.hid hbx2
            have HRV := Lib.hid hrv
            have HLA := Lib.hid hla
            have HLB := Lib.hid hlb
            have zr := hB.size
            have zq := hrv.lt
            clear hd hB hbx2 hrv hla hlb
            by_cases hi8 : i < 8
            · have hi0 : (0 : Int) ≤ (i : Int) := by omega
              have hi1 : (i : Int) < 8 := by omega
              have HR1 := Lib.hid (read_any wr g D1 (i : Int) HD1.out)
              rw [HF1.out.read i (by rw [HN1.out]; exact hi8)] at HR1
              have HXL := Lib.hid (D1.sec_length HF1.out.ok i (by rw [HN1.out]; exact hi8))
              have HXS := Lib.hid (show D1.sec i = if i = q then Plain.full 200 else D.sec i from HS1.out i)
              have HXB := Lib.hid (show La i = str (D.sec i) from HLB.out i (Nat.le_refl _) hi8)
              obtain ⟨X, hX⟩ : ∃ X, D1.sec i = X := ⟨_, rfl⟩
              have HX := Lib.hid hX
              rw [hX] at HR1 HXL HXS
              clear hX
              go_wp2_with fail
              refine HR1.out.mono ?_
              intro e wa2 hg
              obtain ⟨A8, cap8, rfl, la, hBa⟩ := hg.text
              have za2 := hBa.size
              have HB := Lib.hid (HB.out.trans (hBa.mono zr))
              have HD1 := Lib.hid (HD1.out.below hBa)
              have HBX := Lib.hid (stay HBX.out hBa)
              have HRV := Lib.hid (HRV.out.below hBa)
              rw [HXL.out]
              have HL8 := Lib.hid la
              have hbd : Below wa2.heap.size wa2 wa2.drew := (Below.refl _ _).drew
              clear hg la hBa
              by_cases hiq : i = q
              · rw [if_pos hiq] at HXS
                have HX := Lib.hid (show D1.sec i = Plain.full 200 by rw [HX.out, HXS.out])
                have HL8 := Lib.hid (show Lies wa2 A8 (cells (Plain.full 200)) by rw [← HXS.out]; exact HL8.out)
                have HNE := Lib.hid (fun W : World => ne_int W (i : Int) (q : Int) false (by subst hiq; simp))
                have HEQ := Lib.hid (fun W : World => eq_int W (i : Int) (q : Int) true (by subst hiq; simp))
                clear HXS hiq
                go_wp2
                refine wp_softS (by kernel_rfl) 197 [(96, [15]), (97, [10]), (98, [96, 97]), (99, [98]), (100, [16, 99]), (101, [100, 99]), (102, [15, 99]), (103, [11, 102, 99]), (104, [103, 99]), (105, [101, 104, 99]), (106, [99, 105]), (107, [106]), (108, [15, 107]), (109, [10, 107]), (110, [108, 109, 107]), (111, [110, 107]), (112, [16, 111]), (113, [112, 111]), (114, [111]), (115, [114, 111]), (116, [113, 115, 111]), (117, [111, 116, 107]), (118, [107, 117])]
                  [Fact.is (.int .i64 (i : Int)), Fact.is (.int .i64 (q : Int)), Fact.is (.bool false), Fact.is (.bool false), Fact.is (undef), Fact.is (undef), Fact.is (undef), Fact.is (undef), Fact.is (undef), Fact.is (undef), Fact.is (.bool false), Fact.is (.bool false), Fact.is (.int .i64 (i : Int)), Fact.is (.int .i64 (q : Int)), Fact.is (.bool true), Fact.is (.bool true), Fact.is (.slice A8 64 cap8), Fact.is (.string (str (Plain.full 200))), Fact.lie 64 (cells (Plain.full 200)), Fact.is (.string (str (Plain.full 200))), Fact.is (.bool false), Fact.is (.bool false), Fact.is (.bool false)]
                  (by kernel_rfl) rfl rfl ⟨?s0, ?s1, ?s2, ?s3, ?s4, ?s5, ?s6, ?s7, ?s8, ?s9, ?s10, ?s11, ?s12, ?s13, ?s14, ?s15, ?s16, ?s17, ?s18, ?s19, ?s20, ?s21, ?s22, trivial⟩ ?fin
                case s0 =>
                  intro ρ W hb hc hf hr
                  obtain ⟨r15, -⟩ := hr
                  have e15 : ρ (.tmp 15) = .int .i64 (i : Int) := r15
                  clear r15
                  refine under_none rfl ?_
                  exact ⟨e15, Below.refl _ _⟩
                case s1 =>
                  intro ρ W hb hc hf hr
                  obtain ⟨r10, -⟩ := hr
                  have e10 : ρ (.tmp 10) = .int .i64 (q : Int) := r10
                  clear r10
                  refine under_none rfl ?_
                  exact ⟨e10, Below.refl _ _⟩
                case s2 =>
                  intro ρ W hb hc hf hr
                  obtain ⟨r96, r97, -⟩ := hr
                  have e96 : ρ (.tmp 96) = .int .i64 (i : Int) := r96
                  clear r96
                  have e97 : ρ (.tmp 97) = .int .i64 (q : Int) := r97
                  clear r97
                  refine under_none rfl ?_
                  exact soft_bin e96 e97 rfl rfl (HNE.out W)
                case s3 =>
                  intro ρ W hb hc hf hr
                  obtain ⟨r98, -⟩ := hr
                  have e98 : ρ (.tmp 98) = .bool false := r98
                  clear r98
                  refine under_none rfl ?_
                  exact ⟨e98, Below.refl _ _⟩
                case s4 =>
                  intro ρ W hb hc hf hr
                  obtain ⟨r16, r99, -⟩ := hr
                  have e16 : ρ (.tmp 16) = .slice A8 64 cap8 := r16
                  clear r16
                  have e99 : ρ (.tmp 99) = .bool false := r99
                  clear r99
                  exact ⟨99, rfl, .inr (.inl ⟨e99, rfl⟩)⟩
                case s5 =>
                  intro ρ W hb hc hf hr
                  obtain ⟨r100, r99, -⟩ := hr
                  have e100 : ρ (.tmp 100) = undef := r100
                  clear r100
                  have e99 : ρ (.tmp 99) = .bool false := r99
                  clear r99
                  exact ⟨99, rfl, .inr (.inl ⟨e99, rfl⟩)⟩
                case s6 =>
                  intro ρ W hb hc hf hr
                  obtain ⟨r15, r99, -⟩ := hr
                  have e15 : ρ (.tmp 15) = .int .i64 (i : Int) := r15
                  clear r15
                  have e99 : ρ (.tmp 99) = .bool false := r99
                  clear r99
                  exact ⟨99, rfl, .inr (.inl ⟨e99, rfl⟩)⟩
                case s7 =>
                  intro ρ W hb hc hf hr
                  obtain ⟨r11, r102, r99, -⟩ := hr
                  have e11 : ρ (.tmp 11) = .pointer (some ⟨qs, 0, none⟩) := r11
                  clear r11
                  have e102 : ρ (.tmp 102) = undef := r102
                  clear r102
                  have e99 : ρ (.tmp 99) = .bool false := r99
                  clear r99
                  exact ⟨99, rfl, .inr (.inl ⟨e99, rfl⟩)⟩
                case s8 =>
                  intro ρ W hb hc hf hr
                  obtain ⟨r103, r99, -⟩ := hr
                  have e103 : ρ (.tmp 103) = undef := r103
                  clear r103
                  have e99 : ρ (.tmp 99) = .bool false := r99
                  clear r99
                  exact ⟨99, rfl, .inr (.inl ⟨e99, rfl⟩)⟩
                case s9 =>
                  intro ρ W hb hc hf hr
                  obtain ⟨r101, r104, r99, -⟩ := hr
                  have e101 : ρ (.tmp 101) = undef := r101
                  clear r101
                  have e104 : ρ (.tmp 104) = undef := r104
                  clear r104
                  have e99 : ρ (.tmp 99) = .bool false := r99
                  clear r99
                  exact ⟨99, rfl, .inr (.inl ⟨e99, rfl⟩)⟩
                case s10 =>
                  intro ρ W hb hc hf hr
                  obtain ⟨r99, r105, -⟩ := hr
                  have e99 : ρ (.tmp 99) = .bool false := r99
                  clear r99
                  have e105 : ρ (.tmp 105) = undef := r105
                  clear r105
                  refine under_none rfl ?_
                  simp [execOp, e99, hc, go_sem, softUpon, Fact.is, Below.refl]
                case s11 =>
                  intro ρ W hb hc hf hr
                  obtain ⟨r106, -⟩ := hr
                  have e106 : ρ (.tmp 106) = .bool false := r106
                  clear r106
                  refine under_none rfl ?_
                  exact ⟨e106, Below.refl _ _⟩
                case s12 =>
                  intro ρ W hb hc hf hr
                  obtain ⟨r15, r107, -⟩ := hr
                  have e15 : ρ (.tmp 15) = .int .i64 (i : Int) := r15
                  clear r15
                  have e107 : ρ (.tmp 107) = .bool false := r107
                  clear r107
                  refine ⟨107, rfl, .inl ⟨e107, ?_⟩⟩
                  exact ⟨e15, Below.refl _ _⟩
                case s13 =>
                  intro ρ W hb hc hf hr
                  obtain ⟨r10, r107, -⟩ := hr
                  have e10 : ρ (.tmp 10) = .int .i64 (q : Int) := r10
                  clear r10
                  have e107 : ρ (.tmp 107) = .bool false := r107
                  clear r107
                  refine ⟨107, rfl, .inl ⟨e107, ?_⟩⟩
                  exact ⟨e10, Below.refl _ _⟩
                case s14 =>
                  intro ρ W hb hc hf hr
                  obtain ⟨r108, r109, r107, -⟩ := hr
                  have e108 : ρ (.tmp 108) = .int .i64 (i : Int) := r108
                  clear r108
                  have e109 : ρ (.tmp 109) = .int .i64 (q : Int) := r109
                  clear r109
                  have e107 : ρ (.tmp 107) = .bool false := r107
                  clear r107
                  refine ⟨107, rfl, .inl ⟨e107, ?_⟩⟩
                  exact soft_bin e108 e109 rfl rfl (HEQ.out W)
                case s15 =>
                  intro ρ W hb hc hf hr
                  obtain ⟨r110, r107, -⟩ := hr
                  have e110 : ρ (.tmp 110) = .bool true := r110
                  clear r110
                  have e107 : ρ (.tmp 107) = .bool false := r107
                  clear r107
                  refine ⟨107, rfl, .inl ⟨e107, ?_⟩⟩
                  exact ⟨e110, Below.refl _ _⟩
                case s16 =>
                  intro ρ W hb hc hf hr
                  obtain ⟨r16, r111, -⟩ := hr
                  have e16 : ρ (.tmp 16) = .slice A8 64 cap8 := r16
                  clear r16
                  have e111 : ρ (.tmp 111) = .bool true := r111
                  clear r111
                  refine ⟨111, rfl, .inl ⟨e111, ?_⟩⟩
                  exact ⟨e16, Below.refl _ _⟩
                case s17 =>
                  intro ρ W hb hc hf hr
                  obtain ⟨r112, r111, -⟩ := hr
                  have e112 : ρ (.tmp 112) = .slice A8 64 cap8 := r112
                  clear r112
                  have e111 : ρ (.tmp 111) = .bool true := r111
                  clear r111
                  refine ⟨111, rfl, .inl ⟨e111, ?_⟩⟩
                  exact soft_conv e112 (conv_lies (HL8.out.below (hbd.trans (hb.mono (by simp)))) (Plain.full_length 200)) rfl
                case s18 =>
                  intro ρ W hb hc hf hr
                  obtain ⟨r111, -⟩ := hr
                  have e111 : ρ (.tmp 111) = .bool true := r111
                  clear r111
                  refine ⟨111, rfl, .inl ⟨e111, ?_⟩⟩
                  exact soft_full hf (hc _) rfl
                case s19 =>
                  intro ρ W hb hc hf hr
                  obtain ⟨r114, r111, -⟩ := hr
                  have e111 : ρ (.tmp 111) = .bool true := r111
                  clear r111
                  refine ⟨111, rfl, .inl ⟨e111, ?_⟩⟩
                  exact soft_convL r114 (Plain.full_length 200) rfl
                case s20 =>
                  intro ρ W hb hc hf hr
                  obtain ⟨r113, r115, r111, -⟩ := hr
                  have e113 : ρ (.tmp 113) = .string (str (Plain.full 200)) := r113
                  clear r113
                  have e115 : ρ (.tmp 115) = .string (str (Plain.full 200)) := r115
                  clear r115
                  have e111 : ρ (.tmp 111) = .bool true := r111
                  clear r111
                  refine ⟨111, rfl, .inl ⟨e111, ?_⟩⟩
                  exact soft_bin e113 e115 rfl rfl (ne_text W _)
                case s21 =>
                  intro ρ W hb hc hf hr
                  obtain ⟨r111, r116, r107, -⟩ := hr
                  have e111 : ρ (.tmp 111) = .bool true := r111
                  clear r111
                  have e116 : ρ (.tmp 116) = .bool false := r116
                  clear r116
                  have e107 : ρ (.tmp 107) = .bool false := r107
                  clear r107
                  refine ⟨107, rfl, .inl ⟨e107, ?_⟩⟩
                  simp [execOp, e111, e116, go_sem, softUpon, Fact.is, Below.refl]
                case s22 =>
                  intro ρ W hb hc hf hr
                  obtain ⟨r107, r117, -⟩ := hr
                  have e107 : ρ (.tmp 107) = .bool false := r107
                  clear r107
                  have e117 : ρ (.tmp 117) = .bool false := r117
                  clear r117
                  refine under_none rfl ?_
                  simp [execOp, e107, e117, go_sem, softUpon, Fact.is, Below.refl]
                case fin =>
                  intro a w1 hb hd hsz hk
                  have ea := act_puts hd hsz rfl hk
                  have k96 : a.tmps.getD 96 undef = .int .i64 (i : Int) := hk 96
                  have k97 : a.tmps.getD 97 undef = .int .i64 (q : Int) := hk 97
                  have k98 : a.tmps.getD 98 undef = .bool false := hk 98
                  have k99 : a.tmps.getD 99 undef = .bool false := hk 99
                  have k100 : a.tmps.getD 100 undef = undef := hk 100
                  have k101 : a.tmps.getD 101 undef = undef := hk 101
                  have k102 : a.tmps.getD 102 undef = undef := hk 102
                  have k103 : a.tmps.getD 103 undef = undef := hk 103
                  have k104 : a.tmps.getD 104 undef = undef := hk 104
                  have k105 : a.tmps.getD 105 undef = undef := hk 105
                  have k106 : a.tmps.getD 106 undef = .bool false := hk 106
                  have k107 : a.tmps.getD 107 undef = .bool false := hk 107
                  have k108 : a.tmps.getD 108 undef = .int .i64 (i : Int) := hk 108
                  have k109 : a.tmps.getD 109 undef = .int .i64 (q : Int) := hk 109
                  have k110 : a.tmps.getD 110 undef = .bool true := hk 110
                  have k111 : a.tmps.getD 111 undef = .bool true := hk 111
                  have k112 : a.tmps.getD 112 undef = .slice A8 64 cap8 := hk 112
                  have k113 : a.tmps.getD 113 undef = .string (str (Plain.full 200)) := hk 113
                  have k114 : (Fact.lie 64 (cells (Plain.full 200))).φ (a.tmps.getD 114 undef) w1 := hk 114
                  have k115 : a.tmps.getD 115 undef = .string (str (Plain.full 200)) := hk 115
                  have k116 : a.tmps.getD 116 undef = .bool false := hk 116
                  have k117 : a.tmps.getD 117 undef = .bool false := hk 117
                  have k118 : a.tmps.getD 118 undef = .bool false := hk 118
                  clear hk hd hsz
                  simp only [List.map_cons, List.map_nil, List.foldl_cons, List.foldl_nil, k96, k97, k98, k99, k100, k101, k102, k103, k104, k105, k106, k107, k108, k109, k110, k111, k112, k113, k115, k116, k117, k118] at ea
                  clear k96 k97 k98 k99 k100 k101 k102 k103 k104 k105 k106 k107 k108 k109 k110 k111 k112 k113 k115 k116 k117 k118
                  generalize a.tmps.getD 114 undef = v114 at ea k114
                  simp only [Act.put, List.setIfInBounds_toArray, List.set_cons_succ, List.set_cons_zero] at ea
                  subst ea
                  have dV := hbd.trans (hb.mono (by simp))
                  have HB := Lib.hid (HB.out.trans (dV.mono (by omega)))
                  have HD1 := Lib.hid (HD1.out.below dV)
                  have HBX := Lib.hid (stay HBX.out dV)
                  have HRV := Lib.hid (HRV.out.below dV)
                  have hcva := conv_lies (c := cap8) (HL8.out.below dV) (Plain.full_length 200)
                  have hix := run_index8s w1 qs i hi8
                  have hcell := HRV.out.cell hi8
                  have hfz := HRV.out.frozen i
                  obtain ⟨S, hS⟩ : ∃ S, str (Plain.full 200) = S := ⟨_, rfl⟩
                  rw [hS] at hcva
                  have HS := Lib.hid hS
                  have hkp : Kept [qs] w1 (w1.setCell ⟨qs, i, none⟩ (.string S)) := (Kept.refl _ _).setCell (by simp) _
                  have HKP := Lib.hid hkp
                  have zw1 := dV.size
                  have HRV := Lib.hid (HRV.out.set hi8 (.string S))
                  clear hS hkp hb dV
                  go_wp2
                  go_roundw
                  case rel =>
                    refine ⟨i + 1, by go_num, by omega, HD1.out.keep HKP.out (by simp; omega) (by simp; omega) (by simp; omega), HKP.out.blk HBX.out (by simp; omega), ⟨fun j => if j = i then S else La j, ?_, ?_, ?_⟩, HKP.out.belowB HB.out (by omega) (by simp; omega)⟩
                    · have := HRV.out
                      have e : Plain.upd (fun j => Value.string (La j)) i (.string S) = fun j => Value.string (if j = i then S else La j) := by
                        funext j; unfold Plain.upd; split <;> rfl
                      rwa [e] at this
                    · intro j hj
                      show (if j = i then S else La j) = _
                      by_cases e : j = i
                      · subst e; rw [if_pos rfl, HX.out, HS.out]
                      · rw [if_neg e]; exact HLA.out j (by omega)
                    · intro j hj hj8
                      show (if j = i then S else La j) = _
                      rw [if_neg (by omega)]; exact HLB.out j (by omega) hj8
                  case measure => simp [RowKit.intOf]; omega
              · have HNE := Lib.hid (fun W : World => ne_int W (i : Int) (q : Int) true (by simp; omega))
                have HEQ := Lib.hid (fun W : World => eq_int W (i : Int) (q : Int) false (by simp; omega))
                rw [if_neg hiq] at HXS
                rw [← HXS.out] at HXB
                have HLS := Lib.hid (fun (W : World) (hW : Below wa2.heap.size wa2 W) => run_loadS W ⟨qs, i, none⟩ (str X) (by have := (HRV.out.below hW).cell hi8; rwa [HXB.out] at this))
                go_wp2
                refine wp_softS (by kernel_rfl) 197 [(96, [15]), (97, [10]), (98, [96, 97]), (99, [98]), (100, [16, 99]), (101, [100, 99]), (102, [15, 99]), (103, [11, 102, 99]), (104, [103, 99]), (105, [101, 104, 99]), (106, [99, 105]), (107, [106]), (108, [15, 107]), (109, [10, 107]), (110, [108, 109, 107]), (111, [110, 107]), (112, [16, 111]), (113, [112, 111]), (114, [111]), (115, [114, 111]), (116, [113, 115, 111]), (117, [111, 116, 107]), (118, [107, 117])]
                  [Fact.is (.int .i64 (i : Int)), Fact.is (.int .i64 (q : Int)), Fact.is (.bool true), Fact.is (.bool true), Fact.is (.slice A8 64 cap8), Fact.is (.string (str X)), Fact.is (.int .i64 (i : Int)), Fact.is (.pointer (some ⟨qs, i, none⟩)), Fact.is (.string (str X)), Fact.is (.bool false), Fact.is (.bool false), Fact.is (.bool false), Fact.is (.int .i64 (i : Int)), Fact.is (.int .i64 (q : Int)), Fact.is (.bool false), Fact.is (.bool false), Fact.is (undef), Fact.is (undef), Fact.is (undef), Fact.is (undef), Fact.is (undef), Fact.is (.bool false), Fact.is (.bool false)]
                  (by kernel_rfl) rfl rfl ⟨?s0, ?s1, ?s2, ?s3, ?s4, ?s5, ?s6, ?s7, ?s8, ?s9, ?s10, ?s11, ?s12, ?s13, ?s14, ?s15, ?s16, ?s17, ?s18, ?s19, ?s20, ?s21, ?s22, trivial⟩ ?fin
                case s0 =>
                  intro ρ W hb hc hf hr
                  obtain ⟨r15, -⟩ := hr
                  have e15 : ρ (.tmp 15) = .int .i64 (i : Int) := r15
                  clear r15
                  refine under_none rfl ?_
                  exact ⟨e15, Below.refl _ _⟩
                case s1 =>
                  intro ρ W hb hc hf hr
                  obtain ⟨r10, -⟩ := hr
                  have e10 : ρ (.tmp 10) = .int .i64 (q : Int) := r10
                  clear r10
                  refine under_none rfl ?_
                  exact ⟨e10, Below.refl _ _⟩
                case s2 =>
                  intro ρ W hb hc hf hr
                  obtain ⟨r96, r97, -⟩ := hr
                  have e96 : ρ (.tmp 96) = .int .i64 (i : Int) := r96
                  clear r96
                  have e97 : ρ (.tmp 97) = .int .i64 (q : Int) := r97
                  clear r97
                  refine under_none rfl ?_
                  exact soft_bin e96 e97 rfl rfl (HNE.out W)
                case s3 =>
                  intro ρ W hb hc hf hr
                  obtain ⟨r98, -⟩ := hr
                  have e98 : ρ (.tmp 98) = .bool true := r98
                  clear r98
                  refine under_none rfl ?_
                  exact ⟨e98, Below.refl _ _⟩
                case s4 =>
                  intro ρ W hb hc hf hr
                  obtain ⟨r16, r99, -⟩ := hr
                  have e16 : ρ (.tmp 16) = .slice A8 64 cap8 := r16
                  clear r16
                  have e99 : ρ (.tmp 99) = .bool true := r99
                  clear r99
                  refine ⟨99, rfl, .inl ⟨e99, ?_⟩⟩
                  exact ⟨e16, Below.refl _ _⟩
                case s5 =>
                  intro ρ W hb hc hf hr
                  obtain ⟨r100, r99, -⟩ := hr
                  have e100 : ρ (.tmp 100) = .slice A8 64 cap8 := r100
                  clear r100
                  have e99 : ρ (.tmp 99) = .bool true := r99
                  clear r99
                  refine ⟨99, rfl, .inl ⟨e99, ?_⟩⟩
                  exact soft_conv e100 (conv_lies (HL8.out.below (hbd.trans (hb.mono (by simp)))) HXL.out) rfl
                case s6 =>
                  intro ρ W hb hc hf hr
                  obtain ⟨r15, r99, -⟩ := hr
                  have e15 : ρ (.tmp 15) = .int .i64 (i : Int) := r15
                  clear r15
                  have e99 : ρ (.tmp 99) = .bool true := r99
                  clear r99
                  refine ⟨99, rfl, .inl ⟨e99, ?_⟩⟩
                  exact ⟨e15, Below.refl _ _⟩
                case s7 =>
                  intro ρ W hb hc hf hr
                  obtain ⟨r11, r102, r99, -⟩ := hr
                  have e11 : ρ (.tmp 11) = .pointer (some ⟨qs, 0, none⟩) := r11
                  clear r11
                  have e102 : ρ (.tmp 102) = .int .i64 (i : Int) := r102
                  clear r102
                  have e99 : ρ (.tmp 99) = .bool true := r99
                  clear r99
                  refine ⟨99, rfl, .inl ⟨e99, ?_⟩⟩
                  exact soft_index e11 e102 (run_index8s W qs i hi8) rfl
                case s8 =>
                  intro ρ W hb hc hf hr
                  obtain ⟨r103, r99, -⟩ := hr
                  have e103 : ρ (.tmp 103) = .pointer (some ⟨qs, i, none⟩) := r103
                  clear r103
                  have e99 : ρ (.tmp 99) = .bool true := r99
                  clear r99
                  refine ⟨99, rfl, .inl ⟨e99, ?_⟩⟩
                  exact soft_load e103 (HLS.out W (hbd.trans (hb.mono (by simp)))) rfl
                case s9 =>
                  intro ρ W hb hc hf hr
                  obtain ⟨r101, r104, r99, -⟩ := hr
                  have e101 : ρ (.tmp 101) = .string (str X) := r101
                  clear r101
                  have e104 : ρ (.tmp 104) = .string (str X) := r104
                  clear r104
                  have e99 : ρ (.tmp 99) = .bool true := r99
                  clear r99
                  refine ⟨99, rfl, .inl ⟨e99, ?_⟩⟩
                  exact soft_bin e101 e104 rfl rfl (ne_text W _)
                case s10 =>
                  intro ρ W hb hc hf hr
                  obtain ⟨r99, r105, -⟩ := hr
                  have e99 : ρ (.tmp 99) = .bool true := r99
                  clear r99
                  have e105 : ρ (.tmp 105) = .bool false := r105
                  clear r105
                  refine under_none rfl ?_
                  simp [execOp, e99, e105, go_sem, softUpon, Fact.is, Below.refl]
                case s11 =>
                  intro ρ W hb hc hf hr
                  obtain ⟨r106, -⟩ := hr
                  have e106 : ρ (.tmp 106) = .bool false := r106
                  clear r106
                  refine under_none rfl ?_
                  exact ⟨e106, Below.refl _ _⟩
                case s12 =>
                  intro ρ W hb hc hf hr
                  obtain ⟨r15, r107, -⟩ := hr
                  have e15 : ρ (.tmp 15) = .int .i64 (i : Int) := r15
                  clear r15
                  have e107 : ρ (.tmp 107) = .bool false := r107
                  clear r107
                  refine ⟨107, rfl, .inl ⟨e107, ?_⟩⟩
                  exact ⟨e15, Below.refl _ _⟩
                case s13 =>
                  intro ρ W hb hc hf hr
                  obtain ⟨r10, r107, -⟩ := hr
                  have e10 : ρ (.tmp 10) = .int .i64 (q : Int) := r10
                  clear r10
                  have e107 : ρ (.tmp 107) = .bool false := r107
                  clear r107
                  refine ⟨107, rfl, .inl ⟨e107, ?_⟩⟩
                  exact ⟨e10, Below.refl _ _⟩
                case s14 =>
                  intro ρ W hb hc hf hr
                  obtain ⟨r108, r109, r107, -⟩ := hr
                  have e108 : ρ (.tmp 108) = .int .i64 (i : Int) := r108
                  clear r108
                  have e109 : ρ (.tmp 109) = .int .i64 (q : Int) := r109
                  clear r109
                  have e107 : ρ (.tmp 107) = .bool false := r107
                  clear r107
                  refine ⟨107, rfl, .inl ⟨e107, ?_⟩⟩
                  exact soft_bin e108 e109 rfl rfl (HEQ.out W)
                case s15 =>
                  intro ρ W hb hc hf hr
                  obtain ⟨r110, r107, -⟩ := hr
                  have e110 : ρ (.tmp 110) = .bool false := r110
                  clear r110
                  have e107 : ρ (.tmp 107) = .bool false := r107
                  clear r107
                  refine ⟨107, rfl, .inl ⟨e107, ?_⟩⟩
                  exact ⟨e110, Below.refl _ _⟩
                case s16 =>
                  intro ρ W hb hc hf hr
                  obtain ⟨r16, r111, -⟩ := hr
                  have e16 : ρ (.tmp 16) = .slice A8 64 cap8 := r16
                  clear r16
                  have e111 : ρ (.tmp 111) = .bool false := r111
                  clear r111
                  exact ⟨111, rfl, .inr (.inl ⟨e111, rfl⟩)⟩
                case s17 =>
                  intro ρ W hb hc hf hr
                  obtain ⟨r112, r111, -⟩ := hr
                  have e112 : ρ (.tmp 112) = undef := r112
                  clear r112
                  have e111 : ρ (.tmp 111) = .bool false := r111
                  clear r111
                  exact ⟨111, rfl, .inr (.inl ⟨e111, rfl⟩)⟩
                case s18 =>
                  intro ρ W hb hc hf hr
                  obtain ⟨r111, -⟩ := hr
                  have e111 : ρ (.tmp 111) = .bool false := r111
                  clear r111
                  exact ⟨111, rfl, .inr (.inl ⟨e111, rfl⟩)⟩
                case s19 =>
                  intro ρ W hb hc hf hr
                  obtain ⟨r114, r111, -⟩ := hr
                  have e114 : ρ (.tmp 114) = undef := r114
                  clear r114
                  have e111 : ρ (.tmp 111) = .bool false := r111
                  clear r111
                  exact ⟨111, rfl, .inr (.inl ⟨e111, rfl⟩)⟩
                case s20 =>
                  intro ρ W hb hc hf hr
                  obtain ⟨r113, r115, r111, -⟩ := hr
                  have e113 : ρ (.tmp 113) = undef := r113
                  clear r113
                  have e115 : ρ (.tmp 115) = undef := r115
                  clear r115
                  have e111 : ρ (.tmp 111) = .bool false := r111
                  clear r111
                  exact ⟨111, rfl, .inr (.inl ⟨e111, rfl⟩)⟩
                case s21 =>
                  intro ρ W hb hc hf hr
                  obtain ⟨r111, r116, r107, -⟩ := hr
                  have e111 : ρ (.tmp 111) = .bool false := r111
                  clear r111
                  have e116 : ρ (.tmp 116) = undef := r116
                  clear r116
                  have e107 : ρ (.tmp 107) = .bool false := r107
                  clear r107
                  refine ⟨107, rfl, .inl ⟨e107, ?_⟩⟩
                  simp [execOp, e111, hc, go_sem, softUpon, Fact.is, Below.refl]
                case s22 =>
                  intro ρ W hb hc hf hr
                  obtain ⟨r107, r117, -⟩ := hr
                  have e107 : ρ (.tmp 107) = .bool false := r107
                  clear r107
                  have e117 : ρ (.tmp 117) = .bool false := r117
                  clear r117
                  refine under_none rfl ?_
                  simp [execOp, e107, e117, go_sem, softUpon, Fact.is, Below.refl]
                case fin =>
                  intro a w1 hb hd hsz hk
                  have ea := act_puts hd hsz rfl hk
                  have k96 : a.tmps.getD 96 undef = .int .i64 (i : Int) := hk 96
                  have k97 : a.tmps.getD 97 undef = .int .i64 (q : Int) := hk 97
                  have k98 : a.tmps.getD 98 undef = .bool true := hk 98
                  have k99 : a.tmps.getD 99 undef = .bool true := hk 99
                  have k100 : a.tmps.getD 100 undef = .slice A8 64 cap8 := hk 100
                  have k101 : a.tmps.getD 101 undef = .string (str X) := hk 101
                  have k102 : a.tmps.getD 102 undef = .int .i64 (i : Int) := hk 102
                  have k103 : a.tmps.getD 103 undef = .pointer (some ⟨qs, i, none⟩) := hk 103
                  have k104 : a.tmps.getD 104 undef = .string (str X) := hk 104
                  have k105 : a.tmps.getD 105 undef = .bool false := hk 105
                  have k106 : a.tmps.getD 106 undef = .bool false := hk 106
                  have k107 : a.tmps.getD 107 undef = .bool false := hk 107
                  have k108 : a.tmps.getD 108 undef = .int .i64 (i : Int) := hk 108
                  have k109 : a.tmps.getD 109 undef = .int .i64 (q : Int) := hk 109
                  have k110 : a.tmps.getD 110 undef = .bool false := hk 110
                  have k111 : a.tmps.getD 111 undef = .bool false := hk 111
                  have k112 : a.tmps.getD 112 undef = undef := hk 112
                  have k113 : a.tmps.getD 113 undef = undef := hk 113
                  have k114 : a.tmps.getD 114 undef = undef := hk 114
                  have k115 : a.tmps.getD 115 undef = undef := hk 115
                  have k116 : a.tmps.getD 116 undef = undef := hk 116
                  have k117 : a.tmps.getD 117 undef = .bool false := hk 117
                  have k118 : a.tmps.getD 118 undef = .bool false := hk 118
                  clear hk hd hsz
                  simp only [List.map_cons, List.map_nil, List.foldl_cons, List.foldl_nil, k96, k97, k98, k99, k100, k101, k102, k103, k104, k105, k106, k107, k108, k109, k110, k111, k112, k113, k114, k115, k116, k117, k118] at ea
                  clear k96 k97 k98 k99 k100 k101 k102 k103 k104 k105 k106 k107 k108 k109 k110 k111 k112 k113 k114 k115 k116 k117 k118
                  simp only [Act.put, List.setIfInBounds_toArray, List.set_cons_succ, List.set_cons_zero] at ea
                  subst ea
                  have dV := hbd.trans (hb.mono (by simp))
                  have HB := Lib.hid (HB.out.trans (dV.mono (by omega)))
                  have HD1 := Lib.hid (HD1.out.below dV)
                  have HBX := Lib.hid (stay HBX.out dV)
                  have HRV := Lib.hid (HRV.out.below dV)
                  have hcva := conv_lies (c := cap8) (HL8.out.below dV) HXL.out
                  have hix := run_index8s w1 qs i hi8
                  have hcell := HRV.out.cell hi8
                  have hfz := HRV.out.frozen i
                  obtain ⟨S, hS⟩ : ∃ S, str X = S := ⟨_, rfl⟩
                  rw [hS] at hcva
                  have HS := Lib.hid hS
                  have hkp : Kept [qs] w1 (w1.setCell ⟨qs, i, none⟩ (.string S)) := (Kept.refl _ _).setCell (by simp) _
                  have HKP := Lib.hid hkp
                  have zw1 := dV.size
                  have HRV := Lib.hid (HRV.out.set hi8 (.string S))
                  clear hS hkp hb dV
                  go_wp2
                  go_roundw
                  case rel =>
                    refine ⟨i + 1, by go_num, by omega, HD1.out.keep HKP.out (by simp; omega) (by simp; omega) (by simp; omega), HKP.out.blk HBX.out (by simp; omega), ⟨fun j => if j = i then S else La j, ?_, ?_, ?_⟩, HKP.out.belowB HB.out (by omega) (by simp; omega)⟩
                    · have := HRV.out
                      have e : Plain.upd (fun j => Value.string (La j)) i (.string S) = fun j => Value.string (if j = i then S else La j) := by
                        funext j; unfold Plain.upd; split <;> rfl
                      rwa [e] at this
                    · intro j hj
                      show (if j = i then S else La j) = _
                      by_cases e : j = i
                      · subst e; rw [if_pos rfl, HX.out, HS.out]
                      · rw [if_neg e]; exact HLA.out j (by omega)
                    · intro j hj hj8
                      show (if j = i then S else La j) = _
                      rw [if_neg (by omega)]; exact HLB.out j (by omega) hj8
                  case measure => simp [RowKit.intOf]; omega
            · obtain rfl : i = 8 := by omega
              clear hi hi8 HLB
              have HLO := Lib.hid (loose_any wr g D1 HD1.out)
              go_wp2_with fail
              refine HLO.out.mono ?_
              rintro e wl ⟨v, rfl, hown, hBl⟩
              obtain ⟨Al, capl, rfl, hlc, hlm, hnl, hLl, hAl⟩ := own_off hown
              have HOL := Lib.hid (show Off [g, g + 1, g + 2] Al (nums D1.loose) from .inr fun ad e hm => by
                have := hAl ad e
                simp at hm
                omega)
              have HLL := Lib.hid hLl
              have zl := hBl.size
              have HB := Lib.hid (HB.out.trans (hBl.mono zr))
              have HD1 := Lib.hid (HD1.out.below hBl)
              have HBX := Lib.hid (stay HBX.out hBl)
              have HRV := Lib.hid (HRV.out.below hBl)
              clear hown hBl hLl hAl hnl HLO
              obtain ⟨m, hm2⟩ : ∃ m, D1.loose.length = m := ⟨_, rfl⟩
              have HM := Lib.hid hm2
              rw [hm2] at hlc
              rw [hm2]
              clear hm2
              have zwl := HD1.out.lt
              have hT1 := (Below.refl wl.heap.size wl).alloc (Nat.le_refl _) (.cells #[.bool true, .bool true, .bool true, .bool true, .bool true, .bool true, .bool true, .bool true] 4)
              have HT1 := Lib.hid (Blk.new wl #[.bool true, .bool true, .bool true, .bool true, .bool true, .bool true, .bool true, .bool true] 4)
              obtain ⟨W1, hW1⟩ : ∃ W1, wl.alloc (.cells #[.bool true, .bool true, .bool true, .bool true, .bool true, .bool true, .bool true, .bool true] 4) = W1 := ⟨_, rfl⟩
              have hz1 : W1.heap.size = wl.heap.size + 1 := by rw [← hW1]; simp
              rw [hW1] at hT1 HT1
              have HBX1 := Lib.hid (stay HBX.out hT1)
              have c0 : W1.cell? ⟨bx, 0, none⟩ = some (.int .i64 x.which) := HBX1.out.cell 0
              have c1 : W1.cell? ⟨bx, 1, none⟩ = some (.int .i64 x.at_) := HBX1.out.cell 1
              have c2 : W1.cell? ⟨bx, 2, none⟩ = some (.int .u32 (x.bits : Int)) := HBX1.out.cell 2
              have hT2 := hT1.trans (((Below.refl W1.heap.size W1).alloc (Nat.le_refl _) (.cells #[.int .i64 x.which, .int .i64 x.at_, .int .u32 (x.bits : Int)] 51)).mono (by omega))
              have HT2 := Lib.hid (Blk.new W1 #[.int .i64 x.which, .int .i64 x.at_, .int .u32 (x.bits : Int)] 51)
              have HT1b := Lib.hid (stay HT1.out ((Below.refl W1.heap.size W1).alloc (Nat.le_refl _) (.cells #[.int .i64 x.which, .int .i64 x.at_, .int .u32 (x.bits : Int)] 51)))
              have HDB := Lib.hid (HD1.out.below hT2)
              rw [hz1] at HT2
              have HBT := Lib.hid hT2
              clear hT1 hT2
              go_wp2_with fail
              refine (boot_any _ g D1 [true, true, true, true, true, true, true, true] [x] (some ⟨wl.heap.size, 0, none⟩) (some ⟨wl.heap.size + 1, 0, none⟩) 8 8 1 1 rfl rfl (by unfold maxLen; omega) (by unfold maxLen; omega) HT1b.out.lies HT2.out.lies (.inr fun ad e hm => by injection e with e; subst e; simp at hm; omega) (.inr fun ad e hm => by injection e with e; subst e; simp at hm; omega) (fun h hh => by rw [List.mem_singleton.1 hh]; exact hxb) HDB.out).mono ?_
              rintro e wc ⟨rfl, h1, h2⟩
              have h2 := (Kept.of HBT.out _).trans h2
              have HP := Lib.hid h1
              have zc := h2.size
              have HB := Lib.hid (h2.belowB HB.out (by omega) (by simp; omega))
              have HBX := Lib.hid (h2.blk HBX.out (by simp; omega))
              have HRV := Lib.hid (HRV.out.kept h2 (by simp; omega))
              have HLL := Lib.hid (HLL.out.kept HOL.out h2)
              have HFP := Lib.hid (HF1.out.boot [true, true, true, true, true, true, true, true] [x])
              have HNP := Lib.hid (show (D1.boot [true, true, true, true, true, true, true, true] [x]).n = 8 from HN1.out)
              have HSP := Lib.hid (fun i => Plain.boot_place D1 HF1.out.ok [true, true, true, true, true, true, true, true] (fun j hj => Plain.free_loose HN1.out j hj) x i)
              obtain ⟨P, hP⟩ : ∃ P, D1.boot [true, true, true, true, true, true, true, true] [x] = P := ⟨_, rfl⟩
              rw [hP] at HP HFP HNP HSP
              clear h1 h2 hP HDB HT1 HT2 HT1b HBX1 c0 c1 c2 HBT hW1 hz1 HD1 HOL
              go_wp2
              go_loopw [19] (fun s wr => ∃ i : Nat, s = .int .i64 (i : Int) ∧ i ≤ 8 ∧ IsDev wr g P ∧ Blk wr bx #[.int .i64 x.which, .int .i64 x.at_, .int .u32 (x.bits : Int)] 51 ∧ RowV wr qs 52 (fun j => .string (La j)) ∧ Lies wr Al (nums D1.loose) ∧ Below w.heap.size w wr) (fun s _ => 8 - (RowKit.intOf s).toNat)
              case atStart => exact ⟨0, rfl, Nat.zero_le _, HP.out, HBX.out, HRV.out, HLL.out, HB.out⟩
              case round =>
                clear HP HBX HRV HLL HB
                obtain ⟨i, rfl, hi, hd, hbx2, hrv, hll, hB⟩ := hrel
                have HP := Lib.hid hd
                have HB := Lib.hid hB
                have HBX := Lib.hid hbx2
                have HRV := Lib.hid hrv
                have HLL := Lib.hid hll
                have zr := hB.size
                have zq := hrv.lt
                clear hd hB hbx2 hrv hll
                by_cases hi8 : i < 8
                · have hi0 : (0 : Int) ≤ (i : Int) := by omega
                  have hi1 : (i : Int) < 8 := by omega
                  have HR1 := Lib.hid (read_any wr g P (i : Int) HP.out)
                  rw [HFP.out.read i (by rw [HNP.out]; exact hi8)] at HR1
                  have HYL := Lib.hid (P.sec_length HFP.out.ok i (by rw [HNP.out]; exact hi8))
                  have HXL := Lib.hid (D1.sec_length HF1.out.ok i (by rw [HN1.out]; exact hi8))
                  have HYX := Lib.hid (HSP.out i)
                  have HXB := Lib.hid (HLA.out i hi8)
                  obtain ⟨X, hX⟩ : ∃ X, D1.sec i = X := ⟨_, rfl⟩
                  obtain ⟨Y, hY⟩ : ∃ Y, P.sec i = Y := ⟨_, rfl⟩
                  rw [hX, hY] at HYX
                  rw [hX] at HXL HXB
                  rw [hY] at HYL HR1
                  clear hX hY
                  go_wp2_with fail
                  refine HR1.out.mono ?_
                  intro e wa hg
                  obtain ⟨A8, cap8, rfl, la, hBa⟩ := hg.text
                  rw [HYL.out]
                  obtain ⟨aY, rfl, -, -⟩ := la.at_ (k := 0) (by rw [cells_length, HYL.out]; omega)
                  have za2 := hBa.size
                  have HB := Lib.hid (HB.out.trans (hBa.mono zr))
                  have HP := Lib.hid (HP.out.below hBa)
                  have HBX := Lib.hid (stay HBX.out hBa)
                  have HRV := Lib.hid (HRV.out.below hBa)
                  have HLL := Lib.hid (HLL.out.below hBa)
                  have HL8 := Lib.hid la
                  have HLS := Lib.hid (fun (W : World) (hW : Below wa.heap.size wa W) => run_loadS W ⟨qs, i, none⟩ (str X) (by have := (HRV.out.below hW).cell hi8; rwa [HXB.out] at this))
                  have HYC0 := Lib.hid (show ∀ (W : World), Below wa.heap.size wa W → ∀ j, j < 64 → W.cell? (aY.add j) = some (.int .u8 ((Y.getD j 0).toNat : Int)) from fun W hW j hj => by
                    obtain ⟨ad, e, _, h3⟩ := (HL8.out.below hW).at_ (k := j) (by rw [cells_length, HYL.out]; exact hj)
                    injection e with e
                    subst e
                    rw [h3]
                    simp only [cells, List.getElem_map]
                    rw [List.getD_eq_getElem?_getD, List.getElem?_eq_getElem (by rw [HYL.out]; exact hj), Option.getD_some])
                  have c0 : wa.cell? ⟨bx, 0, none⟩ = some (.int .i64 x.which) := HBX.out.cell 0
                  clear hg la hBa HR1
                  by_cases hw0 : 0 ≤ x.which
                  · by_cases hwm : x.which < (m : Int)
                    · obtain ⟨wn, hwn⟩ := Int.eq_ofNat_of_zero_le hw0
                      rw [hwn] at c0 hw0 hwm
                      have hwm2 : wn < m := by omega
                      have hwml : wn < D1.loose.length := by rw [HM.out]; exact hwm2
                      obtain ⟨al, rfl, -, hlo0⟩ := HLL.out.at_ (k := wn) (by rw [nums_length]; exact hwml)
                      have hlo : wa.cell? (al.add wn) = some (.int .i64 (D1.loose[wn] : Int)) := by
                        rw [hlo0]; simp [nums]
                      clear hlo0
                      obtain ⟨lo, hlx⟩ : ∃ lo, D1.loose[wn] = lo := ⟨_, rfl⟩
                      rw [hlx] at hlo
                      have hidx := run_idxInt wa al m capl wn hwm2
                      have HMI := Lib.hid (show D1.mine x i = decide (lo = i) by
                        unfold Plain.Dv.mine
                        have e : D1.loose.getD x.which.toNat 0 = lo := by
                          rw [hwn, Int.toNat_natCast, List.getD_eq_getElem?_getD, List.getElem?_eq_getElem hwml, Option.getD_some, hlx]
                        rw [e]
                        by_cases hh : lo = i
                        · rw [decide_eq_true hh, decide_eq_true ⟨by rw [hwn]; exact hw0, by rw [hwn, HM.out]; exact hwm, hh⟩]
                        · rw [decide_eq_false hh, decide_eq_false fun h => hh h.2.2])
                      clear hlx
                      by_cases hll : lo = i
                      · have t1 : ((lo : Int) == (i : Int)) = true := by simp; omega
                        have HYE := Lib.hid (show Y = Plain.turn X x.at_ x.bits by have := HYX.out; rwa [HMI.out, if_pos (by simpa using hll)] at this)
                        clear hll hwml hwn HMI HYX
                        go_wp2
                        go_loopw [23] (fun s wr => ∃ j : Nat, s = .int .i64 (j : Int) ∧ j ≤ 64 ∧ Below wa.heap.size wa wr) (fun s _ => 64 - (RowKit.intOf s).toNat)
                        case atStart => exact ⟨0, rfl, Nat.zero_le _, Below.refl _ _⟩
                        case round =>
                          obtain ⟨j, rfl, hj, hB4⟩ := hrel
                          have HB4 := Lib.hid hB4
                          clear hB4
                          by_cases hj64 : j < 64
                          · have hj1 : (j : Int) < 64 := by omega
                            have hbd : Below wr.heap.size wr wr.drew := (Below.refl _ _).drew
                            have HXJ := Lib.hid (fun (W : World) => run_idxStr W X j (by rw [HXL.out]; exact hj64))
                            have HLS := Lib.hid (fun (W : World) (hW : Below wr.heap.size wr W) => HLS.out W (HB4.out.trans (hW.mono HB4.out.size)))
                            have HYC := Lib.hid (fun (W : World) (hW : Below wr.heap.size wr W) => run_loadU8 W (aY.add j) _ (HYC0.out W (HB4.out.trans (hW.mono HB4.out.size)) j hj64))
                            have HTN := Lib.hid (Plain.turn_near X x.at_ x.bits j)
                            rw [← HYE.out] at HTN
                            obtain ⟨z, hz⟩ : ∃ z, X.getD j 0 = z := ⟨_, rfl⟩
                            obtain ⟨y, hy⟩ : ∃ y, Y.getD j 0 = y := ⟨_, rfl⟩
                            rw [hz] at HXJ HTN
                            rw [hy] at HYC HTN
                            clear hz hy
                            by_cases hyz : y = z
                            · subst hyz
                              have HNE := Lib.hid (fun W : World => ne_u8 W y y false (by simp))
                              go_wp2
                              refine wp_softS (by kernel_rfl) 197 [(166, [20]), (167, [23]), (168, [166, 167]), (169, [168]), (170, [19]), (171, [11, 170]), (172, [171]), (173, [23]), (174, [172, 173]), (175, [169, 174]), (176, [175]), (177, [22, 176]), (178, [177, 176]), (179, [178, 176]), (180, [23, 179]), (181, [180, 179]), (182, [181, 179]), (183, [5, 179]), (184, [183, 179]), (185, [182, 184, 179]), (186, [179, 185, 176]), (187, [186, 176]), (188, [23, 187]), (189, [188, 187]), (190, [189, 187]), (191, [5, 187]), (192, [191, 187]), (193, [190, 192, 187]), (194, [187, 193, 176]), (195, [176, 194])]
                                [Fact.is (.slice (some aY) 64 cap8), Fact.is (.int .i64 (j : Int)), Fact.is (.pointer (some (Addr.add aY j))), Fact.is (.int .u8 (y.toNat : Int)), Fact.is (.int .i64 (i : Int)), Fact.is (.pointer (some ⟨qs, i, none⟩)), Fact.is (.string (str X)), Fact.is (.int .i64 (j : Int)), Fact.is (.int .u8 (y.toNat : Int)), Fact.is (.bool false), Fact.is (.bool false), Fact.is (undef), Fact.is (undef), Fact.is (undef), Fact.is (undef), Fact.is (undef), Fact.is (undef), Fact.is (undef), Fact.is (undef), Fact.is (undef), Fact.is (undef), Fact.is (undef), Fact.is (undef), Fact.is (undef), Fact.is (undef), Fact.is (undef), Fact.is (undef), Fact.is (undef), Fact.is (undef), Fact.is (.bool false)]
                                (by kernel_rfl) rfl rfl ⟨?s0, ?s1, ?s2, ?s3, ?s4, ?s5, ?s6, ?s7, ?s8, ?s9, ?s10, ?s11, ?s12, ?s13, ?s14, ?s15, ?s16, ?s17, ?s18, ?s19, ?s20, ?s21, ?s22, ?s23, ?s24, ?s25, ?s26, ?s27, ?s28, ?s29, trivial⟩ ?fin
                              case s0 =>
                                intro ρ W hb hc hf hr
                                obtain ⟨r20, -⟩ := hr
                                have e20 : ρ (.tmp 20) = .slice (some aY) 64 cap8 := r20
                                clear r20
                                refine under_none rfl ?_
                                exact ⟨e20, Below.refl _ _⟩
                              case s1 =>
                                intro ρ W hb hc hf hr
                                obtain ⟨r23, -⟩ := hr
                                have e23 : ρ (.tmp 23) = .int .i64 (j : Int) := r23
                                clear r23
                                refine under_none rfl ?_
                                exact ⟨e23, Below.refl _ _⟩
                              case s2 =>
                                intro ρ W hb hc hf hr
                                obtain ⟨r166, r167, -⟩ := hr
                                have e166 : ρ (.tmp 166) = .slice (some aY) 64 cap8 := r166
                                clear r166
                                have e167 : ρ (.tmp 167) = .int .i64 (j : Int) := r167
                                clear r167
                                refine under_none rfl ?_
                                exact soft_index e166 e167 (run_idxU8 W aY 64 cap8 j hj64) rfl
                              case s3 =>
                                intro ρ W hb hc hf hr
                                obtain ⟨r168, -⟩ := hr
                                have e168 : ρ (.tmp 168) = .pointer (some (Addr.add aY j)) := r168
                                clear r168
                                refine under_none rfl ?_
                                exact soft_load e168 (HYC.out W (hbd.trans (hb.mono (by simp)))) rfl
                              case s4 =>
                                intro ρ W hb hc hf hr
                                obtain ⟨r19, -⟩ := hr
                                have e19 : ρ (.tmp 19) = .int .i64 (i : Int) := r19
                                clear r19
                                refine under_none rfl ?_
                                exact ⟨e19, Below.refl _ _⟩
                              case s5 =>
                                intro ρ W hb hc hf hr
                                obtain ⟨r11, r170, -⟩ := hr
                                have e11 : ρ (.tmp 11) = .pointer (some ⟨qs, 0, none⟩) := r11
                                clear r11
                                have e170 : ρ (.tmp 170) = .int .i64 (i : Int) := r170
                                clear r170
                                refine under_none rfl ?_
                                exact soft_index e11 e170 (run_index8s W qs i hi8) rfl
                              case s6 =>
                                intro ρ W hb hc hf hr
                                obtain ⟨r171, -⟩ := hr
                                have e171 : ρ (.tmp 171) = .pointer (some ⟨qs, i, none⟩) := r171
                                clear r171
                                refine under_none rfl ?_
                                exact soft_load e171 (HLS.out W (hbd.trans (hb.mono (by simp)))) rfl
                              case s7 =>
                                intro ρ W hb hc hf hr
                                obtain ⟨r23, -⟩ := hr
                                have e23 : ρ (.tmp 23) = .int .i64 (j : Int) := r23
                                clear r23
                                refine under_none rfl ?_
                                exact ⟨e23, Below.refl _ _⟩
                              case s8 =>
                                intro ρ W hb hc hf hr
                                obtain ⟨r172, r173, -⟩ := hr
                                have e172 : ρ (.tmp 172) = .string (str X) := r172
                                clear r172
                                have e173 : ρ (.tmp 173) = .int .i64 (j : Int) := r173
                                clear r173
                                refine under_none rfl ?_
                                exact soft_idxStr e172 e173 (HXJ.out W) rfl
                              case s9 =>
                                intro ρ W hb hc hf hr
                                obtain ⟨r169, r174, -⟩ := hr
                                have e169 : ρ (.tmp 169) = .int .u8 (y.toNat : Int) := r169
                                clear r169
                                have e174 : ρ (.tmp 174) = .int .u8 (y.toNat : Int) := r174
                                clear r174
                                refine under_none rfl ?_
                                exact soft_bin e169 e174 rfl rfl (HNE.out W)
                              case s10 =>
                                intro ρ W hb hc hf hr
                                obtain ⟨r175, -⟩ := hr
                                have e175 : ρ (.tmp 175) = .bool false := r175
                                clear r175
                                refine under_none rfl ?_
                                exact ⟨e175, Below.refl _ _⟩
                              case s11 =>
                                intro ρ W hb hc hf hr
                                obtain ⟨r22, r176, -⟩ := hr
                                have e22 : ρ (.tmp 22) = .bool true := r22
                                clear r22
                                have e176 : ρ (.tmp 176) = .bool false := r176
                                clear r176
                                exact ⟨176, rfl, .inr (.inl ⟨e176, rfl⟩)⟩
                              case s12 =>
                                intro ρ W hb hc hf hr
                                obtain ⟨r177, r176, -⟩ := hr
                                have e177 : ρ (.tmp 177) = undef := r177
                                clear r177
                                have e176 : ρ (.tmp 176) = .bool false := r176
                                clear r176
                                exact ⟨176, rfl, .inr (.inl ⟨e176, rfl⟩)⟩
                              case s13 =>
                                intro ρ W hb hc hf hr
                                obtain ⟨r178, r176, -⟩ := hr
                                have e178 : ρ (.tmp 178) = undef := r178
                                clear r178
                                have e176 : ρ (.tmp 176) = .bool false := r176
                                clear r176
                                exact ⟨176, rfl, .inr (.inl ⟨e176, rfl⟩)⟩
                              case s14 =>
                                intro ρ W hb hc hf hr
                                obtain ⟨r23, r179, -⟩ := hr
                                have e23 : ρ (.tmp 23) = .int .i64 (j : Int) := r23
                                clear r23
                                have e179 : ρ (.tmp 179) = undef := r179
                                clear r179
                                exact ⟨179, rfl, .inr (.inr ⟨e179, rfl⟩)⟩
                              case s15 =>
                                intro ρ W hb hc hf hr
                                obtain ⟨r180, r179, -⟩ := hr
                                have e180 : ρ (.tmp 180) = undef := r180
                                clear r180
                                have e179 : ρ (.tmp 179) = undef := r179
                                clear r179
                                exact ⟨179, rfl, .inr (.inr ⟨e179, rfl⟩)⟩
                              case s16 =>
                                intro ρ W hb hc hf hr
                                obtain ⟨r181, r179, -⟩ := hr
                                have e181 : ρ (.tmp 181) = undef := r181
                                clear r181
                                have e179 : ρ (.tmp 179) = undef := r179
                                clear r179
                                exact ⟨179, rfl, .inr (.inr ⟨e179, rfl⟩)⟩
                              case s17 =>
                                intro ρ W hb hc hf hr
                                obtain ⟨r5, r179, -⟩ := hr
                                have e5 : ρ (.tmp 5) = .pointer (some ⟨bx, 0, none⟩) := r5
                                clear r5
                                have e179 : ρ (.tmp 179) = undef := r179
                                clear r179
                                exact ⟨179, rfl, .inr (.inr ⟨e179, rfl⟩)⟩
                              case s18 =>
                                intro ρ W hb hc hf hr
                                obtain ⟨r183, r179, -⟩ := hr
                                have e183 : ρ (.tmp 183) = undef := r183
                                clear r183
                                have e179 : ρ (.tmp 179) = undef := r179
                                clear r179
                                exact ⟨179, rfl, .inr (.inr ⟨e179, rfl⟩)⟩
                              case s19 =>
                                intro ρ W hb hc hf hr
                                obtain ⟨r182, r184, r179, -⟩ := hr
                                have e182 : ρ (.tmp 182) = undef := r182
                                clear r182
                                have e184 : ρ (.tmp 184) = undef := r184
                                clear r184
                                have e179 : ρ (.tmp 179) = undef := r179
                                clear r179
                                exact ⟨179, rfl, .inr (.inr ⟨e179, rfl⟩)⟩
                              case s20 =>
                                intro ρ W hb hc hf hr
                                obtain ⟨r179, r185, r176, -⟩ := hr
                                have e179 : ρ (.tmp 179) = undef := r179
                                clear r179
                                have e185 : ρ (.tmp 185) = undef := r185
                                clear r185
                                have e176 : ρ (.tmp 176) = .bool false := r176
                                clear r176
                                exact ⟨176, rfl, .inr (.inl ⟨e176, rfl⟩)⟩
                              case s21 =>
                                intro ρ W hb hc hf hr
                                obtain ⟨r186, r176, -⟩ := hr
                                have e186 : ρ (.tmp 186) = undef := r186
                                clear r186
                                have e176 : ρ (.tmp 176) = .bool false := r176
                                clear r176
                                exact ⟨176, rfl, .inr (.inl ⟨e176, rfl⟩)⟩
                              case s22 =>
                                intro ρ W hb hc hf hr
                                obtain ⟨r23, r187, -⟩ := hr
                                have e23 : ρ (.tmp 23) = .int .i64 (j : Int) := r23
                                clear r23
                                have e187 : ρ (.tmp 187) = undef := r187
                                clear r187
                                exact ⟨187, rfl, .inr (.inr ⟨e187, rfl⟩)⟩
                              case s23 =>
                                intro ρ W hb hc hf hr
                                obtain ⟨r188, r187, -⟩ := hr
                                have e188 : ρ (.tmp 188) = undef := r188
                                clear r188
                                have e187 : ρ (.tmp 187) = undef := r187
                                clear r187
                                exact ⟨187, rfl, .inr (.inr ⟨e187, rfl⟩)⟩
                              case s24 =>
                                intro ρ W hb hc hf hr
                                obtain ⟨r189, r187, -⟩ := hr
                                have e189 : ρ (.tmp 189) = undef := r189
                                clear r189
                                have e187 : ρ (.tmp 187) = undef := r187
                                clear r187
                                exact ⟨187, rfl, .inr (.inr ⟨e187, rfl⟩)⟩
                              case s25 =>
                                intro ρ W hb hc hf hr
                                obtain ⟨r5, r187, -⟩ := hr
                                have e5 : ρ (.tmp 5) = .pointer (some ⟨bx, 0, none⟩) := r5
                                clear r5
                                have e187 : ρ (.tmp 187) = undef := r187
                                clear r187
                                exact ⟨187, rfl, .inr (.inr ⟨e187, rfl⟩)⟩
                              case s26 =>
                                intro ρ W hb hc hf hr
                                obtain ⟨r191, r187, -⟩ := hr
                                have e191 : ρ (.tmp 191) = undef := r191
                                clear r191
                                have e187 : ρ (.tmp 187) = undef := r187
                                clear r187
                                exact ⟨187, rfl, .inr (.inr ⟨e187, rfl⟩)⟩
                              case s27 =>
                                intro ρ W hb hc hf hr
                                obtain ⟨r190, r192, r187, -⟩ := hr
                                have e190 : ρ (.tmp 190) = undef := r190
                                clear r190
                                have e192 : ρ (.tmp 192) = undef := r192
                                clear r192
                                have e187 : ρ (.tmp 187) = undef := r187
                                clear r187
                                exact ⟨187, rfl, .inr (.inr ⟨e187, rfl⟩)⟩
                              case s28 =>
                                intro ρ W hb hc hf hr
                                obtain ⟨r187, r193, r176, -⟩ := hr
                                have e187 : ρ (.tmp 187) = undef := r187
                                clear r187
                                have e193 : ρ (.tmp 193) = undef := r193
                                clear r193
                                have e176 : ρ (.tmp 176) = .bool false := r176
                                clear r176
                                exact ⟨176, rfl, .inr (.inl ⟨e176, rfl⟩)⟩
                              case s29 =>
                                intro ρ W hb hc hf hr
                                obtain ⟨r176, r194, -⟩ := hr
                                have e176 : ρ (.tmp 176) = .bool false := r176
                                clear r176
                                have e194 : ρ (.tmp 194) = undef := r194
                                clear r194
                                refine under_none rfl ?_
                                simp [execOp, e176, hc, go_sem, softUpon, Fact.is, Below.refl]
                              case fin =>
                                intro a w1 hb hd hsz hk
                                have ea := act_puts hd hsz rfl hk
                                have k166 : a.tmps.getD 166 undef = .slice (some aY) 64 cap8 := hk 166
                                have k167 : a.tmps.getD 167 undef = .int .i64 (j : Int) := hk 167
                                have k168 : a.tmps.getD 168 undef = .pointer (some (Addr.add aY j)) := hk 168
                                have k169 : a.tmps.getD 169 undef = .int .u8 (y.toNat : Int) := hk 169
                                have k170 : a.tmps.getD 170 undef = .int .i64 (i : Int) := hk 170
                                have k171 : a.tmps.getD 171 undef = .pointer (some ⟨qs, i, none⟩) := hk 171
                                have k172 : a.tmps.getD 172 undef = .string (str X) := hk 172
                                have k173 : a.tmps.getD 173 undef = .int .i64 (j : Int) := hk 173
                                have k174 : a.tmps.getD 174 undef = .int .u8 (y.toNat : Int) := hk 174
                                have k175 : a.tmps.getD 175 undef = .bool false := hk 175
                                have k176 : a.tmps.getD 176 undef = .bool false := hk 176
                                have k177 : a.tmps.getD 177 undef = undef := hk 177
                                have k178 : a.tmps.getD 178 undef = undef := hk 178
                                have k179 : a.tmps.getD 179 undef = undef := hk 179
                                have k180 : a.tmps.getD 180 undef = undef := hk 180
                                have k181 : a.tmps.getD 181 undef = undef := hk 181
                                have k182 : a.tmps.getD 182 undef = undef := hk 182
                                have k183 : a.tmps.getD 183 undef = undef := hk 183
                                have k184 : a.tmps.getD 184 undef = undef := hk 184
                                have k185 : a.tmps.getD 185 undef = undef := hk 185
                                have k186 : a.tmps.getD 186 undef = undef := hk 186
                                have k187 : a.tmps.getD 187 undef = undef := hk 187
                                have k188 : a.tmps.getD 188 undef = undef := hk 188
                                have k189 : a.tmps.getD 189 undef = undef := hk 189
                                have k190 : a.tmps.getD 190 undef = undef := hk 190
                                have k191 : a.tmps.getD 191 undef = undef := hk 191
                                have k192 : a.tmps.getD 192 undef = undef := hk 192
                                have k193 : a.tmps.getD 193 undef = undef := hk 193
                                have k194 : a.tmps.getD 194 undef = undef := hk 194
                                have k195 : a.tmps.getD 195 undef = .bool false := hk 195
                                clear hk hd hsz
                                simp only [List.map_cons, List.map_nil, List.foldl_cons, List.foldl_nil, k166, k167, k168, k169, k170, k171, k172, k173, k174, k175, k176, k177, k178, k179, k180, k181, k182, k183, k184, k185, k186, k187, k188, k189, k190, k191, k192, k193, k194, k195] at ea
                                clear k166 k167 k168 k169 k170 k171 k172 k173 k174 k175 k176 k177 k178 k179 k180 k181 k182 k183 k184 k185 k186 k187 k188 k189 k190 k191 k192 k193 k194 k195
                                simp only [Act.put, List.setIfInBounds_toArray, List.set_cons_succ, List.set_cons_zero] at ea
                                subst ea
                                have dV := hbd.trans (hb.mono (by simp))
                                have HW1 := Lib.hid (HB4.out.trans (dV.mono HB4.out.size))
                                clear hb dV
                                go_wp2
                                go_roundw
                                case rel => exact ⟨j + 1, by go_num, by omega, HW1.out⟩
                                case measure => simp [RowKit.intOf]; omega
                            · obtain ⟨hn1, hn2⟩ := HTN.out hyz
                              have HNE := Lib.hid (fun W : World => ne_u8 W y z true (by simpa using hyz))
                              have HM8 := Lib.hid (fun W : World => mul_int W 8 (j : Int) (by omega))
                              have HA7 := Lib.hid (fun W : World => add_int W (8 * (j : Int)) 7 (by omega))
                              have HA31 := Lib.hid (fun W : World => sub_int W (8 * (j : Int)) 31 (by omega))
                              have HC1 := Lib.hid (fun W : World => lss_int W (8 * (j : Int) + 7) x.at_ false (by simp; omega))
                              have HC2 := Lib.hid (fun W : World => gtr_int W (8 * (j : Int) - 31) x.at_ false (by simp; omega))
                              have HBX1 := Lib.hid (fun (W : World) (hW : Below wr.heap.size wr W) => run_loadI W ⟨bx, 1, none⟩ x.at_ ((stay HBX.out (HB4.out.trans (hW.mono HB4.out.size))).cell 1))
                              clear hn1 hn2 hyz
                              go_wp2
                              refine wp_softS (by kernel_rfl) 197 [(166, [20]), (167, [23]), (168, [166, 167]), (169, [168]), (170, [19]), (171, [11, 170]), (172, [171]), (173, [23]), (174, [172, 173]), (175, [169, 174]), (176, [175]), (177, [22, 176]), (178, [177, 176]), (179, [178, 176]), (180, [23, 179]), (181, [180, 179]), (182, [181, 179]), (183, [5, 179]), (184, [183, 179]), (185, [182, 184, 179]), (186, [179, 185, 176]), (187, [186, 176]), (188, [23, 187]), (189, [188, 187]), (190, [189, 187]), (191, [5, 187]), (192, [191, 187]), (193, [190, 192, 187]), (194, [187, 193, 176]), (195, [176, 194])]
                                [Fact.is (.slice (some aY) 64 cap8), Fact.is (.int .i64 (j : Int)), Fact.is (.pointer (some (Addr.add aY j))), Fact.is (.int .u8 (y.toNat : Int)), Fact.is (.int .i64 (i : Int)), Fact.is (.pointer (some ⟨qs, i, none⟩)), Fact.is (.string (str X)), Fact.is (.int .i64 (j : Int)), Fact.is (.int .u8 (z.toNat : Int)), Fact.is (.bool true), Fact.is (.bool true), Fact.is (.bool true), Fact.is (.bool false), Fact.is (.bool false), Fact.is (.int .i64 (j : Int)), Fact.is (.int .i64 (8 * (j : Int))), Fact.is (.int .i64 (8 * (j : Int) + 7)), Fact.is (.pointer (some ⟨bx, 1, none⟩)), Fact.is (.int .i64 x.at_), Fact.is (.bool false), Fact.is (.bool false), Fact.is (.bool false), Fact.is (.int .i64 (j : Int)), Fact.is (.int .i64 (8 * (j : Int))), Fact.is (.int .i64 (8 * (j : Int) - 31)), Fact.is (.pointer (some ⟨bx, 1, none⟩)), Fact.is (.int .i64 x.at_), Fact.is (.bool false), Fact.is (.bool false), Fact.is (.bool false)]
                                (by kernel_rfl) rfl rfl ⟨?s0, ?s1, ?s2, ?s3, ?s4, ?s5, ?s6, ?s7, ?s8, ?s9, ?s10, ?s11, ?s12, ?s13, ?s14, ?s15, ?s16, ?s17, ?s18, ?s19, ?s20, ?s21, ?s22, ?s23, ?s24, ?s25, ?s26, ?s27, ?s28, ?s29, trivial⟩ ?fin
                              case s0 =>
                                intro ρ W hb hc hf hr
                                obtain ⟨r20, -⟩ := hr
                                have e20 : ρ (.tmp 20) = .slice (some aY) 64 cap8 := r20
                                clear r20
                                refine under_none rfl ?_
                                exact ⟨e20, Below.refl _ _⟩
                              case s1 =>
                                intro ρ W hb hc hf hr
                                obtain ⟨r23, -⟩ := hr
                                have e23 : ρ (.tmp 23) = .int .i64 (j : Int) := r23
                                clear r23
                                refine under_none rfl ?_
                                exact ⟨e23, Below.refl _ _⟩
                              case s2 =>
                                intro ρ W hb hc hf hr
                                obtain ⟨r166, r167, -⟩ := hr
                                have e166 : ρ (.tmp 166) = .slice (some aY) 64 cap8 := r166
                                clear r166
                                have e167 : ρ (.tmp 167) = .int .i64 (j : Int) := r167
                                clear r167
                                refine under_none rfl ?_
                                exact soft_index e166 e167 (run_idxU8 W aY 64 cap8 j hj64) rfl
                              case s3 =>
                                intro ρ W hb hc hf hr
                                obtain ⟨r168, -⟩ := hr
                                have e168 : ρ (.tmp 168) = .pointer (some (Addr.add aY j)) := r168
                                clear r168
                                refine under_none rfl ?_
                                exact soft_load e168 (HYC.out W (hbd.trans (hb.mono (by simp)))) rfl
                              case s4 =>
                                intro ρ W hb hc hf hr
                                obtain ⟨r19, -⟩ := hr
                                have e19 : ρ (.tmp 19) = .int .i64 (i : Int) := r19
                                clear r19
                                refine under_none rfl ?_
                                exact ⟨e19, Below.refl _ _⟩
                              case s5 =>
                                intro ρ W hb hc hf hr
                                obtain ⟨r11, r170, -⟩ := hr
                                have e11 : ρ (.tmp 11) = .pointer (some ⟨qs, 0, none⟩) := r11
                                clear r11
                                have e170 : ρ (.tmp 170) = .int .i64 (i : Int) := r170
                                clear r170
                                refine under_none rfl ?_
                                exact soft_index e11 e170 (run_index8s W qs i hi8) rfl
                              case s6 =>
                                intro ρ W hb hc hf hr
                                obtain ⟨r171, -⟩ := hr
                                have e171 : ρ (.tmp 171) = .pointer (some ⟨qs, i, none⟩) := r171
                                clear r171
                                refine under_none rfl ?_
                                exact soft_load e171 (HLS.out W (hbd.trans (hb.mono (by simp)))) rfl
                              case s7 =>
                                intro ρ W hb hc hf hr
                                obtain ⟨r23, -⟩ := hr
                                have e23 : ρ (.tmp 23) = .int .i64 (j : Int) := r23
                                clear r23
                                refine under_none rfl ?_
                                exact ⟨e23, Below.refl _ _⟩
                              case s8 =>
                                intro ρ W hb hc hf hr
                                obtain ⟨r172, r173, -⟩ := hr
                                have e172 : ρ (.tmp 172) = .string (str X) := r172
                                clear r172
                                have e173 : ρ (.tmp 173) = .int .i64 (j : Int) := r173
                                clear r173
                                refine under_none rfl ?_
                                exact soft_idxStr e172 e173 (HXJ.out W) rfl
                              case s9 =>
                                intro ρ W hb hc hf hr
                                obtain ⟨r169, r174, -⟩ := hr
                                have e169 : ρ (.tmp 169) = .int .u8 (y.toNat : Int) := r169
                                clear r169
                                have e174 : ρ (.tmp 174) = .int .u8 (z.toNat : Int) := r174
                                clear r174
                                refine under_none rfl ?_
                                exact soft_bin e169 e174 rfl rfl (HNE.out W)
                              case s10 =>
                                intro ρ W hb hc hf hr
                                obtain ⟨r175, -⟩ := hr
                                have e175 : ρ (.tmp 175) = .bool true := r175
                                clear r175
                                refine under_none rfl ?_
                                exact ⟨e175, Below.refl _ _⟩
                              case s11 =>
                                intro ρ W hb hc hf hr
                                obtain ⟨r22, r176, -⟩ := hr
                                have e22 : ρ (.tmp 22) = .bool true := r22
                                clear r22
                                have e176 : ρ (.tmp 176) = .bool true := r176
                                clear r176
                                refine ⟨176, rfl, .inl ⟨e176, ?_⟩⟩
                                exact ⟨e22, Below.refl _ _⟩
                              case s12 =>
                                intro ρ W hb hc hf hr
                                obtain ⟨r177, r176, -⟩ := hr
                                have e177 : ρ (.tmp 177) = .bool true := r177
                                clear r177
                                have e176 : ρ (.tmp 176) = .bool true := r176
                                clear r176
                                refine ⟨176, rfl, .inl ⟨e176, ?_⟩⟩
                                simp [execOp, e177, go_sem, softUpon, Fact.is, Below.refl]
                              case s13 =>
                                intro ρ W hb hc hf hr
                                obtain ⟨r178, r176, -⟩ := hr
                                have e178 : ρ (.tmp 178) = .bool false := r178
                                clear r178
                                have e176 : ρ (.tmp 176) = .bool true := r176
                                clear r176
                                refine ⟨176, rfl, .inl ⟨e176, ?_⟩⟩
                                exact ⟨e178, Below.refl _ _⟩
                              case s14 =>
                                intro ρ W hb hc hf hr
                                obtain ⟨r23, r179, -⟩ := hr
                                have e23 : ρ (.tmp 23) = .int .i64 (j : Int) := r23
                                clear r23
                                have e179 : ρ (.tmp 179) = .bool false := r179
                                clear r179
                                refine ⟨179, rfl, .inl ⟨e179, ?_⟩⟩
                                exact ⟨e23, Below.refl _ _⟩
                              case s15 =>
                                intro ρ W hb hc hf hr
                                obtain ⟨r180, r179, -⟩ := hr
                                have e180 : ρ (.tmp 180) = .int .i64 (j : Int) := r180
                                clear r180
                                have e179 : ρ (.tmp 179) = .bool false := r179
                                clear r179
                                refine ⟨179, rfl, .inl ⟨e179, ?_⟩⟩
                                exact soft_bin (hc _) e180 rfl rfl (HM8.out W)
                              case s16 =>
                                intro ρ W hb hc hf hr
                                obtain ⟨r181, r179, -⟩ := hr
                                have e181 : ρ (.tmp 181) = .int .i64 (8 * (j : Int)) := r181
                                clear r181
                                have e179 : ρ (.tmp 179) = .bool false := r179
                                clear r179
                                refine ⟨179, rfl, .inl ⟨e179, ?_⟩⟩
                                exact soft_bin e181 (hc _) rfl rfl (HA7.out W)
                              case s17 =>
                                intro ρ W hb hc hf hr
                                obtain ⟨r5, r179, -⟩ := hr
                                have e5 : ρ (.tmp 5) = .pointer (some ⟨bx, 0, none⟩) := r5
                                clear r5
                                have e179 : ρ (.tmp 179) = .bool false := r179
                                clear r179
                                refine ⟨179, rfl, .inl ⟨e179, ?_⟩⟩
                                exact soft_field e5 rfl (fun W => by go_simp)
                              case s18 =>
                                intro ρ W hb hc hf hr
                                obtain ⟨r183, r179, -⟩ := hr
                                have e183 : ρ (.tmp 183) = .pointer (some ⟨bx, 1, none⟩) := r183
                                clear r183
                                have e179 : ρ (.tmp 179) = .bool false := r179
                                clear r179
                                refine ⟨179, rfl, .inl ⟨e179, ?_⟩⟩
                                exact soft_load e183 (HBX1.out W (hbd.trans (hb.mono (by simp)))) rfl
                              case s19 =>
                                intro ρ W hb hc hf hr
                                obtain ⟨r182, r184, r179, -⟩ := hr
                                have e182 : ρ (.tmp 182) = .int .i64 (8 * (j : Int) + 7) := r182
                                clear r182
                                have e184 : ρ (.tmp 184) = .int .i64 x.at_ := r184
                                clear r184
                                have e179 : ρ (.tmp 179) = .bool false := r179
                                clear r179
                                refine ⟨179, rfl, .inl ⟨e179, ?_⟩⟩
                                exact soft_bin e182 e184 rfl rfl (HC1.out W)
                              case s20 =>
                                intro ρ W hb hc hf hr
                                obtain ⟨r179, r185, r176, -⟩ := hr
                                have e179 : ρ (.tmp 179) = .bool false := r179
                                clear r179
                                have e185 : ρ (.tmp 185) = .bool false := r185
                                clear r185
                                have e176 : ρ (.tmp 176) = .bool true := r176
                                clear r176
                                refine ⟨176, rfl, .inl ⟨e176, ?_⟩⟩
                                simp [execOp, e179, e185, go_sem, softUpon, Fact.is, Below.refl]
                              case s21 =>
                                intro ρ W hb hc hf hr
                                obtain ⟨r186, r176, -⟩ := hr
                                have e186 : ρ (.tmp 186) = .bool false := r186
                                clear r186
                                have e176 : ρ (.tmp 176) = .bool true := r176
                                clear r176
                                refine ⟨176, rfl, .inl ⟨e176, ?_⟩⟩
                                exact ⟨e186, Below.refl _ _⟩
                              case s22 =>
                                intro ρ W hb hc hf hr
                                obtain ⟨r23, r187, -⟩ := hr
                                have e23 : ρ (.tmp 23) = .int .i64 (j : Int) := r23
                                clear r23
                                have e187 : ρ (.tmp 187) = .bool false := r187
                                clear r187
                                refine ⟨187, rfl, .inl ⟨e187, ?_⟩⟩
                                exact ⟨e23, Below.refl _ _⟩
                              case s23 =>
                                intro ρ W hb hc hf hr
                                obtain ⟨r188, r187, -⟩ := hr
                                have e188 : ρ (.tmp 188) = .int .i64 (j : Int) := r188
                                clear r188
                                have e187 : ρ (.tmp 187) = .bool false := r187
                                clear r187
                                refine ⟨187, rfl, .inl ⟨e187, ?_⟩⟩
                                exact soft_bin (hc _) e188 rfl rfl (HM8.out W)
                              case s24 =>
                                intro ρ W hb hc hf hr
                                obtain ⟨r189, r187, -⟩ := hr
                                have e189 : ρ (.tmp 189) = .int .i64 (8 * (j : Int)) := r189
                                clear r189
                                have e187 : ρ (.tmp 187) = .bool false := r187
                                clear r187
                                refine ⟨187, rfl, .inl ⟨e187, ?_⟩⟩
                                exact soft_bin e189 (hc _) rfl rfl (HA31.out W)
                              case s25 =>
                                intro ρ W hb hc hf hr
                                obtain ⟨r5, r187, -⟩ := hr
                                have e5 : ρ (.tmp 5) = .pointer (some ⟨bx, 0, none⟩) := r5
                                clear r5
                                have e187 : ρ (.tmp 187) = .bool false := r187
                                clear r187
                                refine ⟨187, rfl, .inl ⟨e187, ?_⟩⟩
                                exact soft_field e5 rfl (fun W => by go_simp)
                              case s26 =>
                                intro ρ W hb hc hf hr
                                obtain ⟨r191, r187, -⟩ := hr
                                have e191 : ρ (.tmp 191) = .pointer (some ⟨bx, 1, none⟩) := r191
                                clear r191
                                have e187 : ρ (.tmp 187) = .bool false := r187
                                clear r187
                                refine ⟨187, rfl, .inl ⟨e187, ?_⟩⟩
                                exact soft_load e191 (HBX1.out W (hbd.trans (hb.mono (by simp)))) rfl
                              case s27 =>
                                intro ρ W hb hc hf hr
                                obtain ⟨r190, r192, r187, -⟩ := hr
                                have e190 : ρ (.tmp 190) = .int .i64 (8 * (j : Int) - 31) := r190
                                clear r190
                                have e192 : ρ (.tmp 192) = .int .i64 x.at_ := r192
                                clear r192
                                have e187 : ρ (.tmp 187) = .bool false := r187
                                clear r187
                                refine ⟨187, rfl, .inl ⟨e187, ?_⟩⟩
                                exact soft_bin e190 e192 rfl rfl (HC2.out W)
                              case s28 =>
                                intro ρ W hb hc hf hr
                                obtain ⟨r187, r193, r176, -⟩ := hr
                                have e187 : ρ (.tmp 187) = .bool false := r187
                                clear r187
                                have e193 : ρ (.tmp 193) = .bool false := r193
                                clear r193
                                have e176 : ρ (.tmp 176) = .bool true := r176
                                clear r176
                                refine ⟨176, rfl, .inl ⟨e176, ?_⟩⟩
                                simp [execOp, e187, e193, go_sem, softUpon, Fact.is, Below.refl]
                              case s29 =>
                                intro ρ W hb hc hf hr
                                obtain ⟨r176, r194, -⟩ := hr
                                have e176 : ρ (.tmp 176) = .bool true := r176
                                clear r176
                                have e194 : ρ (.tmp 194) = .bool false := r194
                                clear r194
                                refine under_none rfl ?_
                                simp [execOp, e176, e194, go_sem, softUpon, Fact.is, Below.refl]
                              case fin =>
                                intro a w1 hb hd hsz hk
                                have ea := act_puts hd hsz rfl hk
                                have k166 : a.tmps.getD 166 undef = .slice (some aY) 64 cap8 := hk 166
                                have k167 : a.tmps.getD 167 undef = .int .i64 (j : Int) := hk 167
                                have k168 : a.tmps.getD 168 undef = .pointer (some (Addr.add aY j)) := hk 168
                                have k169 : a.tmps.getD 169 undef = .int .u8 (y.toNat : Int) := hk 169
                                have k170 : a.tmps.getD 170 undef = .int .i64 (i : Int) := hk 170
                                have k171 : a.tmps.getD 171 undef = .pointer (some ⟨qs, i, none⟩) := hk 171
                                have k172 : a.tmps.getD 172 undef = .string (str X) := hk 172
                                have k173 : a.tmps.getD 173 undef = .int .i64 (j : Int) := hk 173
                                have k174 : a.tmps.getD 174 undef = .int .u8 (z.toNat : Int) := hk 174
                                have k175 : a.tmps.getD 175 undef = .bool true := hk 175
                                have k176 : a.tmps.getD 176 undef = .bool true := hk 176
                                have k177 : a.tmps.getD 177 undef = .bool true := hk 177
                                have k178 : a.tmps.getD 178 undef = .bool false := hk 178
                                have k179 : a.tmps.getD 179 undef = .bool false := hk 179
                                have k180 : a.tmps.getD 180 undef = .int .i64 (j : Int) := hk 180
                                have k181 : a.tmps.getD 181 undef = .int .i64 (8 * (j : Int)) := hk 181
                                have k182 : a.tmps.getD 182 undef = .int .i64 (8 * (j : Int) + 7) := hk 182
                                have k183 : a.tmps.getD 183 undef = .pointer (some ⟨bx, 1, none⟩) := hk 183
                                have k184 : a.tmps.getD 184 undef = .int .i64 x.at_ := hk 184
                                have k185 : a.tmps.getD 185 undef = .bool false := hk 185
                                have k186 : a.tmps.getD 186 undef = .bool false := hk 186
                                have k187 : a.tmps.getD 187 undef = .bool false := hk 187
                                have k188 : a.tmps.getD 188 undef = .int .i64 (j : Int) := hk 188
                                have k189 : a.tmps.getD 189 undef = .int .i64 (8 * (j : Int)) := hk 189
                                have k190 : a.tmps.getD 190 undef = .int .i64 (8 * (j : Int) - 31) := hk 190
                                have k191 : a.tmps.getD 191 undef = .pointer (some ⟨bx, 1, none⟩) := hk 191
                                have k192 : a.tmps.getD 192 undef = .int .i64 x.at_ := hk 192
                                have k193 : a.tmps.getD 193 undef = .bool false := hk 193
                                have k194 : a.tmps.getD 194 undef = .bool false := hk 194
                                have k195 : a.tmps.getD 195 undef = .bool false := hk 195
                                clear hk hd hsz
                                simp only [List.map_cons, List.map_nil, List.foldl_cons, List.foldl_nil, k166, k167, k168, k169, k170, k171, k172, k173, k174, k175, k176, k177, k178, k179, k180, k181, k182, k183, k184, k185, k186, k187, k188, k189, k190, k191, k192, k193, k194, k195] at ea
                                clear k166 k167 k168 k169 k170 k171 k172 k173 k174 k175 k176 k177 k178 k179 k180 k181 k182 k183 k184 k185 k186 k187 k188 k189 k190 k191 k192 k193 k194 k195
                                simp only [Act.put, List.setIfInBounds_toArray, List.set_cons_succ, List.set_cons_zero] at ea
                                subst ea
                                have dV := hbd.trans (hb.mono (by simp))
                                have HW1 := Lib.hid (HB4.out.trans (dV.mono HB4.out.size))
                                clear hb dV
                                go_wp2
                                go_roundw
                                case rel => exact ⟨j + 1, by go_num, by omega, HW1.out⟩
                                case measure => simp [RowKit.intOf]; omega
                          · obtain rfl : j = 64 := by omega
                            go_wp2
                            go_roundw
                            case rel => exact ⟨i + 1, by go_num, by omega, HP.out.below HB4.out, stay HBX.out HB4.out, HRV.out.below HB4.out, HLL.out.below HB4.out, HB.out.trans (HB4.out.mono (by omega))⟩
                            case measure => simp [RowKit.intOf]; omega
                      · have t1 : ((lo : Int) == (i : Int)) = false := by simp; omega
                        have HYE := Lib.hid (show Y = X by have := HYX.out; rwa [HMI.out, if_neg (by simpa using hll)] at this)
                        clear hll hwml hwn HMI HYX
                        go_wp2
                        go_loopw [23] (fun s wr => ∃ j : Nat, s = .int .i64 (j : Int) ∧ j ≤ 64 ∧ Below wa.heap.size wa wr) (fun s _ => 64 - (RowKit.intOf s).toNat)
                        case atStart => exact ⟨0, rfl, Nat.zero_le _, Below.refl _ _⟩
                        case round =>
                          obtain ⟨j, rfl, hj, hB4⟩ := hrel
                          have HB4 := Lib.hid hB4
                          clear hB4
                          by_cases hj64 : j < 64
                          · have hj1 : (j : Int) < 64 := by omega
                            have hbd : Below wr.heap.size wr wr.drew := (Below.refl _ _).drew
                            have HXJ := Lib.hid (fun (W : World) => run_idxStr W X j (by rw [HXL.out]; exact hj64))
                            have HLS := Lib.hid (fun (W : World) (hW : Below wr.heap.size wr W) => HLS.out W (HB4.out.trans (hW.mono HB4.out.size)))
                            have HYC := Lib.hid (fun (W : World) (hW : Below wr.heap.size wr W) => run_loadU8 W (aY.add j) _ (HYC0.out W (HB4.out.trans (hW.mono HB4.out.size)) j hj64))
                            rw [HYE.out] at HYC
                            obtain ⟨z, hz⟩ : ∃ z, X.getD j 0 = z := ⟨_, rfl⟩
                            rw [hz] at HYC HXJ
                            clear hz
                            have HNE := Lib.hid (fun W : World => ne_u8 W z z false (by simp))
                            go_wp2
                            refine wp_softS (by kernel_rfl) 197 [(166, [20]), (167, [23]), (168, [166, 167]), (169, [168]), (170, [19]), (171, [11, 170]), (172, [171]), (173, [23]), (174, [172, 173]), (175, [169, 174]), (176, [175]), (177, [22, 176]), (178, [177, 176]), (179, [178, 176]), (180, [23, 179]), (181, [180, 179]), (182, [181, 179]), (183, [5, 179]), (184, [183, 179]), (185, [182, 184, 179]), (186, [179, 185, 176]), (187, [186, 176]), (188, [23, 187]), (189, [188, 187]), (190, [189, 187]), (191, [5, 187]), (192, [191, 187]), (193, [190, 192, 187]), (194, [187, 193, 176]), (195, [176, 194])]
                              [Fact.is (.slice (some aY) 64 cap8), Fact.is (.int .i64 (j : Int)), Fact.is (.pointer (some (Addr.add aY j))), Fact.is (.int .u8 (z.toNat : Int)), Fact.is (.int .i64 (i : Int)), Fact.is (.pointer (some ⟨qs, i, none⟩)), Fact.is (.string (str X)), Fact.is (.int .i64 (j : Int)), Fact.is (.int .u8 (z.toNat : Int)), Fact.is (.bool false), Fact.is (.bool false), Fact.is (undef), Fact.is (undef), Fact.is (undef), Fact.is (undef), Fact.is (undef), Fact.is (undef), Fact.is (undef), Fact.is (undef), Fact.is (undef), Fact.is (undef), Fact.is (undef), Fact.is (undef), Fact.is (undef), Fact.is (undef), Fact.is (undef), Fact.is (undef), Fact.is (undef), Fact.is (undef), Fact.is (.bool false)]
                              (by kernel_rfl) rfl rfl ⟨?s0, ?s1, ?s2, ?s3, ?s4, ?s5, ?s6, ?s7, ?s8, ?s9, ?s10, ?s11, ?s12, ?s13, ?s14, ?s15, ?s16, ?s17, ?s18, ?s19, ?s20, ?s21, ?s22, ?s23, ?s24, ?s25, ?s26, ?s27, ?s28, ?s29, trivial⟩ ?fin
                            case s0 =>
                              intro ρ W hb hc hf hr
                              obtain ⟨r20, -⟩ := hr
                              have e20 : ρ (.tmp 20) = .slice (some aY) 64 cap8 := r20
                              clear r20
                              refine under_none rfl ?_
                              exact ⟨e20, Below.refl _ _⟩
                            case s1 =>
                              intro ρ W hb hc hf hr
                              obtain ⟨r23, -⟩ := hr
                              have e23 : ρ (.tmp 23) = .int .i64 (j : Int) := r23
                              clear r23
                              refine under_none rfl ?_
                              exact ⟨e23, Below.refl _ _⟩
                            case s2 =>
                              intro ρ W hb hc hf hr
                              obtain ⟨r166, r167, -⟩ := hr
                              have e166 : ρ (.tmp 166) = .slice (some aY) 64 cap8 := r166
                              clear r166
                              have e167 : ρ (.tmp 167) = .int .i64 (j : Int) := r167
                              clear r167
                              refine under_none rfl ?_
                              exact soft_index e166 e167 (run_idxU8 W aY 64 cap8 j hj64) rfl
                            case s3 =>
                              intro ρ W hb hc hf hr
                              obtain ⟨r168, -⟩ := hr
                              have e168 : ρ (.tmp 168) = .pointer (some (Addr.add aY j)) := r168
                              clear r168
                              refine under_none rfl ?_
                              exact soft_load e168 (HYC.out W (hbd.trans (hb.mono (by simp)))) rfl
                            case s4 =>
                              intro ρ W hb hc hf hr
                              obtain ⟨r19, -⟩ := hr
                              have e19 : ρ (.tmp 19) = .int .i64 (i : Int) := r19
                              clear r19
                              refine under_none rfl ?_
                              exact ⟨e19, Below.refl _ _⟩
                            case s5 =>
                              intro ρ W hb hc hf hr
                              obtain ⟨r11, r170, -⟩ := hr
                              have e11 : ρ (.tmp 11) = .pointer (some ⟨qs, 0, none⟩) := r11
                              clear r11
                              have e170 : ρ (.tmp 170) = .int .i64 (i : Int) := r170
                              clear r170
                              refine under_none rfl ?_
                              exact soft_index e11 e170 (run_index8s W qs i hi8) rfl
                            case s6 =>
                              intro ρ W hb hc hf hr
                              obtain ⟨r171, -⟩ := hr
                              have e171 : ρ (.tmp 171) = .pointer (some ⟨qs, i, none⟩) := r171
                              clear r171
                              refine under_none rfl ?_
                              exact soft_load e171 (HLS.out W (hbd.trans (hb.mono (by simp)))) rfl
                            case s7 =>
                              intro ρ W hb hc hf hr
                              obtain ⟨r23, -⟩ := hr
                              have e23 : ρ (.tmp 23) = .int .i64 (j : Int) := r23
                              clear r23
                              refine under_none rfl ?_
                              exact ⟨e23, Below.refl _ _⟩
                            case s8 =>
                              intro ρ W hb hc hf hr
                              obtain ⟨r172, r173, -⟩ := hr
                              have e172 : ρ (.tmp 172) = .string (str X) := r172
                              clear r172
                              have e173 : ρ (.tmp 173) = .int .i64 (j : Int) := r173
                              clear r173
                              refine under_none rfl ?_
                              exact soft_idxStr e172 e173 (HXJ.out W) rfl
                            case s9 =>
                              intro ρ W hb hc hf hr
                              obtain ⟨r169, r174, -⟩ := hr
                              have e169 : ρ (.tmp 169) = .int .u8 (z.toNat : Int) := r169
                              clear r169
                              have e174 : ρ (.tmp 174) = .int .u8 (z.toNat : Int) := r174
                              clear r174
                              refine under_none rfl ?_
                              exact soft_bin e169 e174 rfl rfl (HNE.out W)
                            case s10 =>
                              intro ρ W hb hc hf hr
                              obtain ⟨r175, -⟩ := hr
                              have e175 : ρ (.tmp 175) = .bool false := r175
                              clear r175
                              refine under_none rfl ?_
                              exact ⟨e175, Below.refl _ _⟩
                            case s11 =>
                              intro ρ W hb hc hf hr
                              obtain ⟨r22, r176, -⟩ := hr
                              have e22 : ρ (.tmp 22) = .bool false := r22
                              clear r22
                              have e176 : ρ (.tmp 176) = .bool false := r176
                              clear r176
                              exact ⟨176, rfl, .inr (.inl ⟨e176, rfl⟩)⟩
                            case s12 =>
                              intro ρ W hb hc hf hr
                              obtain ⟨r177, r176, -⟩ := hr
                              have e177 : ρ (.tmp 177) = undef := r177
                              clear r177
                              have e176 : ρ (.tmp 176) = .bool false := r176
                              clear r176
                              exact ⟨176, rfl, .inr (.inl ⟨e176, rfl⟩)⟩
                            case s13 =>
                              intro ρ W hb hc hf hr
                              obtain ⟨r178, r176, -⟩ := hr
                              have e178 : ρ (.tmp 178) = undef := r178
                              clear r178
                              have e176 : ρ (.tmp 176) = .bool false := r176
                              clear r176
                              exact ⟨176, rfl, .inr (.inl ⟨e176, rfl⟩)⟩
                            case s14 =>
                              intro ρ W hb hc hf hr
                              obtain ⟨r23, r179, -⟩ := hr
                              have e23 : ρ (.tmp 23) = .int .i64 (j : Int) := r23
                              clear r23
                              have e179 : ρ (.tmp 179) = undef := r179
                              clear r179
                              exact ⟨179, rfl, .inr (.inr ⟨e179, rfl⟩)⟩
                            case s15 =>
                              intro ρ W hb hc hf hr
                              obtain ⟨r180, r179, -⟩ := hr
                              have e180 : ρ (.tmp 180) = undef := r180
                              clear r180
                              have e179 : ρ (.tmp 179) = undef := r179
                              clear r179
                              exact ⟨179, rfl, .inr (.inr ⟨e179, rfl⟩)⟩
                            case s16 =>
                              intro ρ W hb hc hf hr
                              obtain ⟨r181, r179, -⟩ := hr
                              have e181 : ρ (.tmp 181) = undef := r181
                              clear r181
                              have e179 : ρ (.tmp 179) = undef := r179
                              clear r179
                              exact ⟨179, rfl, .inr (.inr ⟨e179, rfl⟩)⟩
                            case s17 =>
                              intro ρ W hb hc hf hr
                              obtain ⟨r5, r179, -⟩ := hr
                              have e5 : ρ (.tmp 5) = .pointer (some ⟨bx, 0, none⟩) := r5
                              clear r5
                              have e179 : ρ (.tmp 179) = undef := r179
                              clear r179
                              exact ⟨179, rfl, .inr (.inr ⟨e179, rfl⟩)⟩
                            case s18 =>
                              intro ρ W hb hc hf hr
                              obtain ⟨r183, r179, -⟩ := hr
                              have e183 : ρ (.tmp 183) = undef := r183
                              clear r183
                              have e179 : ρ (.tmp 179) = undef := r179
                              clear r179
                              exact ⟨179, rfl, .inr (.inr ⟨e179, rfl⟩)⟩
                            case s19 =>
                              intro ρ W hb hc hf hr
                              obtain ⟨r182, r184, r179, -⟩ := hr
                              have e182 : ρ (.tmp 182) = undef := r182
                              clear r182
                              have e184 : ρ (.tmp 184) = undef := r184
                              clear r184
                              have e179 : ρ (.tmp 179) = undef := r179
                              clear r179
                              exact ⟨179, rfl, .inr (.inr ⟨e179, rfl⟩)⟩
                            case s20 =>
                              intro ρ W hb hc hf hr
                              obtain ⟨r179, r185, r176, -⟩ := hr
                              have e179 : ρ (.tmp 179) = undef := r179
                              clear r179
                              have e185 : ρ (.tmp 185) = undef := r185
                              clear r185
                              have e176 : ρ (.tmp 176) = .bool false := r176
                              clear r176
                              exact ⟨176, rfl, .inr (.inl ⟨e176, rfl⟩)⟩
                            case s21 =>
                              intro ρ W hb hc hf hr
                              obtain ⟨r186, r176, -⟩ := hr
                              have e186 : ρ (.tmp 186) = undef := r186
                              clear r186
                              have e176 : ρ (.tmp 176) = .bool false := r176
                              clear r176
                              exact ⟨176, rfl, .inr (.inl ⟨e176, rfl⟩)⟩
                            case s22 =>
                              intro ρ W hb hc hf hr
                              obtain ⟨r23, r187, -⟩ := hr
                              have e23 : ρ (.tmp 23) = .int .i64 (j : Int) := r23
                              clear r23
                              have e187 : ρ (.tmp 187) = undef := r187
                              clear r187
                              exact ⟨187, rfl, .inr (.inr ⟨e187, rfl⟩)⟩
                            case s23 =>
                              intro ρ W hb hc hf hr
                              obtain ⟨r188, r187, -⟩ := hr
                              have e188 : ρ (.tmp 188) = undef := r188
                              clear r188
                              have e187 : ρ (.tmp 187) = undef := r187
                              clear r187
                              exact ⟨187, rfl, .inr (.inr ⟨e187, rfl⟩)⟩
                            case s24 =>
                              intro ρ W hb hc hf hr
                              obtain ⟨r189, r187, -⟩ := hr
                              have e189 : ρ (.tmp 189) = undef := r189
                              clear r189
                              have e187 : ρ (.tmp 187) = undef := r187
                              clear r187
                              exact ⟨187, rfl, .inr (.inr ⟨e187, rfl⟩)⟩
                            case s25 =>
                              intro ρ W hb hc hf hr
                              obtain ⟨r5, r187, -⟩ := hr
                              have e5 : ρ (.tmp 5) = .pointer (some ⟨bx, 0, none⟩) := r5
                              clear r5
                              have e187 : ρ (.tmp 187) = undef := r187
                              clear r187
                              exact ⟨187, rfl, .inr (.inr ⟨e187, rfl⟩)⟩
                            case s26 =>
                              intro ρ W hb hc hf hr
                              obtain ⟨r191, r187, -⟩ := hr
                              have e191 : ρ (.tmp 191) = undef := r191
                              clear r191
                              have e187 : ρ (.tmp 187) = undef := r187
                              clear r187
                              exact ⟨187, rfl, .inr (.inr ⟨e187, rfl⟩)⟩
                            case s27 =>
                              intro ρ W hb hc hf hr
                              obtain ⟨r190, r192, r187, -⟩ := hr
                              have e190 : ρ (.tmp 190) = undef := r190
                              clear r190
                              have e192 : ρ (.tmp 192) = undef := r192
                              clear r192
                              have e187 : ρ (.tmp 187) = undef := r187
                              clear r187
                              exact ⟨187, rfl, .inr (.inr ⟨e187, rfl⟩)⟩
                            case s28 =>
                              intro ρ W hb hc hf hr
                              obtain ⟨r187, r193, r176, -⟩ := hr
                              have e187 : ρ (.tmp 187) = undef := r187
                              clear r187
                              have e193 : ρ (.tmp 193) = undef := r193
                              clear r193
                              have e176 : ρ (.tmp 176) = .bool false := r176
                              clear r176
                              exact ⟨176, rfl, .inr (.inl ⟨e176, rfl⟩)⟩
                            case s29 =>
                              intro ρ W hb hc hf hr
                              obtain ⟨r176, r194, -⟩ := hr
                              have e176 : ρ (.tmp 176) = .bool false := r176
                              clear r176
                              have e194 : ρ (.tmp 194) = undef := r194
                              clear r194
                              refine under_none rfl ?_
                              simp [execOp, e176, hc, go_sem, softUpon, Fact.is, Below.refl]
                            case fin =>
                              intro a w1 hb hd hsz hk
                              have ea := act_puts hd hsz rfl hk
                              have k166 : a.tmps.getD 166 undef = .slice (some aY) 64 cap8 := hk 166
                              have k167 : a.tmps.getD 167 undef = .int .i64 (j : Int) := hk 167
                              have k168 : a.tmps.getD 168 undef = .pointer (some (Addr.add aY j)) := hk 168
                              have k169 : a.tmps.getD 169 undef = .int .u8 (z.toNat : Int) := hk 169
                              have k170 : a.tmps.getD 170 undef = .int .i64 (i : Int) := hk 170
                              have k171 : a.tmps.getD 171 undef = .pointer (some ⟨qs, i, none⟩) := hk 171
                              have k172 : a.tmps.getD 172 undef = .string (str X) := hk 172
                              have k173 : a.tmps.getD 173 undef = .int .i64 (j : Int) := hk 173
                              have k174 : a.tmps.getD 174 undef = .int .u8 (z.toNat : Int) := hk 174
                              have k175 : a.tmps.getD 175 undef = .bool false := hk 175
                              have k176 : a.tmps.getD 176 undef = .bool false := hk 176
                              have k177 : a.tmps.getD 177 undef = undef := hk 177
                              have k178 : a.tmps.getD 178 undef = undef := hk 178
                              have k179 : a.tmps.getD 179 undef = undef := hk 179
                              have k180 : a.tmps.getD 180 undef = undef := hk 180
                              have k181 : a.tmps.getD 181 undef = undef := hk 181
                              have k182 : a.tmps.getD 182 undef = undef := hk 182
                              have k183 : a.tmps.getD 183 undef = undef := hk 183
                              have k184 : a.tmps.getD 184 undef = undef := hk 184
                              have k185 : a.tmps.getD 185 undef = undef := hk 185
                              have k186 : a.tmps.getD 186 undef = undef := hk 186
                              have k187 : a.tmps.getD 187 undef = undef := hk 187
                              have k188 : a.tmps.getD 188 undef = undef := hk 188
                              have k189 : a.tmps.getD 189 undef = undef := hk 189
                              have k190 : a.tmps.getD 190 undef = undef := hk 190
                              have k191 : a.tmps.getD 191 undef = undef := hk 191
                              have k192 : a.tmps.getD 192 undef = undef := hk 192
                              have k193 : a.tmps.getD 193 undef = undef := hk 193
                              have k194 : a.tmps.getD 194 undef = undef := hk 194
                              have k195 : a.tmps.getD 195 undef = .bool false := hk 195
                              clear hk hd hsz
                              simp only [List.map_cons, List.map_nil, List.foldl_cons, List.foldl_nil, k166, k167, k168, k169, k170, k171, k172, k173, k174, k175, k176, k177, k178, k179, k180, k181, k182, k183, k184, k185, k186, k187, k188, k189, k190, k191, k192, k193, k194, k195] at ea
                              clear k166 k167 k168 k169 k170 k171 k172 k173 k174 k175 k176 k177 k178 k179 k180 k181 k182 k183 k184 k185 k186 k187 k188 k189 k190 k191 k192 k193 k194 k195
                              simp only [Act.put, List.setIfInBounds_toArray, List.set_cons_succ, List.set_cons_zero] at ea
                              subst ea
                              have dV := hbd.trans (hb.mono (by simp))
                              have HW1 := Lib.hid (HB4.out.trans (dV.mono HB4.out.size))
                              clear hb dV
                              go_wp2
                              go_roundw
                              case rel => exact ⟨j + 1, by go_num, by omega, HW1.out⟩
                              case measure => simp [RowKit.intOf]; omega
                          · obtain rfl : j = 64 := by omega
                            go_wp2
                            go_roundw
                            case rel => exact ⟨i + 1, by go_num, by omega, HP.out.below HB4.out, stay HBX.out HB4.out, HRV.out.below HB4.out, HLL.out.below HB4.out, HB.out.trans (HB4.out.mono (by omega))⟩
                            case measure => simp [RowKit.intOf]; omega
                    · have t2 : decide (x.which < (m : Int)) = false := by simpa using hwm
                      have HYE := Lib.hid (show Y = X by
                        have := HYX.out
                        rwa [if_neg (by unfold Plain.Dv.mine; rw [HM.out]; simp; omega)] at this)
                      clear HYX
                      go_wp2
                      go_loopw [23] (fun s wr => ∃ j : Nat, s = .int .i64 (j : Int) ∧ j ≤ 64 ∧ Below wa.heap.size wa wr) (fun s _ => 64 - (RowKit.intOf s).toNat)
                      case atStart => exact ⟨0, rfl, Nat.zero_le _, Below.refl _ _⟩
                      case round =>
                        obtain ⟨j, rfl, hj, hB4⟩ := hrel
                        have HB4 := Lib.hid hB4
                        clear hB4
                        by_cases hj64 : j < 64
                        · have hj1 : (j : Int) < 64 := by omega
                          have hbd : Below wr.heap.size wr wr.drew := (Below.refl _ _).drew
                          have HXJ := Lib.hid (fun (W : World) => run_idxStr W X j (by rw [HXL.out]; exact hj64))
                          have HLS := Lib.hid (fun (W : World) (hW : Below wr.heap.size wr W) => HLS.out W (HB4.out.trans (hW.mono HB4.out.size)))
                          have HYC := Lib.hid (fun (W : World) (hW : Below wr.heap.size wr W) => run_loadU8 W (aY.add j) _ (HYC0.out W (HB4.out.trans (hW.mono HB4.out.size)) j hj64))
                          rw [HYE.out] at HYC
                          obtain ⟨z, hz⟩ : ∃ z, X.getD j 0 = z := ⟨_, rfl⟩
                          rw [hz] at HYC HXJ
                          clear hz
                          have HNE := Lib.hid (fun W : World => ne_u8 W z z false (by simp))
                          go_wp2
                          refine wp_softS (by kernel_rfl) 197 [(166, [20]), (167, [23]), (168, [166, 167]), (169, [168]), (170, [19]), (171, [11, 170]), (172, [171]), (173, [23]), (174, [172, 173]), (175, [169, 174]), (176, [175]), (177, [22, 176]), (178, [177, 176]), (179, [178, 176]), (180, [23, 179]), (181, [180, 179]), (182, [181, 179]), (183, [5, 179]), (184, [183, 179]), (185, [182, 184, 179]), (186, [179, 185, 176]), (187, [186, 176]), (188, [23, 187]), (189, [188, 187]), (190, [189, 187]), (191, [5, 187]), (192, [191, 187]), (193, [190, 192, 187]), (194, [187, 193, 176]), (195, [176, 194])]
                            [Fact.is (.slice (some aY) 64 cap8), Fact.is (.int .i64 (j : Int)), Fact.is (.pointer (some (Addr.add aY j))), Fact.is (.int .u8 (z.toNat : Int)), Fact.is (.int .i64 (i : Int)), Fact.is (.pointer (some ⟨qs, i, none⟩)), Fact.is (.string (str X)), Fact.is (.int .i64 (j : Int)), Fact.is (.int .u8 (z.toNat : Int)), Fact.is (.bool false), Fact.is (.bool false), Fact.is (undef), Fact.is (undef), Fact.is (undef), Fact.is (undef), Fact.is (undef), Fact.is (undef), Fact.is (undef), Fact.is (undef), Fact.is (undef), Fact.is (undef), Fact.is (undef), Fact.is (undef), Fact.is (undef), Fact.is (undef), Fact.is (undef), Fact.is (undef), Fact.is (undef), Fact.is (undef), Fact.is (.bool false)]
                            (by kernel_rfl) rfl rfl ⟨?s0, ?s1, ?s2, ?s3, ?s4, ?s5, ?s6, ?s7, ?s8, ?s9, ?s10, ?s11, ?s12, ?s13, ?s14, ?s15, ?s16, ?s17, ?s18, ?s19, ?s20, ?s21, ?s22, ?s23, ?s24, ?s25, ?s26, ?s27, ?s28, ?s29, trivial⟩ ?fin
                          case s0 =>
                            intro ρ W hb hc hf hr
                            obtain ⟨r20, -⟩ := hr
                            have e20 : ρ (.tmp 20) = .slice (some aY) 64 cap8 := r20
                            clear r20
                            refine under_none rfl ?_
                            exact ⟨e20, Below.refl _ _⟩
                          case s1 =>
                            intro ρ W hb hc hf hr
                            obtain ⟨r23, -⟩ := hr
                            have e23 : ρ (.tmp 23) = .int .i64 (j : Int) := r23
                            clear r23
                            refine under_none rfl ?_
                            exact ⟨e23, Below.refl _ _⟩
                          case s2 =>
                            intro ρ W hb hc hf hr
                            obtain ⟨r166, r167, -⟩ := hr
                            have e166 : ρ (.tmp 166) = .slice (some aY) 64 cap8 := r166
                            clear r166
                            have e167 : ρ (.tmp 167) = .int .i64 (j : Int) := r167
                            clear r167
                            refine under_none rfl ?_
                            exact soft_index e166 e167 (run_idxU8 W aY 64 cap8 j hj64) rfl
                          case s3 =>
                            intro ρ W hb hc hf hr
                            obtain ⟨r168, -⟩ := hr
                            have e168 : ρ (.tmp 168) = .pointer (some (Addr.add aY j)) := r168
                            clear r168
                            refine under_none rfl ?_
                            exact soft_load e168 (HYC.out W (hbd.trans (hb.mono (by simp)))) rfl
                          case s4 =>
                            intro ρ W hb hc hf hr
                            obtain ⟨r19, -⟩ := hr
                            have e19 : ρ (.tmp 19) = .int .i64 (i : Int) := r19
                            clear r19
                            refine under_none rfl ?_
                            exact ⟨e19, Below.refl _ _⟩
                          case s5 =>
                            intro ρ W hb hc hf hr
                            obtain ⟨r11, r170, -⟩ := hr
                            have e11 : ρ (.tmp 11) = .pointer (some ⟨qs, 0, none⟩) := r11
                            clear r11
                            have e170 : ρ (.tmp 170) = .int .i64 (i : Int) := r170
                            clear r170
                            refine under_none rfl ?_
                            exact soft_index e11 e170 (run_index8s W qs i hi8) rfl
                          case s6 =>
                            intro ρ W hb hc hf hr
                            obtain ⟨r171, -⟩ := hr
                            have e171 : ρ (.tmp 171) = .pointer (some ⟨qs, i, none⟩) := r171
                            clear r171
                            refine under_none rfl ?_
                            exact soft_load e171 (HLS.out W (hbd.trans (hb.mono (by simp)))) rfl
                          case s7 =>
                            intro ρ W hb hc hf hr
                            obtain ⟨r23, -⟩ := hr
                            have e23 : ρ (.tmp 23) = .int .i64 (j : Int) := r23
                            clear r23
                            refine under_none rfl ?_
                            exact ⟨e23, Below.refl _ _⟩
                          case s8 =>
                            intro ρ W hb hc hf hr
                            obtain ⟨r172, r173, -⟩ := hr
                            have e172 : ρ (.tmp 172) = .string (str X) := r172
                            clear r172
                            have e173 : ρ (.tmp 173) = .int .i64 (j : Int) := r173
                            clear r173
                            refine under_none rfl ?_
                            exact soft_idxStr e172 e173 (HXJ.out W) rfl
                          case s9 =>
                            intro ρ W hb hc hf hr
                            obtain ⟨r169, r174, -⟩ := hr
                            have e169 : ρ (.tmp 169) = .int .u8 (z.toNat : Int) := r169
                            clear r169
                            have e174 : ρ (.tmp 174) = .int .u8 (z.toNat : Int) := r174
                            clear r174
                            refine under_none rfl ?_
                            exact soft_bin e169 e174 rfl rfl (HNE.out W)
                          case s10 =>
                            intro ρ W hb hc hf hr
                            obtain ⟨r175, -⟩ := hr
                            have e175 : ρ (.tmp 175) = .bool false := r175
                            clear r175
                            refine under_none rfl ?_
                            exact ⟨e175, Below.refl _ _⟩
                          case s11 =>
                            intro ρ W hb hc hf hr
                            obtain ⟨r22, r176, -⟩ := hr
                            have e22 : ρ (.tmp 22) = .bool false := r22
                            clear r22
                            have e176 : ρ (.tmp 176) = .bool false := r176
                            clear r176
                            exact ⟨176, rfl, .inr (.inl ⟨e176, rfl⟩)⟩
                          case s12 =>
                            intro ρ W hb hc hf hr
                            obtain ⟨r177, r176, -⟩ := hr
                            have e177 : ρ (.tmp 177) = undef := r177
                            clear r177
                            have e176 : ρ (.tmp 176) = .bool false := r176
                            clear r176
                            exact ⟨176, rfl, .inr (.inl ⟨e176, rfl⟩)⟩
                          case s13 =>
                            intro ρ W hb hc hf hr
                            obtain ⟨r178, r176, -⟩ := hr
                            have e178 : ρ (.tmp 178) = undef := r178
                            clear r178
                            have e176 : ρ (.tmp 176) = .bool false := r176
                            clear r176
                            exact ⟨176, rfl, .inr (.inl ⟨e176, rfl⟩)⟩
                          case s14 =>
                            intro ρ W hb hc hf hr
                            obtain ⟨r23, r179, -⟩ := hr
                            have e23 : ρ (.tmp 23) = .int .i64 (j : Int) := r23
                            clear r23
                            have e179 : ρ (.tmp 179) = undef := r179
                            clear r179
                            exact ⟨179, rfl, .inr (.inr ⟨e179, rfl⟩)⟩
                          case s15 =>
                            intro ρ W hb hc hf hr
                            obtain ⟨r180, r179, -⟩ := hr
                            have e180 : ρ (.tmp 180) = undef := r180
                            clear r180
                            have e179 : ρ (.tmp 179) = undef := r179
                            clear r179
                            exact ⟨179, rfl, .inr (.inr ⟨e179, rfl⟩)⟩
                          case s16 =>
                            intro ρ W hb hc hf hr
                            obtain ⟨r181, r179, -⟩ := hr
                            have e181 : ρ (.tmp 181) = undef := r181
                            clear r181
                            have e179 : ρ (.tmp 179) = undef := r179
                            clear r179
                            exact ⟨179, rfl, .inr (.inr ⟨e179, rfl⟩)⟩
                          case s17 =>
                            intro ρ W hb hc hf hr
                            obtain ⟨r5, r179, -⟩ := hr
                            have e5 : ρ (.tmp 5) = .pointer (some ⟨bx, 0, none⟩) := r5
                            clear r5
                            have e179 : ρ (.tmp 179) = undef := r179
                            clear r179
                            exact ⟨179, rfl, .inr (.inr ⟨e179, rfl⟩)⟩
                          case s18 =>
                            intro ρ W hb hc hf hr
                            obtain ⟨r183, r179, -⟩ := hr
                            have e183 : ρ (.tmp 183) = undef := r183
                            clear r183
                            have e179 : ρ (.tmp 179) = undef := r179
                            clear r179
                            exact ⟨179, rfl, .inr (.inr ⟨e179, rfl⟩)⟩
                          case s19 =>
                            intro ρ W hb hc hf hr
                            obtain ⟨r182, r184, r179, -⟩ := hr
                            have e182 : ρ (.tmp 182) = undef := r182
                            clear r182
                            have e184 : ρ (.tmp 184) = undef := r184
                            clear r184
                            have e179 : ρ (.tmp 179) = undef := r179
                            clear r179
                            exact ⟨179, rfl, .inr (.inr ⟨e179, rfl⟩)⟩
                          case s20 =>
                            intro ρ W hb hc hf hr
                            obtain ⟨r179, r185, r176, -⟩ := hr
                            have e179 : ρ (.tmp 179) = undef := r179
                            clear r179
                            have e185 : ρ (.tmp 185) = undef := r185
                            clear r185
                            have e176 : ρ (.tmp 176) = .bool false := r176
                            clear r176
                            exact ⟨176, rfl, .inr (.inl ⟨e176, rfl⟩)⟩
                          case s21 =>
                            intro ρ W hb hc hf hr
                            obtain ⟨r186, r176, -⟩ := hr
                            have e186 : ρ (.tmp 186) = undef := r186
                            clear r186
                            have e176 : ρ (.tmp 176) = .bool false := r176
                            clear r176
                            exact ⟨176, rfl, .inr (.inl ⟨e176, rfl⟩)⟩
                          case s22 =>
                            intro ρ W hb hc hf hr
                            obtain ⟨r23, r187, -⟩ := hr
                            have e23 : ρ (.tmp 23) = .int .i64 (j : Int) := r23
                            clear r23
                            have e187 : ρ (.tmp 187) = undef := r187
                            clear r187
                            exact ⟨187, rfl, .inr (.inr ⟨e187, rfl⟩)⟩
                          case s23 =>
                            intro ρ W hb hc hf hr
                            obtain ⟨r188, r187, -⟩ := hr
                            have e188 : ρ (.tmp 188) = undef := r188
                            clear r188
                            have e187 : ρ (.tmp 187) = undef := r187
                            clear r187
                            exact ⟨187, rfl, .inr (.inr ⟨e187, rfl⟩)⟩
                          case s24 =>
                            intro ρ W hb hc hf hr
                            obtain ⟨r189, r187, -⟩ := hr
                            have e189 : ρ (.tmp 189) = undef := r189
                            clear r189
                            have e187 : ρ (.tmp 187) = undef := r187
                            clear r187
                            exact ⟨187, rfl, .inr (.inr ⟨e187, rfl⟩)⟩
                          case s25 =>
                            intro ρ W hb hc hf hr
                            obtain ⟨r5, r187, -⟩ := hr
                            have e5 : ρ (.tmp 5) = .pointer (some ⟨bx, 0, none⟩) := r5
                            clear r5
                            have e187 : ρ (.tmp 187) = undef := r187
                            clear r187
                            exact ⟨187, rfl, .inr (.inr ⟨e187, rfl⟩)⟩
                          case s26 =>
                            intro ρ W hb hc hf hr
                            obtain ⟨r191, r187, -⟩ := hr
                            have e191 : ρ (.tmp 191) = undef := r191
                            clear r191
                            have e187 : ρ (.tmp 187) = undef := r187
                            clear r187
                            exact ⟨187, rfl, .inr (.inr ⟨e187, rfl⟩)⟩
                          case s27 =>
                            intro ρ W hb hc hf hr
                            obtain ⟨r190, r192, r187, -⟩ := hr
                            have e190 : ρ (.tmp 190) = undef := r190
                            clear r190
                            have e192 : ρ (.tmp 192) = undef := r192
                            clear r192
                            have e187 : ρ (.tmp 187) = undef := r187
                            clear r187
                            exact ⟨187, rfl, .inr (.inr ⟨e187, rfl⟩)⟩
                          case s28 =>
                            intro ρ W hb hc hf hr
                            obtain ⟨r187, r193, r176, -⟩ := hr
                            have e187 : ρ (.tmp 187) = undef := r187
                            clear r187
                            have e193 : ρ (.tmp 193) = undef := r193
                            clear r193
                            have e176 : ρ (.tmp 176) = .bool false := r176
                            clear r176
                            exact ⟨176, rfl, .inr (.inl ⟨e176, rfl⟩)⟩
                          case s29 =>
                            intro ρ W hb hc hf hr
                            obtain ⟨r176, r194, -⟩ := hr
                            have e176 : ρ (.tmp 176) = .bool false := r176
                            clear r176
                            have e194 : ρ (.tmp 194) = undef := r194
                            clear r194
                            refine under_none rfl ?_
                            simp [execOp, e176, hc, go_sem, softUpon, Fact.is, Below.refl]
                          case fin =>
                            intro a w1 hb hd hsz hk
                            have ea := act_puts hd hsz rfl hk
                            have k166 : a.tmps.getD 166 undef = .slice (some aY) 64 cap8 := hk 166
                            have k167 : a.tmps.getD 167 undef = .int .i64 (j : Int) := hk 167
                            have k168 : a.tmps.getD 168 undef = .pointer (some (Addr.add aY j)) := hk 168
                            have k169 : a.tmps.getD 169 undef = .int .u8 (z.toNat : Int) := hk 169
                            have k170 : a.tmps.getD 170 undef = .int .i64 (i : Int) := hk 170
                            have k171 : a.tmps.getD 171 undef = .pointer (some ⟨qs, i, none⟩) := hk 171
                            have k172 : a.tmps.getD 172 undef = .string (str X) := hk 172
                            have k173 : a.tmps.getD 173 undef = .int .i64 (j : Int) := hk 173
                            have k174 : a.tmps.getD 174 undef = .int .u8 (z.toNat : Int) := hk 174
                            have k175 : a.tmps.getD 175 undef = .bool false := hk 175
                            have k176 : a.tmps.getD 176 undef = .bool false := hk 176
                            have k177 : a.tmps.getD 177 undef = undef := hk 177
                            have k178 : a.tmps.getD 178 undef = undef := hk 178
                            have k179 : a.tmps.getD 179 undef = undef := hk 179
                            have k180 : a.tmps.getD 180 undef = undef := hk 180
                            have k181 : a.tmps.getD 181 undef = undef := hk 181
                            have k182 : a.tmps.getD 182 undef = undef := hk 182
                            have k183 : a.tmps.getD 183 undef = undef := hk 183
                            have k184 : a.tmps.getD 184 undef = undef := hk 184
                            have k185 : a.tmps.getD 185 undef = undef := hk 185
                            have k186 : a.tmps.getD 186 undef = undef := hk 186
                            have k187 : a.tmps.getD 187 undef = undef := hk 187
                            have k188 : a.tmps.getD 188 undef = undef := hk 188
                            have k189 : a.tmps.getD 189 undef = undef := hk 189
                            have k190 : a.tmps.getD 190 undef = undef := hk 190
                            have k191 : a.tmps.getD 191 undef = undef := hk 191
                            have k192 : a.tmps.getD 192 undef = undef := hk 192
                            have k193 : a.tmps.getD 193 undef = undef := hk 193
                            have k194 : a.tmps.getD 194 undef = undef := hk 194
                            have k195 : a.tmps.getD 195 undef = .bool false := hk 195
                            clear hk hd hsz
                            simp only [List.map_cons, List.map_nil, List.foldl_cons, List.foldl_nil, k166, k167, k168, k169, k170, k171, k172, k173, k174, k175, k176, k177, k178, k179, k180, k181, k182, k183, k184, k185, k186, k187, k188, k189, k190, k191, k192, k193, k194, k195] at ea
                            clear k166 k167 k168 k169 k170 k171 k172 k173 k174 k175 k176 k177 k178 k179 k180 k181 k182 k183 k184 k185 k186 k187 k188 k189 k190 k191 k192 k193 k194 k195
                            simp only [Act.put, List.setIfInBounds_toArray, List.set_cons_succ, List.set_cons_zero] at ea
                            subst ea
                            have dV := hbd.trans (hb.mono (by simp))
                            have HW1 := Lib.hid (HB4.out.trans (dV.mono HB4.out.size))
                            clear hb dV
                            go_wp2
                            go_roundw
                            case rel => exact ⟨j + 1, by go_num, by omega, HW1.out⟩
                            case measure => simp [RowKit.intOf]; omega
                        · obtain rfl : j = 64 := by omega
                          go_wp2
                          go_roundw
                          case rel => exact ⟨i + 1, by go_num, by omega, HP.out.below HB4.out, stay HBX.out HB4.out, HRV.out.below HB4.out, HLL.out.below HB4.out, HB.out.trans (HB4.out.mono (by omega))⟩
                          case measure => simp [RowKit.intOf]; omega
                  · have t2 : decide (0 ≤ x.which) = false := by simpa using hw0
                    have HYE := Lib.hid (show Y = X by
                      have := HYX.out
                      rwa [if_neg (by unfold Plain.Dv.mine; simp; omega)] at this)
                    clear HYX
                    go_wp2
                    go_loopw [23] (fun s wr => ∃ j : Nat, s = .int .i64 (j : Int) ∧ j ≤ 64 ∧ Below wa.heap.size wa wr) (fun s _ => 64 - (RowKit.intOf s).toNat)
                    case atStart => exact ⟨0, rfl, Nat.zero_le _, Below.refl _ _⟩
                    case round =>
                      obtain ⟨j, rfl, hj, hB4⟩ := hrel
                      have HB4 := Lib.hid hB4
                      clear hB4
                      by_cases hj64 : j < 64
                      · have hj1 : (j : Int) < 64 := by omega
                        have hbd : Below wr.heap.size wr wr.drew := (Below.refl _ _).drew
                        have HXJ := Lib.hid (fun (W : World) => run_idxStr W X j (by rw [HXL.out]; exact hj64))
                        have HLS := Lib.hid (fun (W : World) (hW : Below wr.heap.size wr W) => HLS.out W (HB4.out.trans (hW.mono HB4.out.size)))
                        have HYC := Lib.hid (fun (W : World) (hW : Below wr.heap.size wr W) => run_loadU8 W (aY.add j) _ (HYC0.out W (HB4.out.trans (hW.mono HB4.out.size)) j hj64))
                        rw [HYE.out] at HYC
                        obtain ⟨z, hz⟩ : ∃ z, X.getD j 0 = z := ⟨_, rfl⟩
                        rw [hz] at HYC HXJ
                        clear hz
                        have HNE := Lib.hid (fun W : World => ne_u8 W z z false (by simp))
                        go_wp2
                        refine wp_softS (by kernel_rfl) 197 [(166, [20]), (167, [23]), (168, [166, 167]), (169, [168]), (170, [19]), (171, [11, 170]), (172, [171]), (173, [23]), (174, [172, 173]), (175, [169, 174]), (176, [175]), (177, [22, 176]), (178, [177, 176]), (179, [178, 176]), (180, [23, 179]), (181, [180, 179]), (182, [181, 179]), (183, [5, 179]), (184, [183, 179]), (185, [182, 184, 179]), (186, [179, 185, 176]), (187, [186, 176]), (188, [23, 187]), (189, [188, 187]), (190, [189, 187]), (191, [5, 187]), (192, [191, 187]), (193, [190, 192, 187]), (194, [187, 193, 176]), (195, [176, 194])]
                          [Fact.is (.slice (some aY) 64 cap8), Fact.is (.int .i64 (j : Int)), Fact.is (.pointer (some (Addr.add aY j))), Fact.is (.int .u8 (z.toNat : Int)), Fact.is (.int .i64 (i : Int)), Fact.is (.pointer (some ⟨qs, i, none⟩)), Fact.is (.string (str X)), Fact.is (.int .i64 (j : Int)), Fact.is (.int .u8 (z.toNat : Int)), Fact.is (.bool false), Fact.is (.bool false), Fact.is (undef), Fact.is (undef), Fact.is (undef), Fact.is (undef), Fact.is (undef), Fact.is (undef), Fact.is (undef), Fact.is (undef), Fact.is (undef), Fact.is (undef), Fact.is (undef), Fact.is (undef), Fact.is (undef), Fact.is (undef), Fact.is (undef), Fact.is (undef), Fact.is (undef), Fact.is (undef), Fact.is (.bool false)]
                          (by kernel_rfl) rfl rfl ⟨?s0, ?s1, ?s2, ?s3, ?s4, ?s5, ?s6, ?s7, ?s8, ?s9, ?s10, ?s11, ?s12, ?s13, ?s14, ?s15, ?s16, ?s17, ?s18, ?s19, ?s20, ?s21, ?s22, ?s23, ?s24, ?s25, ?s26, ?s27, ?s28, ?s29, trivial⟩ ?fin
                        case s0 =>
                          intro ρ W hb hc hf hr
                          obtain ⟨r20, -⟩ := hr
                          have e20 : ρ (.tmp 20) = .slice (some aY) 64 cap8 := r20
                          clear r20
                          refine under_none rfl ?_
                          exact ⟨e20, Below.refl _ _⟩
                        case s1 =>
                          intro ρ W hb hc hf hr
                          obtain ⟨r23, -⟩ := hr
                          have e23 : ρ (.tmp 23) = .int .i64 (j : Int) := r23
                          clear r23
                          refine under_none rfl ?_
                          exact ⟨e23, Below.refl _ _⟩
                        case s2 =>
                          intro ρ W hb hc hf hr
                          obtain ⟨r166, r167, -⟩ := hr
                          have e166 : ρ (.tmp 166) = .slice (some aY) 64 cap8 := r166
                          clear r166
                          have e167 : ρ (.tmp 167) = .int .i64 (j : Int) := r167
                          clear r167
                          refine under_none rfl ?_
                          exact soft_index e166 e167 (run_idxU8 W aY 64 cap8 j hj64) rfl
                        case s3 =>
                          intro ρ W hb hc hf hr
                          obtain ⟨r168, -⟩ := hr
                          have e168 : ρ (.tmp 168) = .pointer (some (Addr.add aY j)) := r168
                          clear r168
                          refine under_none rfl ?_
                          exact soft_load e168 (HYC.out W (hbd.trans (hb.mono (by simp)))) rfl
                        case s4 =>
                          intro ρ W hb hc hf hr
                          obtain ⟨r19, -⟩ := hr
                          have e19 : ρ (.tmp 19) = .int .i64 (i : Int) := r19
                          clear r19
                          refine under_none rfl ?_
                          exact ⟨e19, Below.refl _ _⟩
                        case s5 =>
                          intro ρ W hb hc hf hr
                          obtain ⟨r11, r170, -⟩ := hr
                          have e11 : ρ (.tmp 11) = .pointer (some ⟨qs, 0, none⟩) := r11
                          clear r11
                          have e170 : ρ (.tmp 170) = .int .i64 (i : Int) := r170
                          clear r170
                          refine under_none rfl ?_
                          exact soft_index e11 e170 (run_index8s W qs i hi8) rfl
                        case s6 =>
                          intro ρ W hb hc hf hr
                          obtain ⟨r171, -⟩ := hr
                          have e171 : ρ (.tmp 171) = .pointer (some ⟨qs, i, none⟩) := r171
                          clear r171
                          refine under_none rfl ?_
                          exact soft_load e171 (HLS.out W (hbd.trans (hb.mono (by simp)))) rfl
                        case s7 =>
                          intro ρ W hb hc hf hr
                          obtain ⟨r23, -⟩ := hr
                          have e23 : ρ (.tmp 23) = .int .i64 (j : Int) := r23
                          clear r23
                          refine under_none rfl ?_
                          exact ⟨e23, Below.refl _ _⟩
                        case s8 =>
                          intro ρ W hb hc hf hr
                          obtain ⟨r172, r173, -⟩ := hr
                          have e172 : ρ (.tmp 172) = .string (str X) := r172
                          clear r172
                          have e173 : ρ (.tmp 173) = .int .i64 (j : Int) := r173
                          clear r173
                          refine under_none rfl ?_
                          exact soft_idxStr e172 e173 (HXJ.out W) rfl
                        case s9 =>
                          intro ρ W hb hc hf hr
                          obtain ⟨r169, r174, -⟩ := hr
                          have e169 : ρ (.tmp 169) = .int .u8 (z.toNat : Int) := r169
                          clear r169
                          have e174 : ρ (.tmp 174) = .int .u8 (z.toNat : Int) := r174
                          clear r174
                          refine under_none rfl ?_
                          exact soft_bin e169 e174 rfl rfl (HNE.out W)
                        case s10 =>
                          intro ρ W hb hc hf hr
                          obtain ⟨r175, -⟩ := hr
                          have e175 : ρ (.tmp 175) = .bool false := r175
                          clear r175
                          refine under_none rfl ?_
                          exact ⟨e175, Below.refl _ _⟩
                        case s11 =>
                          intro ρ W hb hc hf hr
                          obtain ⟨r22, r176, -⟩ := hr
                          have e22 : ρ (.tmp 22) = .bool false := r22
                          clear r22
                          have e176 : ρ (.tmp 176) = .bool false := r176
                          clear r176
                          exact ⟨176, rfl, .inr (.inl ⟨e176, rfl⟩)⟩
                        case s12 =>
                          intro ρ W hb hc hf hr
                          obtain ⟨r177, r176, -⟩ := hr
                          have e177 : ρ (.tmp 177) = undef := r177
                          clear r177
                          have e176 : ρ (.tmp 176) = .bool false := r176
                          clear r176
                          exact ⟨176, rfl, .inr (.inl ⟨e176, rfl⟩)⟩
                        case s13 =>
                          intro ρ W hb hc hf hr
                          obtain ⟨r178, r176, -⟩ := hr
                          have e178 : ρ (.tmp 178) = undef := r178
                          clear r178
                          have e176 : ρ (.tmp 176) = .bool false := r176
                          clear r176
                          exact ⟨176, rfl, .inr (.inl ⟨e176, rfl⟩)⟩
                        case s14 =>
                          intro ρ W hb hc hf hr
                          obtain ⟨r23, r179, -⟩ := hr
                          have e23 : ρ (.tmp 23) = .int .i64 (j : Int) := r23
                          clear r23
                          have e179 : ρ (.tmp 179) = undef := r179
                          clear r179
                          exact ⟨179, rfl, .inr (.inr ⟨e179, rfl⟩)⟩
                        case s15 =>
                          intro ρ W hb hc hf hr
                          obtain ⟨r180, r179, -⟩ := hr
                          have e180 : ρ (.tmp 180) = undef := r180
                          clear r180
                          have e179 : ρ (.tmp 179) = undef := r179
                          clear r179
                          exact ⟨179, rfl, .inr (.inr ⟨e179, rfl⟩)⟩
                        case s16 =>
                          intro ρ W hb hc hf hr
                          obtain ⟨r181, r179, -⟩ := hr
                          have e181 : ρ (.tmp 181) = undef := r181
                          clear r181
                          have e179 : ρ (.tmp 179) = undef := r179
                          clear r179
                          exact ⟨179, rfl, .inr (.inr ⟨e179, rfl⟩)⟩
                        case s17 =>
                          intro ρ W hb hc hf hr
                          obtain ⟨r5, r179, -⟩ := hr
                          have e5 : ρ (.tmp 5) = .pointer (some ⟨bx, 0, none⟩) := r5
                          clear r5
                          have e179 : ρ (.tmp 179) = undef := r179
                          clear r179
                          exact ⟨179, rfl, .inr (.inr ⟨e179, rfl⟩)⟩
                        case s18 =>
                          intro ρ W hb hc hf hr
                          obtain ⟨r183, r179, -⟩ := hr
                          have e183 : ρ (.tmp 183) = undef := r183
                          clear r183
                          have e179 : ρ (.tmp 179) = undef := r179
                          clear r179
                          exact ⟨179, rfl, .inr (.inr ⟨e179, rfl⟩)⟩
                        case s19 =>
                          intro ρ W hb hc hf hr
                          obtain ⟨r182, r184, r179, -⟩ := hr
                          have e182 : ρ (.tmp 182) = undef := r182
                          clear r182
                          have e184 : ρ (.tmp 184) = undef := r184
                          clear r184
                          have e179 : ρ (.tmp 179) = undef := r179
                          clear r179
                          exact ⟨179, rfl, .inr (.inr ⟨e179, rfl⟩)⟩
                        case s20 =>
                          intro ρ W hb hc hf hr
                          obtain ⟨r179, r185, r176, -⟩ := hr
                          have e179 : ρ (.tmp 179) = undef := r179
                          clear r179
                          have e185 : ρ (.tmp 185) = undef := r185
                          clear r185
                          have e176 : ρ (.tmp 176) = .bool false := r176
                          clear r176
                          exact ⟨176, rfl, .inr (.inl ⟨e176, rfl⟩)⟩
                        case s21 =>
                          intro ρ W hb hc hf hr
                          obtain ⟨r186, r176, -⟩ := hr
                          have e186 : ρ (.tmp 186) = undef := r186
                          clear r186
                          have e176 : ρ (.tmp 176) = .bool false := r176
                          clear r176
                          exact ⟨176, rfl, .inr (.inl ⟨e176, rfl⟩)⟩
                        case s22 =>
                          intro ρ W hb hc hf hr
                          obtain ⟨r23, r187, -⟩ := hr
                          have e23 : ρ (.tmp 23) = .int .i64 (j : Int) := r23
                          clear r23
                          have e187 : ρ (.tmp 187) = undef := r187
                          clear r187
                          exact ⟨187, rfl, .inr (.inr ⟨e187, rfl⟩)⟩
                        case s23 =>
                          intro ρ W hb hc hf hr
                          obtain ⟨r188, r187, -⟩ := hr
                          have e188 : ρ (.tmp 188) = undef := r188
                          clear r188
                          have e187 : ρ (.tmp 187) = undef := r187
                          clear r187
                          exact ⟨187, rfl, .inr (.inr ⟨e187, rfl⟩)⟩
                        case s24 =>
                          intro ρ W hb hc hf hr
                          obtain ⟨r189, r187, -⟩ := hr
                          have e189 : ρ (.tmp 189) = undef := r189
                          clear r189
                          have e187 : ρ (.tmp 187) = undef := r187
                          clear r187
                          exact ⟨187, rfl, .inr (.inr ⟨e187, rfl⟩)⟩
                        case s25 =>
                          intro ρ W hb hc hf hr
                          obtain ⟨r5, r187, -⟩ := hr
                          have e5 : ρ (.tmp 5) = .pointer (some ⟨bx, 0, none⟩) := r5
                          clear r5
                          have e187 : ρ (.tmp 187) = undef := r187
                          clear r187
                          exact ⟨187, rfl, .inr (.inr ⟨e187, rfl⟩)⟩
                        case s26 =>
                          intro ρ W hb hc hf hr
                          obtain ⟨r191, r187, -⟩ := hr
                          have e191 : ρ (.tmp 191) = undef := r191
                          clear r191
                          have e187 : ρ (.tmp 187) = undef := r187
                          clear r187
                          exact ⟨187, rfl, .inr (.inr ⟨e187, rfl⟩)⟩
                        case s27 =>
                          intro ρ W hb hc hf hr
                          obtain ⟨r190, r192, r187, -⟩ := hr
                          have e190 : ρ (.tmp 190) = undef := r190
                          clear r190
                          have e192 : ρ (.tmp 192) = undef := r192
                          clear r192
                          have e187 : ρ (.tmp 187) = undef := r187
                          clear r187
                          exact ⟨187, rfl, .inr (.inr ⟨e187, rfl⟩)⟩
                        case s28 =>
                          intro ρ W hb hc hf hr
                          obtain ⟨r187, r193, r176, -⟩ := hr
                          have e187 : ρ (.tmp 187) = undef := r187
                          clear r187
                          have e193 : ρ (.tmp 193) = undef := r193
                          clear r193
                          have e176 : ρ (.tmp 176) = .bool false := r176
                          clear r176
                          exact ⟨176, rfl, .inr (.inl ⟨e176, rfl⟩)⟩
                        case s29 =>
                          intro ρ W hb hc hf hr
                          obtain ⟨r176, r194, -⟩ := hr
                          have e176 : ρ (.tmp 176) = .bool false := r176
                          clear r176
                          have e194 : ρ (.tmp 194) = undef := r194
                          clear r194
                          refine under_none rfl ?_
                          simp [execOp, e176, hc, go_sem, softUpon, Fact.is, Below.refl]
                        case fin =>
                          intro a w1 hb hd hsz hk
                          have ea := act_puts hd hsz rfl hk
                          have k166 : a.tmps.getD 166 undef = .slice (some aY) 64 cap8 := hk 166
                          have k167 : a.tmps.getD 167 undef = .int .i64 (j : Int) := hk 167
                          have k168 : a.tmps.getD 168 undef = .pointer (some (Addr.add aY j)) := hk 168
                          have k169 : a.tmps.getD 169 undef = .int .u8 (z.toNat : Int) := hk 169
                          have k170 : a.tmps.getD 170 undef = .int .i64 (i : Int) := hk 170
                          have k171 : a.tmps.getD 171 undef = .pointer (some ⟨qs, i, none⟩) := hk 171
                          have k172 : a.tmps.getD 172 undef = .string (str X) := hk 172
                          have k173 : a.tmps.getD 173 undef = .int .i64 (j : Int) := hk 173
                          have k174 : a.tmps.getD 174 undef = .int .u8 (z.toNat : Int) := hk 174
                          have k175 : a.tmps.getD 175 undef = .bool false := hk 175
                          have k176 : a.tmps.getD 176 undef = .bool false := hk 176
                          have k177 : a.tmps.getD 177 undef = undef := hk 177
                          have k178 : a.tmps.getD 178 undef = undef := hk 178
                          have k179 : a.tmps.getD 179 undef = undef := hk 179
                          have k180 : a.tmps.getD 180 undef = undef := hk 180
                          have k181 : a.tmps.getD 181 undef = undef := hk 181
                          have k182 : a.tmps.getD 182 undef = undef := hk 182
                          have k183 : a.tmps.getD 183 undef = undef := hk 183
                          have k184 : a.tmps.getD 184 undef = undef := hk 184
                          have k185 : a.tmps.getD 185 undef = undef := hk 185
                          have k186 : a.tmps.getD 186 undef = undef := hk 186
                          have k187 : a.tmps.getD 187 undef = undef := hk 187
                          have k188 : a.tmps.getD 188 undef = undef := hk 188
                          have k189 : a.tmps.getD 189 undef = undef := hk 189
                          have k190 : a.tmps.getD 190 undef = undef := hk 190
                          have k191 : a.tmps.getD 191 undef = undef := hk 191
                          have k192 : a.tmps.getD 192 undef = undef := hk 192
                          have k193 : a.tmps.getD 193 undef = undef := hk 193
                          have k194 : a.tmps.getD 194 undef = undef := hk 194
                          have k195 : a.tmps.getD 195 undef = .bool false := hk 195
                          clear hk hd hsz
                          simp only [List.map_cons, List.map_nil, List.foldl_cons, List.foldl_nil, k166, k167, k168, k169, k170, k171, k172, k173, k174, k175, k176, k177, k178, k179, k180, k181, k182, k183, k184, k185, k186, k187, k188, k189, k190, k191, k192, k193, k194, k195] at ea
                          clear k166 k167 k168 k169 k170 k171 k172 k173 k174 k175 k176 k177 k178 k179 k180 k181 k182 k183 k184 k185 k186 k187 k188 k189 k190 k191 k192 k193 k194 k195
                          simp only [Act.put, List.setIfInBounds_toArray, List.set_cons_succ, List.set_cons_zero] at ea
                          subst ea
                          have dV := hbd.trans (hb.mono (by simp))
                          have HW1 := Lib.hid (HB4.out.trans (dV.mono HB4.out.size))
                          clear hb dV
                          go_wp2
                          go_roundw
                          case rel => exact ⟨j + 1, by go_num, by omega, HW1.out⟩
                          case measure => simp [RowKit.intOf]; omega
                      · obtain rfl : j = 64 := by omega
                        go_wp2
                        go_roundw
                        case rel => exact ⟨i + 1, by go_num, by omega, HP.out.below HB4.out, stay HBX.out HB4.out, HRV.out.below HB4.out, HLL.out.below HB4.out, HB.out.trans (HB4.out.mono (by omega))⟩
                        case measure => simp [RowKit.intOf]; omega
                · obtain rfl : i = 8 := by omega
                  go_wp2
                  go_returns
                  exact ⟨rfl, HB.out⟩


set_option maxRecDepth 100000 in
theorem lifted (os : Os) (started : os.Started) (H : Type) (enc : TypeId × Value → H) :
    ReturnsInHanded {} Try.checked os 5 .any (Rows.devPlaceSpec.pre6 enc Try.prog Try.f5 Rows.devPlaceRow.domain false) (Rows.devPlaceSpec.post enc Try.prog Try.f5 false true false false) := by
  refine returnsInHanded_of_change (C := Try.checked) own started (by kernel_rfl) Try.func5
    (ChangeSpec.witness6 (enc := enc) (C := Try.checked) false ⟨#[], #[.slice none 0 0, .int .u8 0, .agg #[.int .i64 0, .int .i64 0, .int .u32 0]], []⟩ 8 (by kernel_rfl) (by kernel_rfl) (by kernel_rfl) (by kernel_rfl)) ?_
  intro W base args ds gs before hval0 hW hcnd _
  have hval : ∀ (j : Nat) t v, Try.f5.params[j]? = some t → args[j]? = some v → Value.okWide Try.prog W .any base t v := hval0
  have hfin := fun W' => law_post (enc := enc) (P := Try.prog) (f := Try.f5) (s := Rows.devPlaceSpec) (tb := 4) (W := W) (W' := W') (args := args) (ds := ds) (gs := gs) (before := before) laidOut rfl (by kernel_rfl) Try.underlying4 (by kernel_rfl) (fun xs h => by rw [Try.params5] at h; match xs, h with | [_, _, _], _ => rfl) hW
  have hlt : ∀ x ∈ before, x.block < W.heap.size := fun x hx => hW.lt x hx
  obtain ⟨p, q, hA0, hV, rfl, hfz, hnd⟩ := hW
  have hA : DataW.TrodAll enc Try.prog W 0 (fun _ => true) true Try.f5.params.toList args.toList ds p := hA0
  rw [Try.params5] at hA hval
  obtain ⟨v0, vs0, d0, ds0, p0, q0, hargs, rfl, rfl, h0, r0⟩ := trodAll_cons hA
  obtain ⟨v1, vs1, d1, ds1, p1, q1, rfl, rfl, rfl, h1, r1⟩ := trodAll_cons r0
  obtain ⟨v2, vs2, d2, ds2, p2, q2, rfl, rfl, rfl, h2, r2⟩ := trodAll_cons r1
  obtain ⟨rfl, rfl, rfl⟩ := trodAll_nil r2
  obtain rfl : args = #[v0, v1, v2] := by cases args; simp_all
  obtain ⟨A0, cap0, l0, rfl, hl0, hm0, hB0, hQ0⟩ := open_oqs (hval 0 22 v0 rfl rfl) h0 (fun x hx => hlt x (by simp [hx]))
  obtain ⟨a1, rfl, rfl, rfl, w1⟩ := open_int Try.underlying5 (hval 1 5 v1 rfl rfl) h1
  obtain ⟨x2, rfl, hb2, ht2, hu2⟩ := open_hurt (hval 2 51 v2 rfl rfl) h2
  refine (walk W A0 cap0 l0 hl0 hm0 hB0 hQ0 a1 (bounds_u8 w1) x2 hb2 ht2 hu2).mono fun e W' ⟨he, hg⟩ => ?_
  subst he
  exact ⟨_, rfl, hfin W' hg⟩

theorem proved : Rows.DevPlaceSaid :=
  OpenClaim.holds_of_wide 5 Try.f5 rfl rfl rfl rfl rfl rfl rfl ⟨rfl, rfl, rfl, rfl, rfl⟩ rfl rfl rfl rfl rfl (by kernel_rfl) Try.func5 (by kernel_rfl)
    (of_decide_eq_true (by kernel_rfl)) (by unfold Func.isWrapper; first | (rw [if_pos (by decide +kernel)]; kernel_rfl) | (rw [if_neg (by decide +kernel)]; exact ⟨rfl, rfl⟩))
    (fun os started H enc _ => lifted os started H enc)
#print axioms proved
end Go.Proofs.Ytldecmodhppjpaa.devPlace
