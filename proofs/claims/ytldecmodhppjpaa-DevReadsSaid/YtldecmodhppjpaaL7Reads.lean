/-
  Reads change nothing; what is read is one's own; what is handed in is not kept: the law DevReads returns true at any input, and leaves what it was given as it was. Nothing is assumed.
-/
import Derived.Test.YtldecmodhppjpaaLw7

namespace Go.Proofs.Ytldecmodhppjpaa.devReads
open Go.ChangeShapes Go.WideShapes Go.ChangeAt Go.RowKit
set_option maxRecDepth 100000

set_option maxHeartbeats 8000000 in
theorem walk (w : World) (A : Option Addr) (cap : Nat) (l : List Oq) (hl : l.length ≤ cap) (hm : cap ≤ maxLen) (hA : Lies w A (flatQ l)) (_hQ : ∀ u ∈ l, OqIn w u) (t : Int) (ht : 0 ≤ t ∧ t ≤ 255) (B : Option Addr) (capb : Nat) (b : List UInt8) (hlb : b.length ≤ capb) (_hmb : capb ≤ maxLen) (hB : Lies w B (cells b)) :
    Calls Try.prog 7 #[.slice A l.length cap, .int .u8 t, .slice B b.length capb] w fun e w' => e = .returned (.bool true) ∧ Below w.heap.size w w' := by
  obtain ⟨at_, rfl⟩ := Int.eq_ofNat_of_zero_le ht.1
  have ht2 : at_ ≤ 255 := by omega
  obtain ⟨n, hn⟩ : ∃ n, l.length = n := ⟨_, rfl⟩
  obtain ⟨bn, hbn⟩ : ∃ bn, b.length = bn := ⟨_, rfl⟩
  have HN := Lib.hid hn
  have HBN := Lib.hid hbn
  have HA := Lib.hid hA
  have HBB := Lib.hid hB
  rw [hn] at hl
  rw [hbn] at hlb
  rw [hn, hbn]
  unfold maxLen at hm
  clear ht hn hbn hA hB
  go_enter Try.func7, Try.ntmps7
  go_wp2_with fail
  refine (head_any w).mono ?_
  rintro e w0 ⟨rfl, hB0⟩
  go_wp2_with fail
  refine Calls.mono (show Calls Try.prog 11 #[.int .i64 8] w0 _ from newDev_yes 8 w0 (by omega) (by omega)) ?_
  rintro e w1 ⟨rfl, hd1, hB1⟩
  obtain ⟨g, hg⟩ : ∃ g, w0.heap.size = g := ⟨_, rfl⟩
  have z0 := hB0.size
  rw [hg] at hd1 hB1 z0 ⊢
  have z1 := hd1.lt
  have HB1 := Lib.hid (hB0.trans (hB1.mono z0))
  have HD1 := Lib.hid hd1
  clear hd1 hB1 hB0 hg
  have HG := Lib.hid (great_any A n cap l w1 HN.out (by unfold maxLen; omega) (HA.out.below HB1.out))
  go_wp2_with fail
  refine HG.out.mono ?_
  rintro e w2 ⟨r, rfl, hr, hB2⟩
  have z2 := hB2.size
  have HD2 := Lib.hid (HD1.out.below hB2)
  have HB2 := Lib.hid (HB1.out.trans (hB2.mono (by omega)))
  have HR := Lib.hid hr
  clear hB2 hr
  rcases r with _ | _
  case true =>
    go_wp2
    go_returns
    exact ⟨rfl, HB2.out⟩
  have hn2 : n ≤ 200 := HR.out rfl
  by_cases hb64 : bn = 64
  case neg =>
    have t1 : ((bn : Int) != 64) = true := by simp; omega
    go_wp2
    go_returns
    exact ⟨rfl, HB2.out⟩
  subst hb64
  go_wp2
  go_loopw [9] (fun s wr => ∃ k : Nat, s = .int .i64 (k : Int) ∧ k ≤ n ∧ IsDev wr g (runW l k) ∧ Below w.heap.size w wr ∧ w2.heap.size ≤ wr.heap.size) (fun s _ => n - (RowKit.intOf s).toNat)
  case atStart => exact ⟨0, rfl, Nat.zero_le _, HD2.out, HB2.out, Nat.le_refl _⟩
  case round =>
    obtain ⟨k, rfl, hk, hd, hB, hz⟩ := hrel
    have HD := Lib.hid hd
    have HB := Lib.hid hB
    have HF := Lib.hid (runW_free l k (by rw [HN.out]; exact hk))
    clear hd hB
    by_cases hkn : k < n
    · have hkl : k < l.length := by rw [HN.out]; exact hkn
      obtain ⟨ad, rfl, hadb, hc⟩ := at_oq (HA.out.below HB.out) k hkl
      have HRS := Lib.hid (runW_succ l k hkl)
      obtain ⟨x, hx⟩ : ∃ x, l[k] = x := ⟨_, rfl⟩
      rw [hx] at hc HRS
      obtain ⟨xw, xa, xc, xbA, xbc, xb, xkA, xkc, xk, xhA, xhc, xh⟩ := x
      simp only at hc
      have hcw := (hc wr (Below.refl _ _)).1
      have HXA := Lib.hid (fun (W : World) (hW : Below wr.heap.size wr W) => run_loadI W _ _ (hc W hW).2.1)
      have HXC := Lib.hid (fun (W : World) (hW : Below wr.heap.size wr W) => run_loadU8 W _ _ (hc W hW).2.2.1)
      clear hc hx
      by_cases h4 : xw = 4
      · subst h4
        go_wp2_with fail
        refine (flush_any wr g (runW l k) (by have := HF.out.done; omega) HD.out).mono ?_
        rintro e w3 ⟨rfl, hd3, k3⟩
        have HD3 := Lib.hid hd3
        have z3 := k3.size
        have HB3 := Lib.hid (k3.belowB HB.out (by omega) (by simp; omega))
        clear hd3 k3
        go_wp2
        go_roundw
        case rel =>
          refine ⟨k + 1, by go_num, by omega, ?_, HB3.out, by omega⟩
          rw [HRS.out]
          unfold stepW
          rw [if_pos rfl]
          exact HD3.out
        case measure => simp [RowKit.intOf]; omega
      · have t4 : (xw == 4) = false := by simpa using h4
        have hbd : Below wr.heap.size wr wr.drew := (Below.refl _ _).drew
        go_wp2
        refine wp_late (by kernel_rfl) 137 [(52, [8]), (53, [0]), (54, [9]), (55, [53, 54]), (56, [55]), (57, [56]), (58, [57]), (59, [0]), (60, [9]), (61, [59, 60]), (62, [61]), (63, [62]), (64, [63]), (1013, [52, 58, 64])]
          [Fact.is (.pointer (some ⟨g + 2, 0, none⟩)), Fact.is (.slice (some ad) n cap), Fact.is (.int .i64 (k : Int)), Fact.is (.pointer (some (Addr.add ad (k * 6)))), Fact.is (.pointer (some ⟨((Addr.add ad (k * 6))).block, ((Addr.add ad (k * 6))).off + 1, none⟩)), Fact.is (.int .i64 xa), Fact.is (.int .i64 (xa % 8)), Fact.is (.slice (some ad) n cap), Fact.is (.int .i64 (k : Int)), Fact.is (.pointer (some (Addr.add ad (k * 6)))), Fact.is (.pointer (some ⟨((Addr.add ad (k * 6))).block, ((Addr.add ad (k * 6))).off + 2, none⟩)), Fact.is (.int .u8 (xc.toNat : Int)), Fact.fl xc, default]
          [1, 1, 1, 1, 1, 1, 1, 1, 1, 1, 1, 1, 1, 2] [13] [] [52, 53, 54, 55, 56, 57, 58, 59, 60, 61, 62, 63, 64, 65] ((fun _ _ w' => IsDev w' g ((runW l k).write (xa % 8) (Plain.full xc)).1 ∧ Kept [g + 1, g + 2] wr w'))
          (by kernel_rfl) (by kernel_rfl) rfl rfl ⟨?s0, ?s1, ?s2, ?s3, ?s4, ?s5, ?s6, ?s7, ?s8, ?s9, ?s10, ?s11, ?s12, trivial⟩ ?late ?fin
        case s0 =>
          intro ρ W hb hc hf hr
          obtain ⟨r8, -⟩ := hr
          have e8 : ρ (.tmp 8) = .pointer (some ⟨g + 2, 0, none⟩) := r8
          clear r8
          refine under_none rfl ?_
          exact ⟨e8, Below.refl _ _⟩
        case s1 =>
          intro ρ W hb hc hf hr
          obtain ⟨r0, -⟩ := hr
          have e0 : ρ (.tmp 0) = .slice (some ad) n cap := r0
          clear r0
          refine under_none rfl ?_
          exact ⟨e0, Below.refl _ _⟩
        case s2 =>
          intro ρ W hb hc hf hr
          obtain ⟨r9, -⟩ := hr
          have e9 : ρ (.tmp 9) = .int .i64 (k : Int) := r9
          clear r9
          refine under_none rfl ?_
          exact ⟨e9, Below.refl _ _⟩
        case s3 =>
          intro ρ W hb hc hf hr
          obtain ⟨r53, r54, -⟩ := hr
          have e53 : ρ (.tmp 53) = .slice (some ad) n cap := r53
          clear r53
          have e54 : ρ (.tmp 54) = .int .i64 (k : Int) := r54
          clear r54
          refine under_none rfl ?_
          exact soft_index6 e53 e54 (by omega) rfl
        case s4 =>
          intro ρ W hb hc hf hr
          obtain ⟨r55, -⟩ := hr
          have e55 : ρ (.tmp 55) = .pointer (some (Addr.add ad (k * 6))) := r55
          clear r55
          refine under_none rfl ?_
          exact soft_field e55 rfl (fun W => by go_simp)
        case s5 =>
          intro ρ W hb hc hf hr
          obtain ⟨r56, -⟩ := hr
          have e56 : ρ (.tmp 56) = .pointer (some ⟨((Addr.add ad (k * 6))).block, ((Addr.add ad (k * 6))).off + 1, none⟩) := r56
          clear r56
          refine under_none rfl ?_
          exact soft_load e56 (HXA.out W (hbd.trans (hb.mono (by simp)))) rfl
        case s6 =>
          intro ρ W hb hc hf hr
          obtain ⟨r57, -⟩ := hr
          have e57 : ρ (.tmp 57) = .int .i64 xa := r57
          clear r57
          refine under_none rfl ?_
          exact soft_bin e57 (hc _) rfl rfl (and7 W xa)
        case s7 =>
          intro ρ W hb hc hf hr
          obtain ⟨r0, -⟩ := hr
          have e0 : ρ (.tmp 0) = .slice (some ad) n cap := r0
          clear r0
          refine under_none rfl ?_
          exact ⟨e0, Below.refl _ _⟩
        case s8 =>
          intro ρ W hb hc hf hr
          obtain ⟨r9, -⟩ := hr
          have e9 : ρ (.tmp 9) = .int .i64 (k : Int) := r9
          clear r9
          refine under_none rfl ?_
          exact ⟨e9, Below.refl _ _⟩
        case s9 =>
          intro ρ W hb hc hf hr
          obtain ⟨r59, r60, -⟩ := hr
          have e59 : ρ (.tmp 59) = .slice (some ad) n cap := r59
          clear r59
          have e60 : ρ (.tmp 60) = .int .i64 (k : Int) := r60
          clear r60
          refine under_none rfl ?_
          exact soft_index6 e59 e60 (by omega) rfl
        case s10 =>
          intro ρ W hb hc hf hr
          obtain ⟨r61, -⟩ := hr
          have e61 : ρ (.tmp 61) = .pointer (some (Addr.add ad (k * 6))) := r61
          clear r61
          refine under_none rfl ?_
          exact soft_field e61 rfl (fun W => by go_simp)
        case s11 =>
          intro ρ W hb hc hf hr
          obtain ⟨r62, -⟩ := hr
          have e62 : ρ (.tmp 62) = .pointer (some ⟨((Addr.add ad (k * 6))).block, ((Addr.add ad (k * 6))).off + 2, none⟩) := r62
          clear r62
          refine under_none rfl ?_
          exact soft_load e62 (HXC.out W (hbd.trans (hb.mono (by simp)))) rfl
        case s12 =>
          intro ρ W hb hc hf hr
          obtain ⟨r63, -⟩ := hr
          have e63 : ρ (.tmp 63) = .int .u8 (xc.toNat : Int) := r63
          clear r63
          refine under_none rfl ?_
          exact soft_fl hf e63 rfl
        case late =>
          intro p j o hj ho a W hsz h0 h1 hfr hou
          match p, hj with
          | 0, hj =>
            obtain rfl : 13 = j := Option.some.inj hj
            obtain rfl := Option.some.inj ho
            clear hj ho
            obtain ⟨hb, hhard⟩ := h0 rfl
            have e52 : a.eval (.tmp 52) = .pointer (some ⟨g + 2, 0, none⟩) := hhard 52 0 rfl rfl
            have e58 : a.eval (.tmp 58) = .int .i64 (xa % 8) := hhard 58 6 rfl rfl
            have r64 : (Fact.fl xc).φ (a.tmps.getD 64 undef) W := hhard 64 12 rfl rfl
            clear h0 h1 hhard hfr hou
            refine late_write (x := .tmp 52) (y := .tmp 58) (z := .tmp 64) rfl e52 e58 r64 (hbd.trans (hb.mono (by simp))) (by have := HF.out.done; omega) HD.out fun w' h1 h2 => ⟨_, rfl, h1, h2⟩
          | q + 1, hj => cases hj
        case fin =>
          intro a w3 ha hP
          obtain ⟨h1, h2⟩ := hP
          have HD3 := Lib.hid h1
          have z3 := h2.size
          have HB3 := Lib.hid (h2.belowB HB.out (by omega) (by simp; omega))
          clear h1 h2
          simp only [List.foldl_cons, List.foldl_nil] at ha
          generalize a.tmps.getD 52 undef = v52 at ha
          generalize a.tmps.getD 53 undef = v53 at ha
          generalize a.tmps.getD 54 undef = v54 at ha
          generalize a.tmps.getD 55 undef = v55 at ha
          generalize a.tmps.getD 56 undef = v56 at ha
          generalize a.tmps.getD 57 undef = v57 at ha
          generalize a.tmps.getD 58 undef = v58 at ha
          generalize a.tmps.getD 59 undef = v59 at ha
          generalize a.tmps.getD 60 undef = v60 at ha
          generalize a.tmps.getD 61 undef = v61 at ha
          generalize a.tmps.getD 62 undef = v62 at ha
          generalize a.tmps.getD 63 undef = v63 at ha
          generalize a.tmps.getD 64 undef = v64 at ha
          generalize a.tmps.getD 65 undef = v65 at ha
          simp only [Act.put, List.setIfInBounds_toArray, List.set_cons_succ, List.set_cons_zero] at ha
          subst ha
          go_wp2
          go_roundw
          case rel =>
            refine ⟨k + 1, by go_num, by omega, ?_, HB3.out, by omega⟩
            rw [HRS.out]
            unfold stepW
            rw [if_neg h4]
            exact HD3.out
          case measure => simp [RowKit.intOf]; omega
    · obtain rfl : n = k := by omega
      obtain ⟨D, hD⟩ : ∃ D, runW l n = D := ⟨_, rfl⟩
      rw [hD] at HD HF
      obtain ⟨q, hq, hq8⟩ := Plain.mod8 (at_ : Int)
      obtain ⟨S, hS⟩ : ∃ S, str b = S := ⟨_, rfl⟩
      have HS := Lib.hid hS
      have LB := Lib.hid (HBB.out.below HB.out)
      have hcv := conv_lies (n := 64) (c := capb) LB.out HBN.out
      rw [hS] at hcv
      have HW1 := Lib.hid (show (D.write (q : Int) b).2 = 0 by rw [HF.out.free.write q b (by rw [HF.out.n]; exact hq8) HBN.out])
      have HFW := Lib.hid (HF.out.free.write_free q b (by rw [HF.out.n]; exact hq8) HBN.out)
      have HSW := Lib.hid ((Plain.sec_write HF.out.free q b (by rw [HF.out.n]; exact hq8) HBN.out q).trans (if_pos rfl))
      obtain ⟨i0, hi, hz0, hz1, hz2⟩ := info_parts infoU8
      have HI := Lib.hid (And.intro hi (And.intro hz0 (And.intro hz1 hz2)))
      have hown0 : (wr.alloc (.cells #[] 5)).ownsRow wr.heap.size 5 1 (.slice (some ⟨wr.heap.size, 0, none⟩) 0 0) 0 [] :=
        ⟨by simp, .inr ⟨wr.heap.size, 0, #[], rfl, Nat.le_refl _, heap_alloc_new wr _, Nat.le_refl _, Nat.zero_le _, by simp, by simp⟩⟩
      have HO0 := Lib.hid hown0
      have HLB0 := Lib.hid (LB.out.below (w' := wr.alloc (.cells #[] 5)) ((Below.refl _ _).alloc (Nat.le_refl _) _))
      clear hD hS hown0 hi hz0 hz1 hz2
      go_wp2_with (at_builtin; refine wpList_app rfl _ _ 29 rfl wr.heap.size 5 i0 (.int .u8 0) Try.underlying29 HI.out.1 HI.out.2.1 HI.out.2.2.1 HI.out.2.2.2 rfl (.slice (some ⟨wr.heap.size, 0, none⟩) 0 0) 0 [] rfl HO0.out B 64 capb (cells b) rfl (by rw [cells_length, HBN.out]) HLB0.out (cells_one b) (by omega) (by simp) ?_; intro vx w3 hox hgx hnx)
      have hB3 : Below wr.heap.size wr w3 := ((Below.refl _ _).alloc (Nat.le_refl _) _).grown hgx (by simp) (fun j e => by simp [Value.ownBlock] at e; omega)
      rcases hox.2 with ⟨-, h0⟩ | ⟨gx, capx, cur, rfl, hgx0, hgx1, hcx1, hcx2, hcx3, hcx4⟩
      · simp at h0
      have z3 := hB3.size
      have HB3 := Lib.hid (HB.out.trans (hB3.mono (by omega)))
      have HD3 := Lib.hid (HD.out.below hB3)
      have hbx : Blk w3 gx cur 5 := hgx1
      have HBX := Lib.hid hbx
      have hlx : Lies w3 (some ⟨gx, 0, none⟩) (cells b) := by
        have := Lies.own hox
        rwa [List.nil_append] at this
      have HLX := Lib.hid hlx
      have hin : ∀ j, j < 64 → ∃ z : Int, cur[j]? = some (.int .u8 z) := fun j hj => by
        have hjl : j < (cells b).length := by rw [cells_length, HBN.out]; exact hj
        have h1 : (cur.toList.take 64)[j]? = (cells b)[j]? := by
          have := hcx4
          rw [List.nil_append] at this
          simpa using congrArg (fun l => l[j]?) this
        rw [List.getElem?_take_of_lt hj, Array.getElem?_toList] at h1
        rw [h1]
        simp only [cells, List.getElem?_map]
        rw [List.getElem?_eq_getElem (by rw [HBN.out]; exact hj)]
        exact ⟨_, rfl⟩
      have HIN := Lib.hid hin
      have hsx : 64 ≤ cur.size := by rw [hcx3]; omega
      have HWR := Lib.hid (write_any w3 g D (q : Int) (some ⟨gx, 0, none⟩) capx 64 b HBN.out hlx (.inr fun ad e hm => by injection e with e; subst e; simp at hm; omega) (by have := HF.out.done; omega) HD3.out)
      rw [HW1.out] at HWR
      rw [Nat.zero_add]
      clear hox hgx hnx hB3 hgx1 hcx3 hcx4 hbx hlx hin
      go_wp2_with fail
      refine HWR.out.mono ?_
      rintro e w4 ⟨rfl, hd4, k4⟩
      obtain ⟨D1, hD1⟩ : ∃ D1, (D.write (q : Int) b).1 = D1 := ⟨_, rfl⟩
      rw [hD1] at hd4 HFW HSW
      have HD4 := Lib.hid hd4
      have z4 := k4.size
      have HB4 := Lib.hid (k4.belowB HB3.out (by omega) (by simp; omega))
      have HBX4 := Lib.hid (k4.blk HBX.out (by simp; omega))
      have HDO := Lib.hid (done_any w4 g D1 hd4)
      have HN1 := Lib.hid (show D1.n = 8 by rw [← hD1, Plain.Dv.write_n]; exact HF.out.n)
      have HRD := Lib.hid (show D1.read (q : Int) = (b, 0) by
        rw [HFW.out.read q (by rw [HN1.out]; exact hq8), HSW.out])
      clear hd4 k4 hD1
      obtain ⟨dn, hdn⟩ : ∃ dn, D1.done = dn := ⟨_, rfl⟩
      rw [hdn] at HDO
      have HDN := Lib.hid hdn
      clear hdn
      go_wp2_with fail
      refine HDO.out.mono ?_
      rintro e w' ⟨rfl, rfl⟩
      go_wp2
      go_loopw [14] (fun s wr => ∃ (j : Nat) (cs : Array Value), s = .int .i64 (j : Int) ∧ j ≤ 64 ∧ Blk wr gx cs 5 ∧ 64 ≤ cs.size ∧ (∀ i, i < 64 → ∃ z : Int, cs[i]? = some (.int .u8 z)) ∧ Kept [gx] w4 wr) (fun s _ => 64 - (RowKit.intOf s).toNat)
      case atStart => exact ⟨0, cur, rfl, by omega, HBX4.out, hsx, HIN.out, Kept.refl _ _⟩
      case round =>
        obtain ⟨j, cs, rfl, hj, hbk, hsz, hin2, hk4⟩ := hrel
        by_cases hj64 : j < 64
        · obtain ⟨z, hz2⟩ := hin2 j hj64
          have hcell : wr.cell? ⟨gx, j, none⟩ = some (.int .u8 z) := by rw [hbk.cell]; exact hz2
          have hfz := hbk.frozen j
          have hj0 : (0 : Int) ≤ (j : Int) := by omega
          have hj1 : (j : Int) < 64 := by omega
          have HBK := Lib.hid hbk
          have HI2 := Lib.hid hin2
          have HK4 := Lib.hid hk4
          clear hbk hin2 hk4 hz2
          go_wp2
          go_roundw
          case rel =>
            refine ⟨j + 1, _, by go_num, by omega, HBK.out.set j _, by simpa using hsz, fun i hi => ?_, HK4.out.setCell (by simp) _⟩
            by_cases e : i = j
            · subst e
              exact ⟨_, by simp only [Array.getElem?_setIfInBounds_self_of_lt (show i < cs.size by omega)]; rfl⟩
            · rw [Array.getElem?_setIfInBounds_ne (Ne.symm e)]; exact HI2.out i hi
          case measure => simp [RowKit.intOf]; omega
        · obtain rfl : j = 64 := by omega
          have HK4 := Lib.hid hk4
          have z5 := hk4.size
          have HD5 := Lib.hid (HD4.out.keep hk4 (by simp; omega) (by simp; omega) (by simp; omega))
          have HB5 := Lib.hid (hk4.new (S' := []) (Kept.refl _ _) (by simp) |> fun h => h.belowB HB4.out (by omega) (by simp; omega))
          clear hk4 hbk hin2
          have HR5 := Lib.hid (read_any wr g D1 (q : Int) HD5.out)
          rw [HRD.out] at HR5
          go_wp2_with fail
          refine HR5.out.mono ?_
          intro e w6 hg6
          obtain ⟨A6, cap6, rfl, hc6, hm6, hA6, hB6⟩ := hg6
          obtain ⟨b6, t6, cs6, rfl, hb60, hbk6, htk6⟩ := hA6 (by intro e; have := HBN.out; rw [e] at this; simp at this)
          rw [HBN.out] at hc6 htk6 ⊢
          have z6 := hB6.size
          have HB6 := Lib.hid (HB5.out.trans (hB6.mono (by omega)))
          have HD6 := Lib.hid (HD5.out.below hB6)
          have hl6 := hbk6.lies.take 64
          rw [htk6] at hl6
          have hcv6 := conv_lies (n := 64) (c := cap6) hl6 HBN.out
          rw [HS.out] at hcv6
          have hbq := str_beq S
          have hs6 : 64 ≤ cs6.size := by
            have := congrArg List.length htk6
            rw [List.length_take, cells_length, HBN.out, Array.length_toList] at this
            omega
          have hin6 : ∀ j, j < 64 → ∃ z : Int, cs6[j]? = some (.int .u8 z) := fun j hj => by
            have h1 : (cs6.toList.take 64)[j]? = (cells b)[j]? := by rw [htk6]
            rw [List.getElem?_take_of_lt hj, Array.getElem?_toList] at h1
            rw [h1]
            simp only [cells, List.getElem?_map]
            rw [List.getElem?_eq_getElem (by rw [HBN.out]; exact hj)]
            exact ⟨_, rfl⟩
          have HIN6 := Lib.hid hin6
          have HBX6 := Lib.hid hbk6
          unfold maxLen at hm6
          clear hB6 hbk6 htk6 hl6 hin6 hA6
          generalize wr = wo at *
          go_wp2
          go_loopw [17] (fun s wr => ∃ (j : Nat) (cs : Array Value), s = .int .i64 (j : Int) ∧ j ≤ 64 ∧ Blk wr b6 cs t6 ∧ 64 ≤ cs.size ∧ (∀ i, i < 64 → ∃ z : Int, cs[i]? = some (.int .u8 z)) ∧ Kept [b6] w6 wr) (fun s _ => 64 - (RowKit.intOf s).toNat)
          case atStart => exact ⟨0, cs6, rfl, by omega, HBX6.out, hs6, HIN6.out, Kept.refl _ _⟩
          case round =>
            obtain ⟨j, cs, rfl, hj, hbk, hsz, hin2, hk4⟩ := hrel
            by_cases hj64 : j < 64
            · obtain ⟨z, hz2⟩ := hin2 j hj64
              have hcell : wr.cell? ⟨b6, j, none⟩ = some (.int .u8 z) := by rw [hbk.cell]; exact hz2
              have hfz := hbk.frozen j
              have hj0 : (0 : Int) ≤ (j : Int) := by omega
              have hj1 : (j : Int) < 64 := by omega
              have HBK := Lib.hid hbk
              have HI2 := Lib.hid hin2
              have HK4 := Lib.hid hk4
              clear hbk hin2 hk4 hz2
              go_wp2
              go_roundw
              case rel =>
                refine ⟨j + 1, _, by go_num, by omega, HBK.out.set j _, by simpa using hsz, fun i hi => ?_, HK4.out.setCell (by simp) _⟩
                by_cases e : i = j
                · subst e
                  exact ⟨_, by simp only [Array.getElem?_setIfInBounds_self_of_lt (show i < cs.size by omega)]; rfl⟩
                · rw [Array.getElem?_setIfInBounds_ne (Ne.symm e)]; exact HI2.out i hi
              case measure => simp [RowKit.intOf]; omega
            · obtain rfl : j = 64 := by omega
              have HK7 := Lib.hid hk4
              have z7 := hk4.size
              have HD7 := Lib.hid (HD6.out.keep hk4 (by simp; omega) (by simp; omega) (by simp; omega))
              have HB7 := Lib.hid (hk4.belowB HB6.out (by omega) (by simp; omega))
              clear hk4 hbk hin2
              have HR7 := Lib.hid (read_any wr g D1 (q : Int) HD7.out)
              rw [HRD.out] at HR7
              go_wp2_with fail
              refine HR7.out.mono ?_
              intro e w8 hg8
              obtain ⟨A8, cap8, rfl, l8, hB8⟩ := hg8.text
              rw [HBN.out]
              have z8 := hB8.size
              have HB8 := Lib.hid (HB7.out.trans (hB8.mono (by omega)))
              have HDO8 := Lib.hid (show Calls Try.prog 29 #[.pointer (some ⟨g + 2, 0, none⟩)] w8 fun e w' => e = .returned (.int .i64 (dn : Int)) ∧ w8 = w' from by
                have := done_any w8 g D1 (HD7.out.below hB8)
                rwa [HDN.out] at this)
              have hcv8 := conv_lies (n := 64) (c := cap8) l8 HBN.out
              rw [HS.out] at hcv8
              clear hg8 l8 hB8
              go_wp2_with fail
              refine HDO8.out.mono ?_
              rintro e w' ⟨rfl, rfl⟩
              go_wp2
              go_returns
              exact ⟨rfl, HB8.out⟩


set_option maxRecDepth 100000 in
theorem lifted (os : Os) (started : os.Started) (H : Type) (enc : TypeId × Value → H) :
    ReturnsInHanded {} Try.checked os 7 .any (Rows.devReadsSpec.pre6 enc Try.prog Try.f7 Rows.devReadsRow.domain false) (Rows.devReadsSpec.post enc Try.prog Try.f7 false true false false) := by
  refine returnsInHanded_of_change (C := Try.checked) own started (by kernel_rfl) Try.func7
    (ChangeSpec.witness6 (enc := enc) (C := Try.checked) false ⟨#[], #[.slice none 0 0, .int .u8 0, .slice none 0 0], []⟩ 8 (by kernel_rfl) (by kernel_rfl) (by kernel_rfl) (by kernel_rfl)) ?_
  intro W base args ds gs before hval0 hW hcnd _
  have hval : ∀ (j : Nat) t v, Try.f7.params[j]? = some t → args[j]? = some v → Value.okWide Try.prog W .any base t v := hval0
  have hfin := fun W' => law_post (enc := enc) (P := Try.prog) (f := Try.f7) (s := Rows.devReadsSpec) (tb := 4) (W := W) (W' := W') (args := args) (ds := ds) (gs := gs) (before := before) laidOut rfl (by kernel_rfl) Try.underlying4 (by kernel_rfl) (fun xs h => by rw [Try.params7] at h; match xs, h with | [_, _, _], _ => rfl) hW
  have hlt : ∀ x ∈ before, x.block < W.heap.size := fun x hx => hW.lt x hx
  obtain ⟨p, q, hA0, hV, rfl, hfz, hnd⟩ := hW
  have hA : DataW.TrodAll enc Try.prog W 0 (fun _ => true) true Try.f7.params.toList args.toList ds p := hA0
  rw [Try.params7] at hA hval
  obtain ⟨v0, vs0, d0, ds0, p0, q0, hargs, rfl, rfl, h0, r0⟩ := trodAll_cons hA
  obtain ⟨v1, vs1, d1, ds1, p1, q1, rfl, rfl, rfl, h1, r1⟩ := trodAll_cons r0
  obtain ⟨v2, vs2, d2, ds2, p2, q2, rfl, rfl, rfl, h2, r2⟩ := trodAll_cons r1
  obtain ⟨rfl, rfl, rfl⟩ := trodAll_nil r2
  obtain rfl : args = #[v0, v1, v2] := by cases args; simp_all
  obtain ⟨A0, cap0, l0, rfl, hl0, hm0, hB0, hQ0⟩ := open_oqs (hval 0 22 v0 rfl rfl) h0 (fun x hx => hlt x (by simp [hx]))
  obtain ⟨a1, rfl, rfl, rfl, w1⟩ := open_int Try.underlying5 (hval 1 5 v1 rfl rfl) h1
  obtain ⟨A2, cap2, b2, rfl, hl2, hm2, hB2⟩ := open_bytes (hval 2 29 v2 rfl rfl) h2 (fun x hx => hlt x (by simp [hx]))
  refine (walk W A0 cap0 l0 hl0 hm0 hB0 hQ0 a1 (bounds_u8 w1) A2 cap2 b2 hl2 hm2 hB2).mono fun e W' ⟨he, hg⟩ => ?_
  subst he
  exact ⟨_, rfl, hfin W' hg⟩

theorem proved : Rows.DevReadsSaid :=
  OpenClaim.holds_of_wide 7 Try.f7 rfl rfl rfl rfl rfl rfl rfl ⟨rfl, rfl, rfl, rfl, rfl⟩ rfl rfl rfl rfl rfl (by kernel_rfl) Try.func7 (by kernel_rfl)
    (of_decide_eq_true (by kernel_rfl)) (by unfold Func.isWrapper; first | (rw [if_pos (by decide +kernel)]; kernel_rfl) | (rw [if_neg (by decide +kernel)]; exact ⟨rfl, rfl⟩))
    (fun os started H enc _ => lifted os started H enc)
#print axioms proved
end Go.Proofs.Ytldecmodhppjpaa.devReads
