/-
  A Boot that keeps all, and one that keeps none: the law DevBoots returns true at any input, and leaves what it was given as it was. Nothing is assumed.
-/
import Derived.Test.YtldecmodhppjpaaLw8

namespace Go.Proofs.Ytldecmodhppjpaa.devBoots
open Go.ChangeShapes Go.WideShapes Go.ChangeAt Go.RowKit
set_option maxRecDepth 100000

theorem nobits : ∀ h ∈ ([] : List Plain.Hu), h.bits < 4294967296 := by intro h hh; simp at hh

set_option maxHeartbeats 8000000 in
theorem walk (w : World) (A : Option Addr) (cap : Nat) (l : List Oq) (hl : l.length ≤ cap) (hm : cap ≤ maxLen) (hA : Lies w A (flatQ l)) (_hQ : ∀ u ∈ l, OqIn w u) (B : Option Addr) (capm : Nat) (more : List Oq) (hlb : more.length ≤ capm) (hmb : capm ≤ maxLen) (hB : Lies w B (flatQ more)) (_hQ2 : ∀ u ∈ more, OqIn w u) :
    Calls Try.prog 8 #[.slice A l.length cap, .slice B more.length capm] w fun e w' => e = .returned (.bool true) ∧ Below w.heap.size w w' := by
  obtain ⟨n, hn⟩ : ∃ n, l.length = n := ⟨_, rfl⟩
  obtain ⟨m, hmm⟩ : ∃ m, more.length = m := ⟨_, rfl⟩
  have HN := Lib.hid hn
  have HM := Lib.hid hmm
  have HA := Lib.hid hA
  have HBB := Lib.hid hB
  rw [hn] at hl
  rw [hmm] at hlb
  rw [hn, hmm]
  unfold maxLen at hm hmb
  clear hn hmm hA hB
  go_enter Try.func8, Try.ntmps8
  go_wp2_with fail
  refine (head_any w).mono ?_
  rintro e w0 ⟨rfl, hB0⟩
  go_wp2_with fail
  refine Calls.mono (show Calls Try.prog 11 #[.int .i64 8] w0 _ from newDev_yes 8 w0 (by omega) (by omega)) ?_
  rintro e w1 ⟨rfl, hd1, hB1⟩
  obtain ⟨g1, hg⟩ : ∃ g, w0.heap.size = g := ⟨_, rfl⟩
  have z0 := hB0.size
  rw [hg] at hd1 hB1 z0 ⊢
  have z1 := hd1.lt
  have HB1 := Lib.hid (hB0.trans (hB1.mono z0))
  have HD1 := Lib.hid hd1
  clear hd1 hB1 hB0 hg
  go_wp2_with fail
  refine Calls.mono (show Calls Try.prog 11 #[.int .i64 8] w1 _ from newDev_yes 8 w1 (by omega) (by omega)) ?_
  rintro e w2 ⟨rfl, hd2, hB2⟩
  have HD1 := Lib.hid (HD1.out.below hB2)
  obtain ⟨g2, hg⟩ : ∃ g, w1.heap.size = g := ⟨_, rfl⟩
  rw [hg] at hd2 hB2 z1 ⊢
  have z2 := hd2.lt
  have HB2 := Lib.hid (HB1.out.trans (hB2.mono (by omega)))
  have HD2 := Lib.hid hd2
  clear hd2 hB2 hg HB1
  go_wp2_with fail
  refine Calls.mono (show Calls Try.prog 11 #[.int .i64 8] w2 _ from newDev_yes 8 w2 (by omega) (by omega)) ?_
  rintro e w3 ⟨rfl, hd3, hB3⟩
  have HD1 := Lib.hid (HD1.out.below hB3)
  have HD2 := Lib.hid (HD2.out.below hB3)
  obtain ⟨g3, hg⟩ : ∃ g, w2.heap.size = g := ⟨_, rfl⟩
  rw [hg] at hd3 hB3 z2 ⊢
  have z3 := hd3.lt
  have HB3 := Lib.hid (HB2.out.trans (hB3.mono (by omega)))
  have HD3 := Lib.hid hd3
  clear hd3 hB3 hg HB2
  have HG := Lib.hid (great_any A n cap l w3 HN.out (by unfold maxLen; omega) (HA.out.below HB3.out))
  go_wp2_with fail
  refine HG.out.mono ?_
  rintro e w4 ⟨r, rfl, hr, hB4⟩
  have z4 := hB4.size
  have HD1 := Lib.hid (HD1.out.below hB4)
  have HD2 := Lib.hid (HD2.out.below hB4)
  have HD3 := Lib.hid (HD3.out.below hB4)
  have HB4 := Lib.hid (HB3.out.trans (hB4.mono (by omega)))
  have HR := Lib.hid hr
  clear hB4 hr HG HB3
  rcases r with _ | _
  case true =>
    go_wp2
    go_returns
    exact ⟨rfl, HB4.out⟩
  have hn2 : n ≤ 200 := HR.out rfl
  have HG := Lib.hid (great_any B m capm more w4 HM.out (by unfold maxLen; omega) (HBB.out.below HB4.out))
  go_wp2_with fail
  refine HG.out.mono ?_
  rintro e w5 ⟨r, rfl, hr, hB5⟩
  have z5 := hB5.size
  have HD1 := Lib.hid (HD1.out.below hB5)
  have HD2 := Lib.hid (HD2.out.below hB5)
  have HD3 := Lib.hid (HD3.out.below hB5)
  have HB5 := Lib.hid (HB4.out.trans (hB5.mono (by omega)))
  have HR := Lib.hid hr
  clear hB5 hr HG HB4
  rcases r with _ | _
  case true =>
    go_wp2
    go_returns
    exact ⟨rfl, HB5.out⟩
  have hm2 : m ≤ 200 := HR.out rfl
  clear HR
  go_wp2
  go_loopw [9] (fun s wr => ∃ k : Nat, s = .int .i64 (k : Int) ∧ k ≤ n ∧ IsDev wr g1 (runB id (Plain.Dv.new 8) l k) ∧ IsDev wr g2 (runB id (Plain.Dv.new 8) l k) ∧ IsDev wr g3 (runB id (Plain.Dv.new 8) l k) ∧ Below w.heap.size w wr ∧ w5.heap.size ≤ wr.heap.size) (fun s _ => n - (RowKit.intOf s).toNat)
  case atStart => exact ⟨0, rfl, Nat.zero_le _, HD1.out, HD2.out, HD3.out, HB5.out, Nat.le_refl _⟩
  case round =>
    obtain ⟨k, rfl, hk, hd1, hd2, hd3, hB, hz⟩ := hrel
    have HD1 := Lib.hid hd1
    have HD2 := Lib.hid hd2
    have HD3 := Lib.hid hd3
    have HB := Lib.hid hB
    have zr := hB.size
    have HF := Lib.hid (runB_free id _ 0 Plain.Free8.new l k (by rw [HN.out]; exact hk))
    clear hd1 hd2 hd3 hB
    by_cases hkn : k < n
    · have hkl : k < l.length := by rw [HN.out]; exact hkn
      obtain ⟨ad, rfl, hadb, hc⟩ := at_oq HA.out k hkl
      have HRS := Lib.hid (runB_succ id (Plain.Dv.new 8) l k hkl)
      obtain ⟨x, hx⟩ : ∃ x, l[k] = x := ⟨_, rfl⟩
      rw [hx] at hc HRS
      obtain ⟨xw, xa, xc, xbA, xbc, xb, xkA, xkc, xk, xhA, xhc, xh⟩ := x
      simp only at hc
      have HC := Lib.hid hc
      have HXA := Lib.hid (fun (W : World) (hW : Below wr.heap.size wr W) => run_loadI W _ _ (HC.out W (HB.out.trans (hW.mono zr))).2.1)
      have HXC := Lib.hid (fun (W : World) (hW : Below wr.heap.size wr W) => run_loadU8 W _ _ (HC.out W (HB.out.trans (hW.mono zr))).2.2.1)
      clear hc hx
      have hbd : Below wr.heap.size wr wr.drew := (Below.refl _ _).drew
      go_wp2
      refine wp_late (by kernel_rfl) 231 [(63, [6]), (64, [0]), (65, [9]), (66, [64, 65]), (67, [66]), (68, [67]), (69, [68]), (70, [0]), (71, [9]), (72, [70, 71]), (73, [72]), (74, [73]), (75, [74]), (1013, [63, 69, 75])]
        [Fact.is (.pointer (some ⟨g1 + 2, 0, none⟩)), Fact.is (.slice (some ad) n cap), Fact.is (.int .i64 (k : Int)), Fact.is (.pointer (some (Addr.add ad (k * 6)))), Fact.is (.pointer (some ⟨((Addr.add ad (k * 6))).block, ((Addr.add ad (k * 6))).off + 1, none⟩)), Fact.is (.int .i64 xa), Fact.is (.int .i64 (xa % 8)), Fact.is (.slice (some ad) n cap), Fact.is (.int .i64 (k : Int)), Fact.is (.pointer (some (Addr.add ad (k * 6)))), Fact.is (.pointer (some ⟨((Addr.add ad (k * 6))).block, ((Addr.add ad (k * 6))).off + 2, none⟩)), Fact.is (.int .u8 (xc.toNat : Int)), Fact.fl xc, default]
        [1, 1, 1, 1, 1, 1, 1, 1, 1, 1, 1, 1, 1, 2] [13] [] [63, 64, 65, 66, 67, 68, 69, 70, 71, 72, 73, 74, 75, 76] ((fun _ _ w' => IsDev w' g1 ((runB id (Plain.Dv.new 8) l k).write (xa % 8) (Plain.full xc)).1 ∧ Kept [g1 + 1, g1 + 2] wr w'))
        (by kernel_rfl) (by kernel_rfl) rfl rfl ⟨?s0, ?s1, ?s2, ?s3, ?s4, ?s5, ?s6, ?s7, ?s8, ?s9, ?s10, ?s11, ?s12, trivial⟩ ?late ?fin
      case s0 =>
        intro ρ W hb hc hf hr
        obtain ⟨r6, -⟩ := hr
        have e6 : ρ (.tmp 6) = .pointer (some ⟨g1 + 2, 0, none⟩) := r6
        clear r6
        refine under_none rfl ?_
        exact ⟨e6, Below.refl _ _⟩
      case s1 =>
        intro ρ W hb hc hf hr
        obtain ⟨r0, -⟩ := hr
        have e0 : ρ (.tmp 0) = .slice (some ad) n cap := r0
        clear r0
        refine under_none rfl ?_
        exact ⟨e0, Below.refl _ _⟩
      case s2 =>
        intro ρ W hb hc hf hr
        obtain ⟨r9, -⟩ := hr
        have e9 : ρ (.tmp 9) = .int .i64 (k : Int) := r9
        clear r9
        refine under_none rfl ?_
        exact ⟨e9, Below.refl _ _⟩
      case s3 =>
        intro ρ W hb hc hf hr
        obtain ⟨r64, r65, -⟩ := hr
        have e64 : ρ (.tmp 64) = .slice (some ad) n cap := r64
        clear r64
        have e65 : ρ (.tmp 65) = .int .i64 (k : Int) := r65
        clear r65
        refine under_none rfl ?_
        exact soft_index6 e64 e65 (by omega) rfl
      case s4 =>
        intro ρ W hb hc hf hr
        obtain ⟨r66, -⟩ := hr
        have e66 : ρ (.tmp 66) = .pointer (some (Addr.add ad (k * 6))) := r66
        clear r66
        refine under_none rfl ?_
        exact soft_field e66 rfl (fun W => by go_simp)
      case s5 =>
        intro ρ W hb hc hf hr
        obtain ⟨r67, -⟩ := hr
        have e67 : ρ (.tmp 67) = .pointer (some ⟨((Addr.add ad (k * 6))).block, ((Addr.add ad (k * 6))).off + 1, none⟩) := r67
        clear r67
        refine under_none rfl ?_
        exact soft_load e67 (HXA.out W (hbd.trans (hb.mono (by simp)))) rfl
      case s6 =>
        intro ρ W hb hc hf hr
        obtain ⟨r68, -⟩ := hr
        have e68 : ρ (.tmp 68) = .int .i64 xa := r68
        clear r68
        refine under_none rfl ?_
        exact soft_bin e68 (hc _) rfl rfl (and7 W xa)
      case s7 =>
        intro ρ W hb hc hf hr
        obtain ⟨r0, -⟩ := hr
        have e0 : ρ (.tmp 0) = .slice (some ad) n cap := r0
        clear r0
        refine under_none rfl ?_
        exact ⟨e0, Below.refl _ _⟩
      case s8 =>
        intro ρ W hb hc hf hr
        obtain ⟨r9, -⟩ := hr
        have e9 : ρ (.tmp 9) = .int .i64 (k : Int) := r9
        clear r9
        refine under_none rfl ?_
        exact ⟨e9, Below.refl _ _⟩
      case s9 =>
        intro ρ W hb hc hf hr
        obtain ⟨r70, r71, -⟩ := hr
        have e70 : ρ (.tmp 70) = .slice (some ad) n cap := r70
        clear r70
        have e71 : ρ (.tmp 71) = .int .i64 (k : Int) := r71
        clear r71
        refine under_none rfl ?_
        exact soft_index6 e70 e71 (by omega) rfl
      case s10 =>
        intro ρ W hb hc hf hr
        obtain ⟨r72, -⟩ := hr
        have e72 : ρ (.tmp 72) = .pointer (some (Addr.add ad (k * 6))) := r72
        clear r72
        refine under_none rfl ?_
        exact soft_field e72 rfl (fun W => by go_simp)
      case s11 =>
        intro ρ W hb hc hf hr
        obtain ⟨r73, -⟩ := hr
        have e73 : ρ (.tmp 73) = .pointer (some ⟨((Addr.add ad (k * 6))).block, ((Addr.add ad (k * 6))).off + 2, none⟩) := r73
        clear r73
        refine under_none rfl ?_
        exact soft_load e73 (HXC.out W (hbd.trans (hb.mono (by simp)))) rfl
      case s12 =>
        intro ρ W hb hc hf hr
        obtain ⟨r74, -⟩ := hr
        have e74 : ρ (.tmp 74) = .int .u8 (xc.toNat : Int) := r74
        clear r74
        refine under_none rfl ?_
        exact soft_fl hf e74 rfl
      case late =>
        intro p j o hj ho a W hsz h0 h1 hfr hou
        match p, hj with
        | 0, hj =>
          obtain rfl : 13 = j := Option.some.inj hj
          obtain rfl := Option.some.inj ho
          clear hj ho
          obtain ⟨hb, hhard⟩ := h0 rfl
          have e63 : a.eval (.tmp 63) = .pointer (some ⟨g1 + 2, 0, none⟩) := hhard 63 0 rfl rfl
          have e69 : a.eval (.tmp 69) = .int .i64 (xa % 8) := hhard 69 6 rfl rfl
          have r75 : (Fact.fl xc).φ (a.tmps.getD 75 undef) W := hhard 75 12 rfl rfl
          clear h0 h1 hhard hfr hou
          refine late_write (x := .tmp 63) (y := .tmp 69) (z := .tmp 75) rfl e63 e69 r75 (hbd.trans (hb.mono (by simp))) (by have := HF.out.done; omega) HD1.out fun w' h1 h2 => ⟨_, rfl, h1, h2⟩
        | q + 1, hj => cases hj
      case fin =>
        intro a w6 ha hP
        obtain ⟨h1, h2⟩ := hP
        have zw6 := h2.size
        have HD1 := Lib.hid h1
        have HD2 := Lib.hid (HD2.out.keep h2 (by simp; omega) (by simp; omega) (by simp; omega))
        have HD3 := Lib.hid (HD3.out.keep h2 (by simp; omega) (by simp; omega) (by simp; omega))
        have HB := Lib.hid (h2.belowB HB.out zr (by simp; omega))
        have zr2 := HB.out.size
        have HXA := Lib.hid (fun (W : World) (hW : Below w6.heap.size w6 W) => run_loadI W _ _ (HC.out W (HB.out.trans (hW.mono zr2))).2.1)
        have HXC := Lib.hid (fun (W : World) (hW : Below w6.heap.size w6 W) => run_loadU8 W _ _ (HC.out W (HB.out.trans (hW.mono zr2))).2.2.1)
        have hbd : Below w6.heap.size w6 w6.drew := (Below.refl _ _).drew
        clear h1 h2
        simp only [List.foldl_cons, List.foldl_nil] at ha
        generalize a.tmps.getD 63 undef = v63 at ha
        generalize a.tmps.getD 64 undef = v64 at ha
        generalize a.tmps.getD 65 undef = v65 at ha
        generalize a.tmps.getD 66 undef = v66 at ha
        generalize a.tmps.getD 67 undef = v67 at ha
        generalize a.tmps.getD 68 undef = v68 at ha
        generalize a.tmps.getD 69 undef = v69 at ha
        generalize a.tmps.getD 70 undef = v70 at ha
        generalize a.tmps.getD 71 undef = v71 at ha
        generalize a.tmps.getD 72 undef = v72 at ha
        generalize a.tmps.getD 73 undef = v73 at ha
        generalize a.tmps.getD 74 undef = v74 at ha
        generalize a.tmps.getD 75 undef = v75 at ha
        generalize a.tmps.getD 76 undef = v76 at ha
        simp only [Act.put, List.setIfInBounds_toArray, List.set_cons_succ, List.set_cons_zero] at ha
        subst ha
        go_wp2
        refine wp_late (by kernel_rfl) 231 [(77, [7]), (78, [0]), (79, [9]), (80, [78, 79]), (81, [80]), (82, [81]), (83, [82]), (84, [0]), (85, [9]), (86, [84, 85]), (87, [86]), (88, [87]), (89, [88]), (1013, [77, 83, 89])]
          [Fact.is (.pointer (some ⟨g2 + 2, 0, none⟩)), Fact.is (.slice (some ad) n cap), Fact.is (.int .i64 (k : Int)), Fact.is (.pointer (some (Addr.add ad (k * 6)))), Fact.is (.pointer (some ⟨((Addr.add ad (k * 6))).block, ((Addr.add ad (k * 6))).off + 1, none⟩)), Fact.is (.int .i64 xa), Fact.is (.int .i64 (xa % 8)), Fact.is (.slice (some ad) n cap), Fact.is (.int .i64 (k : Int)), Fact.is (.pointer (some (Addr.add ad (k * 6)))), Fact.is (.pointer (some ⟨((Addr.add ad (k * 6))).block, ((Addr.add ad (k * 6))).off + 2, none⟩)), Fact.is (.int .u8 (xc.toNat : Int)), Fact.fl xc, default]
          [1, 1, 1, 1, 1, 1, 1, 1, 1, 1, 1, 1, 1, 2] [13] [] [77, 78, 79, 80, 81, 82, 83, 84, 85, 86, 87, 88, 89, 90] ((fun _ _ w' => IsDev w' g2 ((runB id (Plain.Dv.new 8) l k).write (xa % 8) (Plain.full xc)).1 ∧ Kept [g2 + 1, g2 + 2] w6 w'))
          (by kernel_rfl) (by kernel_rfl) rfl rfl ⟨?s0, ?s1, ?s2, ?s3, ?s4, ?s5, ?s6, ?s7, ?s8, ?s9, ?s10, ?s11, ?s12, trivial⟩ ?late ?fin
        case s0 =>
          intro ρ W hb hc hf hr
          obtain ⟨r7, -⟩ := hr
          have e7 : ρ (.tmp 7) = .pointer (some ⟨g2 + 2, 0, none⟩) := r7
          clear r7
          refine under_none rfl ?_
          exact ⟨e7, Below.refl _ _⟩
        case s1 =>
          intro ρ W hb hc hf hr
          obtain ⟨r0, -⟩ := hr
          have e0 : ρ (.tmp 0) = .slice (some ad) n cap := r0
          clear r0
          refine under_none rfl ?_
          exact ⟨e0, Below.refl _ _⟩
        case s2 =>
          intro ρ W hb hc hf hr
          obtain ⟨r9, -⟩ := hr
          have e9 : ρ (.tmp 9) = .int .i64 (k : Int) := r9
          clear r9
          refine under_none rfl ?_
          exact ⟨e9, Below.refl _ _⟩
        case s3 =>
          intro ρ W hb hc hf hr
          obtain ⟨r78, r79, -⟩ := hr
          have e78 : ρ (.tmp 78) = .slice (some ad) n cap := r78
          clear r78
          have e79 : ρ (.tmp 79) = .int .i64 (k : Int) := r79
          clear r79
          refine under_none rfl ?_
          exact soft_index6 e78 e79 (by omega) rfl
        case s4 =>
          intro ρ W hb hc hf hr
          obtain ⟨r80, -⟩ := hr
          have e80 : ρ (.tmp 80) = .pointer (some (Addr.add ad (k * 6))) := r80
          clear r80
          refine under_none rfl ?_
          exact soft_field e80 rfl (fun W => by go_simp)
        case s5 =>
          intro ρ W hb hc hf hr
          obtain ⟨r81, -⟩ := hr
          have e81 : ρ (.tmp 81) = .pointer (some ⟨((Addr.add ad (k * 6))).block, ((Addr.add ad (k * 6))).off + 1, none⟩) := r81
          clear r81
          refine under_none rfl ?_
          exact soft_load e81 (HXA.out W (hbd.trans (hb.mono (by simp)))) rfl
        case s6 =>
          intro ρ W hb hc hf hr
          obtain ⟨r82, -⟩ := hr
          have e82 : ρ (.tmp 82) = .int .i64 xa := r82
          clear r82
          refine under_none rfl ?_
          exact soft_bin e82 (hc _) rfl rfl (and7 W xa)
        case s7 =>
          intro ρ W hb hc hf hr
          obtain ⟨r0, -⟩ := hr
          have e0 : ρ (.tmp 0) = .slice (some ad) n cap := r0
          clear r0
          refine under_none rfl ?_
          exact ⟨e0, Below.refl _ _⟩
        case s8 =>
          intro ρ W hb hc hf hr
          obtain ⟨r9, -⟩ := hr
          have e9 : ρ (.tmp 9) = .int .i64 (k : Int) := r9
          clear r9
          refine under_none rfl ?_
          exact ⟨e9, Below.refl _ _⟩
        case s9 =>
          intro ρ W hb hc hf hr
          obtain ⟨r84, r85, -⟩ := hr
          have e84 : ρ (.tmp 84) = .slice (some ad) n cap := r84
          clear r84
          have e85 : ρ (.tmp 85) = .int .i64 (k : Int) := r85
          clear r85
          refine under_none rfl ?_
          exact soft_index6 e84 e85 (by omega) rfl
        case s10 =>
          intro ρ W hb hc hf hr
          obtain ⟨r86, -⟩ := hr
          have e86 : ρ (.tmp 86) = .pointer (some (Addr.add ad (k * 6))) := r86
          clear r86
          refine under_none rfl ?_
          exact soft_field e86 rfl (fun W => by go_simp)
        case s11 =>
          intro ρ W hb hc hf hr
          obtain ⟨r87, -⟩ := hr
          have e87 : ρ (.tmp 87) = .pointer (some ⟨((Addr.add ad (k * 6))).block, ((Addr.add ad (k * 6))).off + 2, none⟩) := r87
          clear r87
          refine under_none rfl ?_
          exact soft_load e87 (HXC.out W (hbd.trans (hb.mono (by simp)))) rfl
        case s12 =>
          intro ρ W hb hc hf hr
          obtain ⟨r88, -⟩ := hr
          have e88 : ρ (.tmp 88) = .int .u8 (xc.toNat : Int) := r88
          clear r88
          refine under_none rfl ?_
          exact soft_fl hf e88 rfl
        case late =>
          intro p j o hj ho a W hsz h0 h1 hfr hou
          match p, hj with
          | 0, hj =>
            obtain rfl : 13 = j := Option.some.inj hj
            obtain rfl := Option.some.inj ho
            clear hj ho
            obtain ⟨hb, hhard⟩ := h0 rfl
            have e77 : a.eval (.tmp 77) = .pointer (some ⟨g2 + 2, 0, none⟩) := hhard 77 0 rfl rfl
            have e83 : a.eval (.tmp 83) = .int .i64 (xa % 8) := hhard 83 6 rfl rfl
            have r89 : (Fact.fl xc).φ (a.tmps.getD 89 undef) W := hhard 89 12 rfl rfl
            clear h0 h1 hhard hfr hou
            refine late_write (x := .tmp 77) (y := .tmp 83) (z := .tmp 89) rfl e77 e83 r89 (hbd.trans (hb.mono (by simp))) (by have := HF.out.done; omega) HD2.out fun w' h1 h2 => ⟨_, rfl, h1, h2⟩
          | q + 1, hj => cases hj
        case fin =>
          intro a w7 ha hP
          obtain ⟨h1, h2⟩ := hP
          have zw7 := h2.size
          have HD2 := Lib.hid h1
          have HD1 := Lib.hid (HD1.out.keep h2 (by simp; omega) (by simp; omega) (by simp; omega))
          have HD3 := Lib.hid (HD3.out.keep h2 (by simp; omega) (by simp; omega) (by simp; omega))
          have HB := Lib.hid (h2.belowB HB.out zr2 (by simp; omega))
          have zr3 := HB.out.size
          have HXA := Lib.hid (fun (W : World) (hW : Below w7.heap.size w7 W) => run_loadI W _ _ (HC.out W (HB.out.trans (hW.mono zr3))).2.1)
          have HXC := Lib.hid (fun (W : World) (hW : Below w7.heap.size w7 W) => run_loadU8 W _ _ (HC.out W (HB.out.trans (hW.mono zr3))).2.2.1)
          have hbd : Below w7.heap.size w7 w7.drew := (Below.refl _ _).drew
          clear h1 h2
          simp only [List.foldl_cons, List.foldl_nil] at ha
          generalize a.tmps.getD 77 undef = v77 at ha
          generalize a.tmps.getD 78 undef = v78 at ha
          generalize a.tmps.getD 79 undef = v79 at ha
          generalize a.tmps.getD 80 undef = v80 at ha
          generalize a.tmps.getD 81 undef = v81 at ha
          generalize a.tmps.getD 82 undef = v82 at ha
          generalize a.tmps.getD 83 undef = v83 at ha
          generalize a.tmps.getD 84 undef = v84 at ha
          generalize a.tmps.getD 85 undef = v85 at ha
          generalize a.tmps.getD 86 undef = v86 at ha
          generalize a.tmps.getD 87 undef = v87 at ha
          generalize a.tmps.getD 88 undef = v88 at ha
          generalize a.tmps.getD 89 undef = v89 at ha
          generalize a.tmps.getD 90 undef = v90 at ha
          simp only [Act.put, List.setIfInBounds_toArray, List.set_cons_succ, List.set_cons_zero] at ha
          subst ha
          go_wp2
          refine wp_late (by kernel_rfl) 231 [(91, [8]), (92, [0]), (93, [9]), (94, [92, 93]), (95, [94]), (96, [95]), (97, [96]), (98, [0]), (99, [9]), (100, [98, 99]), (101, [100]), (102, [101]), (103, [102]), (1013, [91, 97, 103])]
            [Fact.is (.pointer (some ⟨g3 + 2, 0, none⟩)), Fact.is (.slice (some ad) n cap), Fact.is (.int .i64 (k : Int)), Fact.is (.pointer (some (Addr.add ad (k * 6)))), Fact.is (.pointer (some ⟨((Addr.add ad (k * 6))).block, ((Addr.add ad (k * 6))).off + 1, none⟩)), Fact.is (.int .i64 xa), Fact.is (.int .i64 (xa % 8)), Fact.is (.slice (some ad) n cap), Fact.is (.int .i64 (k : Int)), Fact.is (.pointer (some (Addr.add ad (k * 6)))), Fact.is (.pointer (some ⟨((Addr.add ad (k * 6))).block, ((Addr.add ad (k * 6))).off + 2, none⟩)), Fact.is (.int .u8 (xc.toNat : Int)), Fact.fl xc, default]
            [1, 1, 1, 1, 1, 1, 1, 1, 1, 1, 1, 1, 1, 2] [13] [] [91, 92, 93, 94, 95, 96, 97, 98, 99, 100, 101, 102, 103, 104] ((fun _ _ w' => IsDev w' g3 ((runB id (Plain.Dv.new 8) l k).write (xa % 8) (Plain.full xc)).1 ∧ Kept [g3 + 1, g3 + 2] w7 w'))
            (by kernel_rfl) (by kernel_rfl) rfl rfl ⟨?s0, ?s1, ?s2, ?s3, ?s4, ?s5, ?s6, ?s7, ?s8, ?s9, ?s10, ?s11, ?s12, trivial⟩ ?late ?fin
          case s0 =>
            intro ρ W hb hc hf hr
            obtain ⟨r8, -⟩ := hr
            have e8 : ρ (.tmp 8) = .pointer (some ⟨g3 + 2, 0, none⟩) := r8
            clear r8
            refine under_none rfl ?_
            exact ⟨e8, Below.refl _ _⟩
          case s1 =>
            intro ρ W hb hc hf hr
            obtain ⟨r0, -⟩ := hr
            have e0 : ρ (.tmp 0) = .slice (some ad) n cap := r0
            clear r0
            refine under_none rfl ?_
            exact ⟨e0, Below.refl _ _⟩
          case s2 =>
            intro ρ W hb hc hf hr
            obtain ⟨r9, -⟩ := hr
            have e9 : ρ (.tmp 9) = .int .i64 (k : Int) := r9
            clear r9
            refine under_none rfl ?_
            exact ⟨e9, Below.refl _ _⟩
          case s3 =>
            intro ρ W hb hc hf hr
            obtain ⟨r92, r93, -⟩ := hr
            have e92 : ρ (.tmp 92) = .slice (some ad) n cap := r92
            clear r92
            have e93 : ρ (.tmp 93) = .int .i64 (k : Int) := r93
            clear r93
            refine under_none rfl ?_
            exact soft_index6 e92 e93 (by omega) rfl
          case s4 =>
            intro ρ W hb hc hf hr
            obtain ⟨r94, -⟩ := hr
            have e94 : ρ (.tmp 94) = .pointer (some (Addr.add ad (k * 6))) := r94
            clear r94
            refine under_none rfl ?_
            exact soft_field e94 rfl (fun W => by go_simp)
          case s5 =>
            intro ρ W hb hc hf hr
            obtain ⟨r95, -⟩ := hr
            have e95 : ρ (.tmp 95) = .pointer (some ⟨((Addr.add ad (k * 6))).block, ((Addr.add ad (k * 6))).off + 1, none⟩) := r95
            clear r95
            refine under_none rfl ?_
            exact soft_load e95 (HXA.out W (hbd.trans (hb.mono (by simp)))) rfl
          case s6 =>
            intro ρ W hb hc hf hr
            obtain ⟨r96, -⟩ := hr
            have e96 : ρ (.tmp 96) = .int .i64 xa := r96
            clear r96
            refine under_none rfl ?_
            exact soft_bin e96 (hc _) rfl rfl (and7 W xa)
          case s7 =>
            intro ρ W hb hc hf hr
            obtain ⟨r0, -⟩ := hr
            have e0 : ρ (.tmp 0) = .slice (some ad) n cap := r0
            clear r0
            refine under_none rfl ?_
            exact ⟨e0, Below.refl _ _⟩
          case s8 =>
            intro ρ W hb hc hf hr
            obtain ⟨r9, -⟩ := hr
            have e9 : ρ (.tmp 9) = .int .i64 (k : Int) := r9
            clear r9
            refine under_none rfl ?_
            exact ⟨e9, Below.refl _ _⟩
          case s9 =>
            intro ρ W hb hc hf hr
            obtain ⟨r98, r99, -⟩ := hr
            have e98 : ρ (.tmp 98) = .slice (some ad) n cap := r98
            clear r98
            have e99 : ρ (.tmp 99) = .int .i64 (k : Int) := r99
            clear r99
            refine under_none rfl ?_
            exact soft_index6 e98 e99 (by omega) rfl
          case s10 =>
            intro ρ W hb hc hf hr
            obtain ⟨r100, -⟩ := hr
            have e100 : ρ (.tmp 100) = .pointer (some (Addr.add ad (k * 6))) := r100
            clear r100
            refine under_none rfl ?_
            exact soft_field e100 rfl (fun W => by go_simp)
          case s11 =>
            intro ρ W hb hc hf hr
            obtain ⟨r101, -⟩ := hr
            have e101 : ρ (.tmp 101) = .pointer (some ⟨((Addr.add ad (k * 6))).block, ((Addr.add ad (k * 6))).off + 2, none⟩) := r101
            clear r101
            refine under_none rfl ?_
            exact soft_load e101 (HXC.out W (hbd.trans (hb.mono (by simp)))) rfl
          case s12 =>
            intro ρ W hb hc hf hr
            obtain ⟨r102, -⟩ := hr
            have e102 : ρ (.tmp 102) = .int .u8 (xc.toNat : Int) := r102
            clear r102
            refine under_none rfl ?_
            exact soft_fl hf e102 rfl
          case late =>
            intro p j o hj ho a W hsz h0 h1 hfr hou
            match p, hj with
            | 0, hj =>
              obtain rfl : 13 = j := Option.some.inj hj
              obtain rfl := Option.some.inj ho
              clear hj ho
              obtain ⟨hb, hhard⟩ := h0 rfl
              have e91 : a.eval (.tmp 91) = .pointer (some ⟨g3 + 2, 0, none⟩) := hhard 91 0 rfl rfl
              have e97 : a.eval (.tmp 97) = .int .i64 (xa % 8) := hhard 97 6 rfl rfl
              have r103 : (Fact.fl xc).φ (a.tmps.getD 103 undef) W := hhard 103 12 rfl rfl
              clear h0 h1 hhard hfr hou
              refine late_write (x := .tmp 91) (y := .tmp 97) (z := .tmp 103) rfl e91 e97 r103 (hbd.trans (hb.mono (by simp))) (by have := HF.out.done; omega) HD3.out fun w' h1 h2 => ⟨_, rfl, h1, h2⟩
            | q + 1, hj => cases hj
          case fin =>
            intro a w8 ha hP
            obtain ⟨h1, h2⟩ := hP
            have zw8 := h2.size
            have HD3 := Lib.hid h1
            have HD1 := Lib.hid (HD1.out.keep h2 (by simp; omega) (by simp; omega) (by simp; omega))
            have HD2 := Lib.hid (HD2.out.keep h2 (by simp; omega) (by simp; omega) (by simp; omega))
            have HB := Lib.hid (h2.belowB HB.out zr3 (by simp; omega))
            clear h1 h2
            simp only [List.foldl_cons, List.foldl_nil] at ha
            generalize a.tmps.getD 91 undef = v91 at ha
            generalize a.tmps.getD 92 undef = v92 at ha
            generalize a.tmps.getD 93 undef = v93 at ha
            generalize a.tmps.getD 94 undef = v94 at ha
            generalize a.tmps.getD 95 undef = v95 at ha
            generalize a.tmps.getD 96 undef = v96 at ha
            generalize a.tmps.getD 97 undef = v97 at ha
            generalize a.tmps.getD 98 undef = v98 at ha
            generalize a.tmps.getD 99 undef = v99 at ha
            generalize a.tmps.getD 100 undef = v100 at ha
            generalize a.tmps.getD 101 undef = v101 at ha
            generalize a.tmps.getD 102 undef = v102 at ha
            generalize a.tmps.getD 103 undef = v103 at ha
            generalize a.tmps.getD 104 undef = v104 at ha
            simp only [Act.put, List.setIfInBounds_toArray, List.set_cons_succ, List.set_cons_zero] at ha
            subst ha
            go_wp2
            go_roundw
            case rel =>
              refine ⟨k + 1, by go_num, by omega, ?_, ?_, ?_, HB.out, by omega⟩
              · rw [HRS.out]; exact HD1.out
              · rw [HRS.out]; exact HD2.out
              · rw [HRS.out]; exact HD3.out
            case measure => simp [RowKit.intOf]; omega
    · obtain rfl : n = k := by omega
      obtain ⟨D, hD⟩ : ∃ D, runB id (Plain.Dv.new 8) l n = D := ⟨_, rfl⟩
      have HDN := Lib.hid hD
      rw [hD] at HD1 HD2 HD3 HF
      have zd1 := HD1.out.lt
      clear hD hz
      have hgs : w.heap.size ≤ g1 := by omega
      go_wp2_with fail
      refine (flush_any wr g1 D (by have := HF.out.done; omega) HD1.out).mono ?_
      rintro e w6 ⟨rfl, h1, h2⟩
      have HD1 := Lib.hid h1
      have zf1 := h2.size
      have HD2 := Lib.hid (HD2.out.keep h2 (by simp; omega) (by simp; omega) (by simp; omega))
      have HD3 := Lib.hid (HD3.out.keep h2 (by simp; omega) (by simp; omega) (by simp; omega))
      have HB := Lib.hid (h2.belowB HB.out zr (by simp; omega))
      have zr := HB.out.size
      clear h1 h2
      go_wp2_with fail
      refine (flush_any w6 g2 D (by have := HF.out.done; omega) HD2.out).mono ?_
      rintro e w7 ⟨rfl, h1, h2⟩
      have HD2 := Lib.hid h1
      have zf2 := h2.size
      have HD1 := Lib.hid (HD1.out.keep h2 (by simp; omega) (by simp; omega) (by simp; omega))
      have HD3 := Lib.hid (HD3.out.keep h2 (by simp; omega) (by simp; omega) (by simp; omega))
      have HB := Lib.hid (h2.belowB HB.out zr (by simp; omega))
      have zr := HB.out.size
      clear h1 h2
      go_wp2_with fail
      refine (flush_any w7 g3 D (by have := HF.out.done; omega) HD3.out).mono ?_
      rintro e w8 ⟨rfl, h1, h2⟩
      have HD3 := Lib.hid h1
      have zf3 := h2.size
      have HD1 := Lib.hid (HD1.out.keep h2 (by simp; omega) (by simp; omega) (by simp; omega))
      have HD2 := Lib.hid (HD2.out.keep h2 (by simp; omega) (by simp; omega) (by simp; omega))
      have HB := Lib.hid (h2.belowB HB.out zr (by simp; omega))
      have zr := HB.out.size
      clear h1 h2
      have HF8 := Lib.hid (show Plain.Free8 D.flush.1 (n + 1) from by have := HF.out.flush; rwa [Nat.zero_add] at this)
      have HKF := Lib.hid (Plain.flush_kept HF.out.free)
      obtain ⟨F, hF⟩ : ∃ F, D.flush.1 = F := ⟨_, rfl⟩
      rw [hF] at HD1 HD2 HD3 HF8 HKF
      clear hF
      go_wp2
      go_loopw [10] (fun s wr => ∃ k : Nat, s = .int .i64 (k : Int) ∧ k ≤ m ∧ IsDev wr g1 (runB id F more k) ∧ IsDev wr g2 (runB id F more k) ∧ IsDev wr g3 F ∧ Below w.heap.size w wr ∧ w8.heap.size ≤ wr.heap.size) (fun s _ => m - (RowKit.intOf s).toNat)
      case atStart => exact ⟨0, rfl, Nat.zero_le _, HD1.out, HD2.out, HD3.out, HB.out, Nat.le_refl _⟩
      case round =>
        clear HD1 HD2 HD3 HB
        obtain ⟨k, rfl, hk, hd1, hd2, hd3, hB, hz⟩ := hrel
        have HD1 := Lib.hid hd1
        have HD2 := Lib.hid hd2
        have HD3 := Lib.hid hd3
        have HB := Lib.hid hB
        have zr := hB.size
        have HE := Lib.hid (runB_free id F (n + 1) HF8.out more k (by rw [HM.out]; exact hk))
        clear hd1 hd2 hd3 hB
        by_cases hkn : k < m
        · have hkl : k < more.length := by rw [HM.out]; exact hkn
          obtain ⟨ad, rfl, hadb, hc⟩ := at_oq HBB.out k hkl
          have HRS := Lib.hid (runB_succ id F more k hkl)
          obtain ⟨x, hx⟩ : ∃ x, more[k] = x := ⟨_, rfl⟩
          rw [hx] at hc HRS
          obtain ⟨xw, xa, xc, xbA, xbc, xb, xkA, xkc, xk, xhA, xhc, xh⟩ := x
          simp only at hc
          have HC := Lib.hid hc
          have HXA := Lib.hid (fun (W : World) (hW : Below wr.heap.size wr W) => run_loadI W _ _ (HC.out W (HB.out.trans (hW.mono zr))).2.1)
          have HXC := Lib.hid (fun (W : World) (hW : Below wr.heap.size wr W) => run_loadU8 W _ _ (HC.out W (HB.out.trans (hW.mono zr))).2.2.1)
          clear hc hx
          have hbd : Below wr.heap.size wr wr.drew := (Below.refl _ _).drew
          go_wp2
          refine wp_late (by kernel_rfl) 231 [(117, [6]), (118, [1]), (119, [10]), (120, [118, 119]), (121, [120]), (122, [121]), (123, [122]), (124, [1]), (125, [10]), (126, [124, 125]), (127, [126]), (128, [127]), (129, [128]), (1013, [117, 123, 129])]
            [Fact.is (.pointer (some ⟨g1 + 2, 0, none⟩)), Fact.is (.slice (some ad) m capm), Fact.is (.int .i64 (k : Int)), Fact.is (.pointer (some (Addr.add ad (k * 6)))), Fact.is (.pointer (some ⟨((Addr.add ad (k * 6))).block, ((Addr.add ad (k * 6))).off + 1, none⟩)), Fact.is (.int .i64 xa), Fact.is (.int .i64 (xa % 8)), Fact.is (.slice (some ad) m capm), Fact.is (.int .i64 (k : Int)), Fact.is (.pointer (some (Addr.add ad (k * 6)))), Fact.is (.pointer (some ⟨((Addr.add ad (k * 6))).block, ((Addr.add ad (k * 6))).off + 2, none⟩)), Fact.is (.int .u8 (xc.toNat : Int)), Fact.fl xc, default]
            [1, 1, 1, 1, 1, 1, 1, 1, 1, 1, 1, 1, 1, 2] [13] [] [117, 118, 119, 120, 121, 122, 123, 124, 125, 126, 127, 128, 129, 130] ((fun _ _ w' => IsDev w' g1 ((runB id F more k).write (xa % 8) (Plain.full xc)).1 ∧ Kept [g1 + 1, g1 + 2] wr w'))
            (by kernel_rfl) (by kernel_rfl) rfl rfl ⟨?s0, ?s1, ?s2, ?s3, ?s4, ?s5, ?s6, ?s7, ?s8, ?s9, ?s10, ?s11, ?s12, trivial⟩ ?late ?fin
          case s0 =>
            intro ρ W hb hc hf hr
            obtain ⟨r6, -⟩ := hr
            have e6 : ρ (.tmp 6) = .pointer (some ⟨g1 + 2, 0, none⟩) := r6
            clear r6
            refine under_none rfl ?_
            exact ⟨e6, Below.refl _ _⟩
          case s1 =>
            intro ρ W hb hc hf hr
            obtain ⟨r1, -⟩ := hr
            have e1 : ρ (.tmp 1) = .slice (some ad) m capm := r1
            clear r1
            refine under_none rfl ?_
            exact ⟨e1, Below.refl _ _⟩
          case s2 =>
            intro ρ W hb hc hf hr
            obtain ⟨r10, -⟩ := hr
            have e10 : ρ (.tmp 10) = .int .i64 (k : Int) := r10
            clear r10
            refine under_none rfl ?_
            exact ⟨e10, Below.refl _ _⟩
          case s3 =>
            intro ρ W hb hc hf hr
            obtain ⟨r118, r119, -⟩ := hr
            have e118 : ρ (.tmp 118) = .slice (some ad) m capm := r118
            clear r118
            have e119 : ρ (.tmp 119) = .int .i64 (k : Int) := r119
            clear r119
            refine under_none rfl ?_
            exact soft_index6 e118 e119 (by omega) rfl
          case s4 =>
            intro ρ W hb hc hf hr
            obtain ⟨r120, -⟩ := hr
            have e120 : ρ (.tmp 120) = .pointer (some (Addr.add ad (k * 6))) := r120
            clear r120
            refine under_none rfl ?_
            exact soft_field e120 rfl (fun W => by go_simp)
          case s5 =>
            intro ρ W hb hc hf hr
            obtain ⟨r121, -⟩ := hr
            have e121 : ρ (.tmp 121) = .pointer (some ⟨((Addr.add ad (k * 6))).block, ((Addr.add ad (k * 6))).off + 1, none⟩) := r121
            clear r121
            refine under_none rfl ?_
            exact soft_load e121 (HXA.out W (hbd.trans (hb.mono (by simp)))) rfl
          case s6 =>
            intro ρ W hb hc hf hr
            obtain ⟨r122, -⟩ := hr
            have e122 : ρ (.tmp 122) = .int .i64 xa := r122
            clear r122
            refine under_none rfl ?_
            exact soft_bin e122 (hc _) rfl rfl (and7 W xa)
          case s7 =>
            intro ρ W hb hc hf hr
            obtain ⟨r1, -⟩ := hr
            have e1 : ρ (.tmp 1) = .slice (some ad) m capm := r1
            clear r1
            refine under_none rfl ?_
            exact ⟨e1, Below.refl _ _⟩
          case s8 =>
            intro ρ W hb hc hf hr
            obtain ⟨r10, -⟩ := hr
            have e10 : ρ (.tmp 10) = .int .i64 (k : Int) := r10
            clear r10
            refine under_none rfl ?_
            exact ⟨e10, Below.refl _ _⟩
          case s9 =>
            intro ρ W hb hc hf hr
            obtain ⟨r124, r125, -⟩ := hr
            have e124 : ρ (.tmp 124) = .slice (some ad) m capm := r124
            clear r124
            have e125 : ρ (.tmp 125) = .int .i64 (k : Int) := r125
            clear r125
            refine under_none rfl ?_
            exact soft_index6 e124 e125 (by omega) rfl
          case s10 =>
            intro ρ W hb hc hf hr
            obtain ⟨r126, -⟩ := hr
            have e126 : ρ (.tmp 126) = .pointer (some (Addr.add ad (k * 6))) := r126
            clear r126
            refine under_none rfl ?_
            exact soft_field e126 rfl (fun W => by go_simp)
          case s11 =>
            intro ρ W hb hc hf hr
            obtain ⟨r127, -⟩ := hr
            have e127 : ρ (.tmp 127) = .pointer (some ⟨((Addr.add ad (k * 6))).block, ((Addr.add ad (k * 6))).off + 2, none⟩) := r127
            clear r127
            refine under_none rfl ?_
            exact soft_load e127 (HXC.out W (hbd.trans (hb.mono (by simp)))) rfl
          case s12 =>
            intro ρ W hb hc hf hr
            obtain ⟨r128, -⟩ := hr
            have e128 : ρ (.tmp 128) = .int .u8 (xc.toNat : Int) := r128
            clear r128
            refine under_none rfl ?_
            exact soft_fl hf e128 rfl
          case late =>
            intro p j o hj ho a W hsz h0 h1 hfr hou
            match p, hj with
            | 0, hj =>
              obtain rfl : 13 = j := Option.some.inj hj
              obtain rfl := Option.some.inj ho
              clear hj ho
              obtain ⟨hb, hhard⟩ := h0 rfl
              have e117 : a.eval (.tmp 117) = .pointer (some ⟨g1 + 2, 0, none⟩) := hhard 117 0 rfl rfl
              have e123 : a.eval (.tmp 123) = .int .i64 (xa % 8) := hhard 123 6 rfl rfl
              have r129 : (Fact.fl xc).φ (a.tmps.getD 129 undef) W := hhard 129 12 rfl rfl
              clear h0 h1 hhard hfr hou
              refine late_write (x := .tmp 117) (y := .tmp 123) (z := .tmp 129) rfl e117 e123 r129 (hbd.trans (hb.mono (by simp))) (by have := HE.out.done; omega) HD1.out fun w' h1 h2 => ⟨_, rfl, h1, h2⟩
            | q + 1, hj => cases hj
          case fin =>
            intro a w9 ha hP
            obtain ⟨h1, h2⟩ := hP
            have zw9 := h2.size
            have HD1 := Lib.hid h1
            have HD2 := Lib.hid (HD2.out.keep h2 (by simp; omega) (by simp; omega) (by simp; omega))
            have HD3 := Lib.hid (HD3.out.keep h2 (by simp; omega) (by simp; omega) (by simp; omega))
            have HB := Lib.hid (h2.belowB HB.out zr (by simp; omega))
            have zr2 := HB.out.size
            have HXA := Lib.hid (fun (W : World) (hW : Below w9.heap.size w9 W) => run_loadI W _ _ (HC.out W (HB.out.trans (hW.mono zr2))).2.1)
            have HXC := Lib.hid (fun (W : World) (hW : Below w9.heap.size w9 W) => run_loadU8 W _ _ (HC.out W (HB.out.trans (hW.mono zr2))).2.2.1)
            have hbd : Below w9.heap.size w9 w9.drew := (Below.refl _ _).drew
            clear h1 h2
            simp only [List.foldl_cons, List.foldl_nil] at ha
            generalize a.tmps.getD 117 undef = v117 at ha
            generalize a.tmps.getD 118 undef = v118 at ha
            generalize a.tmps.getD 119 undef = v119 at ha
            generalize a.tmps.getD 120 undef = v120 at ha
            generalize a.tmps.getD 121 undef = v121 at ha
            generalize a.tmps.getD 122 undef = v122 at ha
            generalize a.tmps.getD 123 undef = v123 at ha
            generalize a.tmps.getD 124 undef = v124 at ha
            generalize a.tmps.getD 125 undef = v125 at ha
            generalize a.tmps.getD 126 undef = v126 at ha
            generalize a.tmps.getD 127 undef = v127 at ha
            generalize a.tmps.getD 128 undef = v128 at ha
            generalize a.tmps.getD 129 undef = v129 at ha
            generalize a.tmps.getD 130 undef = v130 at ha
            simp only [Act.put, List.setIfInBounds_toArray, List.set_cons_succ, List.set_cons_zero] at ha
            subst ha
            go_wp2
            refine wp_late (by kernel_rfl) 231 [(131, [7]), (132, [1]), (133, [10]), (134, [132, 133]), (135, [134]), (136, [135]), (137, [136]), (138, [1]), (139, [10]), (140, [138, 139]), (141, [140]), (142, [141]), (143, [142]), (1013, [131, 137, 143])]
              [Fact.is (.pointer (some ⟨g2 + 2, 0, none⟩)), Fact.is (.slice (some ad) m capm), Fact.is (.int .i64 (k : Int)), Fact.is (.pointer (some (Addr.add ad (k * 6)))), Fact.is (.pointer (some ⟨((Addr.add ad (k * 6))).block, ((Addr.add ad (k * 6))).off + 1, none⟩)), Fact.is (.int .i64 xa), Fact.is (.int .i64 (xa % 8)), Fact.is (.slice (some ad) m capm), Fact.is (.int .i64 (k : Int)), Fact.is (.pointer (some (Addr.add ad (k * 6)))), Fact.is (.pointer (some ⟨((Addr.add ad (k * 6))).block, ((Addr.add ad (k * 6))).off + 2, none⟩)), Fact.is (.int .u8 (xc.toNat : Int)), Fact.fl xc, default]
              [1, 1, 1, 1, 1, 1, 1, 1, 1, 1, 1, 1, 1, 2] [13] [] [131, 132, 133, 134, 135, 136, 137, 138, 139, 140, 141, 142, 143, 144] ((fun _ _ w' => IsDev w' g2 ((runB id F more k).write (xa % 8) (Plain.full xc)).1 ∧ Kept [g2 + 1, g2 + 2] w9 w'))
              (by kernel_rfl) (by kernel_rfl) rfl rfl ⟨?s0, ?s1, ?s2, ?s3, ?s4, ?s5, ?s6, ?s7, ?s8, ?s9, ?s10, ?s11, ?s12, trivial⟩ ?late ?fin
            case s0 =>
              intro ρ W hb hc hf hr
              obtain ⟨r7, -⟩ := hr
              have e7 : ρ (.tmp 7) = .pointer (some ⟨g2 + 2, 0, none⟩) := r7
              clear r7
              refine under_none rfl ?_
              exact ⟨e7, Below.refl _ _⟩
            case s1 =>
              intro ρ W hb hc hf hr
              obtain ⟨r1, -⟩ := hr
              have e1 : ρ (.tmp 1) = .slice (some ad) m capm := r1
              clear r1
              refine under_none rfl ?_
              exact ⟨e1, Below.refl _ _⟩
            case s2 =>
              intro ρ W hb hc hf hr
              obtain ⟨r10, -⟩ := hr
              have e10 : ρ (.tmp 10) = .int .i64 (k : Int) := r10
              clear r10
              refine under_none rfl ?_
              exact ⟨e10, Below.refl _ _⟩
            case s3 =>
              intro ρ W hb hc hf hr
              obtain ⟨r132, r133, -⟩ := hr
              have e132 : ρ (.tmp 132) = .slice (some ad) m capm := r132
              clear r132
              have e133 : ρ (.tmp 133) = .int .i64 (k : Int) := r133
              clear r133
              refine under_none rfl ?_
              exact soft_index6 e132 e133 (by omega) rfl
            case s4 =>
              intro ρ W hb hc hf hr
              obtain ⟨r134, -⟩ := hr
              have e134 : ρ (.tmp 134) = .pointer (some (Addr.add ad (k * 6))) := r134
              clear r134
              refine under_none rfl ?_
              exact soft_field e134 rfl (fun W => by go_simp)
            case s5 =>
              intro ρ W hb hc hf hr
              obtain ⟨r135, -⟩ := hr
              have e135 : ρ (.tmp 135) = .pointer (some ⟨((Addr.add ad (k * 6))).block, ((Addr.add ad (k * 6))).off + 1, none⟩) := r135
              clear r135
              refine under_none rfl ?_
              exact soft_load e135 (HXA.out W (hbd.trans (hb.mono (by simp)))) rfl
            case s6 =>
              intro ρ W hb hc hf hr
              obtain ⟨r136, -⟩ := hr
              have e136 : ρ (.tmp 136) = .int .i64 xa := r136
              clear r136
              refine under_none rfl ?_
              exact soft_bin e136 (hc _) rfl rfl (and7 W xa)
            case s7 =>
              intro ρ W hb hc hf hr
              obtain ⟨r1, -⟩ := hr
              have e1 : ρ (.tmp 1) = .slice (some ad) m capm := r1
              clear r1
              refine under_none rfl ?_
              exact ⟨e1, Below.refl _ _⟩
            case s8 =>
              intro ρ W hb hc hf hr
              obtain ⟨r10, -⟩ := hr
              have e10 : ρ (.tmp 10) = .int .i64 (k : Int) := r10
              clear r10
              refine under_none rfl ?_
              exact ⟨e10, Below.refl _ _⟩
            case s9 =>
              intro ρ W hb hc hf hr
              obtain ⟨r138, r139, -⟩ := hr
              have e138 : ρ (.tmp 138) = .slice (some ad) m capm := r138
              clear r138
              have e139 : ρ (.tmp 139) = .int .i64 (k : Int) := r139
              clear r139
              refine under_none rfl ?_
              exact soft_index6 e138 e139 (by omega) rfl
            case s10 =>
              intro ρ W hb hc hf hr
              obtain ⟨r140, -⟩ := hr
              have e140 : ρ (.tmp 140) = .pointer (some (Addr.add ad (k * 6))) := r140
              clear r140
              refine under_none rfl ?_
              exact soft_field e140 rfl (fun W => by go_simp)
            case s11 =>
              intro ρ W hb hc hf hr
              obtain ⟨r141, -⟩ := hr
              have e141 : ρ (.tmp 141) = .pointer (some ⟨((Addr.add ad (k * 6))).block, ((Addr.add ad (k * 6))).off + 2, none⟩) := r141
              clear r141
              refine under_none rfl ?_
              exact soft_load e141 (HXC.out W (hbd.trans (hb.mono (by simp)))) rfl
            case s12 =>
              intro ρ W hb hc hf hr
              obtain ⟨r142, -⟩ := hr
              have e142 : ρ (.tmp 142) = .int .u8 (xc.toNat : Int) := r142
              clear r142
              refine under_none rfl ?_
              exact soft_fl hf e142 rfl
            case late =>
              intro p j o hj ho a W hsz h0 h1 hfr hou
              match p, hj with
              | 0, hj =>
                obtain rfl : 13 = j := Option.some.inj hj
                obtain rfl := Option.some.inj ho
                clear hj ho
                obtain ⟨hb, hhard⟩ := h0 rfl
                have e131 : a.eval (.tmp 131) = .pointer (some ⟨g2 + 2, 0, none⟩) := hhard 131 0 rfl rfl
                have e137 : a.eval (.tmp 137) = .int .i64 (xa % 8) := hhard 137 6 rfl rfl
                have r143 : (Fact.fl xc).φ (a.tmps.getD 143 undef) W := hhard 143 12 rfl rfl
                clear h0 h1 hhard hfr hou
                refine late_write (x := .tmp 131) (y := .tmp 137) (z := .tmp 143) rfl e131 e137 r143 (hbd.trans (hb.mono (by simp))) (by have := HE.out.done; omega) HD2.out fun w' h1 h2 => ⟨_, rfl, h1, h2⟩
              | q + 1, hj => cases hj
            case fin =>
              intro a w10 ha hP
              obtain ⟨h1, h2⟩ := hP
              have zw10 := h2.size
              have HD2 := Lib.hid h1
              have HD1 := Lib.hid (HD1.out.keep h2 (by simp; omega) (by simp; omega) (by simp; omega))
              have HD3 := Lib.hid (HD3.out.keep h2 (by simp; omega) (by simp; omega) (by simp; omega))
              have HB := Lib.hid (h2.belowB HB.out zr2 (by simp; omega))
              clear h1 h2
              simp only [List.foldl_cons, List.foldl_nil] at ha
              generalize a.tmps.getD 131 undef = v131 at ha
              generalize a.tmps.getD 132 undef = v132 at ha
              generalize a.tmps.getD 133 undef = v133 at ha
              generalize a.tmps.getD 134 undef = v134 at ha
              generalize a.tmps.getD 135 undef = v135 at ha
              generalize a.tmps.getD 136 undef = v136 at ha
              generalize a.tmps.getD 137 undef = v137 at ha
              generalize a.tmps.getD 138 undef = v138 at ha
              generalize a.tmps.getD 139 undef = v139 at ha
              generalize a.tmps.getD 140 undef = v140 at ha
              generalize a.tmps.getD 141 undef = v141 at ha
              generalize a.tmps.getD 142 undef = v142 at ha
              generalize a.tmps.getD 143 undef = v143 at ha
              generalize a.tmps.getD 144 undef = v144 at ha
              simp only [Act.put, List.setIfInBounds_toArray, List.set_cons_succ, List.set_cons_zero] at ha
              subst ha
              go_wp2
              go_roundw
              case rel =>
                refine ⟨k + 1, by go_num, by omega, ?_, ?_, HD3.out, HB.out, by omega⟩
                · rw [HRS.out]; exact HD1.out
                · rw [HRS.out]; exact HD2.out
              case measure => simp [RowKit.intOf]; omega
        · obtain rfl : m = k := by omega
          obtain ⟨E, hE⟩ : ∃ E, runB id F more m = E := ⟨_, rfl⟩
          rw [hE] at HD1 HD2 HE
          clear hE
          go_wp2_with fail
          refine (flush_any wr g1 E (by have := HE.out.done; omega) HD1.out).mono ?_
          rintro e w9 ⟨rfl, h1, h2⟩
          have HD1 := Lib.hid h1
          have z9 := h2.size
          have HD2 := Lib.hid (HD2.out.keep h2 (by simp; omega) (by simp; omega) (by simp; omega))
          have HD3 := Lib.hid (HD3.out.keep h2 (by simp; omega) (by simp; omega) (by simp; omega))
          have HB := Lib.hid (h2.belowB HB.out zr (by simp; omega))
          have zr2 := HB.out.size
          clear h1 h2
          have zd2 := HD2.out.lt
          have zd3 := HD3.out.lt
          have HBA := Lib.hid ((Below.refl w9.heap.size w9).alloc (Nat.le_refl _) (.cells #[.bool true, .bool true, .bool true, .bool true, .bool true, .bool true, .bool true, .bool true] 4))
          have HLB := Lib.hid (show Lies (w9.alloc (.cells #[.bool true, .bool true, .bool true, .bool true, .bool true, .bool true, .bool true, .bool true] 4)) (some ⟨w9.heap.size, 0, none⟩) (bools [true, true, true, true, true, true, true, true]) from (Blk.new w9 _ _).lies)
          have HD2a := Lib.hid (HD2.out.below HBA.out)
          go_wp2_with fail
          refine (boot_any _ g2 E [true, true, true, true, true, true, true, true] [] (some ⟨w9.heap.size, 0, none⟩) none 8 8 0 0 rfl rfl (by unfold maxLen; omega) (by unfold maxLen; omega) HLB.out Lies.nil (.inr fun ad e hm => by injection e with e; subst e; simp at hm; omega) (.inl rfl) nobits HD2a.out).mono ?_
          rintro e w10 ⟨rfl, h1, h2⟩
          clear HD2 HD2a HLB
          have HD2 := Lib.hid h1
          have h2 := (Kept.of HBA.out _).trans h2
          have z10 := h2.size
          have HD1 := Lib.hid (HD1.out.keep h2 (by simp; omega) (by simp; omega) (by simp; omega))
          have HD3 := Lib.hid (HD3.out.keep h2 (by simp; omega) (by simp; omega) (by simp; omega))
          have HB := Lib.hid (h2.belowB HB.out zr2 (by simp; omega))
          have zr3 := HB.out.size
          clear h1 h2 HBA
          have HS2 := Lib.hid (Plain.boot_all E HE.out.free.ok [true, true, true, true, true, true, true, true] fun j hj => trues_get j (by have := E.loose_len; have := HE.out.n; omega))
          have HN1 := Lib.hid (show E.flush.1.n = 8 from HE.out.flush.n)
          have HF1 := Lib.hid HE.out.flush.free
          have HS1 := Lib.hid (fun j => Plain.sec_flush HE.out.free j)
          obtain ⟨P1, hP1⟩ : ∃ P, E.flush.1 = P := ⟨_, rfl⟩
          rw [hP1] at HD1 HN1 HF1 HS1
          have HN2 := Lib.hid (show (E.boot [true, true, true, true, true, true, true, true] []).n = 8 from HE.out.n)
          have HF2 := Lib.hid (HE.out.free.boot [true, true, true, true, true, true, true, true] [])
          obtain ⟨P2, hP2⟩ : ∃ P, E.boot [true, true, true, true, true, true, true, true] [] = P := ⟨_, rfl⟩
          rw [hP2] at HD2 HN2 HF2 HS2
          clear hP1 hP2
          go_wp2
          go_loopw [11] (fun s wr => ∃ k : Nat, s = .int .i64 (k : Int) ∧ k ≤ 8 ∧ IsDev wr g1 P1 ∧ IsDev wr g2 P2 ∧ IsDev wr g3 F ∧ Below w.heap.size w wr ∧ w10.heap.size ≤ wr.heap.size) (fun s _ => 8 - (RowKit.intOf s).toNat)
          case atStart => exact ⟨0, rfl, Nat.zero_le _, HD1.out, HD2.out, HD3.out, HB.out, Nat.le_refl _⟩
          case round =>
            clear HD1 HD2 HD3 HB
            obtain ⟨k, rfl, hk, hd1, hd2, hd3, hB, hz⟩ := hrel
            have HD1 := Lib.hid hd1
            have HD2 := Lib.hid hd2
            have HD3 := Lib.hid hd3
            have HB := Lib.hid hB
            have zr := hB.size
            clear hd1 hd2 hd3 hB
            by_cases hkn : k < 8
            · have hk1 : (k : Int) < 8 := by omega
              have HR1 := Lib.hid (read_any wr g1 P1 (k : Int) HD1.out)
              rw [HF1.out.read k (by rw [HN1.out]; exact hkn), HS1.out] at HR1
              obtain ⟨X, hX⟩ : ∃ X, E.sec k = X := ⟨_, rfl⟩
              have HX := Lib.hid hX
              rw [hX] at HR1
              clear hX
              go_wp2_with fail
              refine HR1.out.mono ?_
              intro e wa hg
              obtain ⟨Aa, capa, rfl, la, hBa⟩ := hg.text
              have za := hBa.size
              have HB := Lib.hid (HB.out.trans (hBa.mono zr))
              have HD1 := Lib.hid (HD1.out.below hBa)
              have HD2 := Lib.hid (HD2.out.below hBa)
              have HD3 := Lib.hid (HD3.out.below hBa)
              have HLA := Lib.hid la
              clear hg la hBa
              have HR2 := Lib.hid (read_any wa g2 P2 (k : Int) HD2.out)
              rw [HF2.out.read k (by rw [HN2.out]; exact hkn), HS2.out, HX.out] at HR2
              go_wp2_with fail
              refine HR2.out.mono ?_
              intro e wb hg
              obtain ⟨Ab, capb, rfl, lb, hBb⟩ := hg.text
              have zb := hBb.size
              have HB := Lib.hid (HB.out.trans (hBb.mono (by omega)))
              have HD1 := Lib.hid (HD1.out.below hBb)
              have HD2 := Lib.hid (HD2.out.below hBb)
              have HD3 := Lib.hid (HD3.out.below hBb)
              obtain ⟨S, hS⟩ : ∃ S, str X = S := ⟨_, rfl⟩
              obtain ⟨xn, hxn⟩ : ∃ xn, X.length = xn := ⟨_, rfl⟩
              have hcva := conv_lies (c := capa) (HLA.out.below hBb) hxn
              have hcvb := conv_lies (c := capb) lb hxn
              rw [hS] at hcva hcvb
              rw [hxn]
              have hbq := str_beq S
              have hne : (binOp .neq 9 (.string S) (.string S)).run Try.prog wb = .ok (.bool false) wb := ne_text wb S
              clear hg lb hBb hS hxn
              go_wp2
              go_roundw
              case rel => exact ⟨k + 1, by go_num, by omega, HD1.out, HD2.out, HD3.out, HB.out, by omega⟩
              case measure => simp [RowKit.intOf]; omega
            · obtain rfl : k = 8 := by omega
              clear hkn hk
              go_wp2
              go_loopw [16] (fun s wr => ∃ k : Nat, s = .int .i64 (k : Int) ∧ k ≤ m ∧ IsDev wr g3 (runB (· ^^^ 255) F more k) ∧ Below w.heap.size w wr ∧ w10.heap.size ≤ wr.heap.size) (fun s _ => m - (RowKit.intOf s).toNat)
              case atStart => exact ⟨0, rfl, Nat.zero_le _, HD3.out, HB.out, by omega⟩
              case round =>
                clear HD1 HD2 HD3 HB
                obtain ⟨k, rfl, hk, hd3, hB, hz⟩ := hrel
                have HD3 := Lib.hid hd3
                have HB := Lib.hid hB
                have zr := hB.size
                have HE3 := Lib.hid (runB_free (· ^^^ 255) F (n + 1) HF8.out more k (by rw [HM.out]; exact hk))
                clear hd3 hB
                by_cases hkn : k < m
                · have hkl : k < more.length := by rw [HM.out]; exact hkn
                  obtain ⟨ad, rfl, hadb, hc⟩ := at_oq HBB.out k hkl
                  have HRS := Lib.hid (runB_succ (· ^^^ 255) F more k hkl)
                  obtain ⟨x, hx⟩ : ∃ x, more[k] = x := ⟨_, rfl⟩
                  rw [hx] at hc HRS
                  obtain ⟨xw, xa, xc, xbA, xbc, xb, xkA, xkc, xk, xhA, xhc, xh⟩ := x
                  simp only at hc
                  have HC := Lib.hid hc
                  have HXA := Lib.hid (fun (W : World) (hW : Below wr.heap.size wr W) => run_loadI W _ _ (HC.out W (HB.out.trans (hW.mono zr))).2.1)
                  have HXC := Lib.hid (fun (W : World) (hW : Below wr.heap.size wr W) => run_loadU8 W _ _ (HC.out W (HB.out.trans (hW.mono zr))).2.2.1)
                  clear hc hx
                  have hbd : Below wr.heap.size wr wr.drew := (Below.refl _ _).drew
                  go_wp2
                  refine wp_late (by kernel_rfl) 231 [(177, [8]), (178, [1]), (179, [16]), (180, [178, 179]), (181, [180]), (182, [181]), (183, [182]), (184, [1]), (185, [16]), (186, [184, 185]), (187, [186]), (188, [187]), (189, [188]), (190, [189]), (1014, [177, 183, 190])]
                    [Fact.is (.pointer (some ⟨g3 + 2, 0, none⟩)), Fact.is (.slice (some ad) m capm), Fact.is (.int .i64 (k : Int)), Fact.is (.pointer (some (Addr.add ad (k * 6)))), Fact.is (.pointer (some ⟨((Addr.add ad (k * 6))).block, ((Addr.add ad (k * 6))).off + 1, none⟩)), Fact.is (.int .i64 xa), Fact.is (.int .i64 (xa % 8)), Fact.is (.slice (some ad) m capm), Fact.is (.int .i64 (k : Int)), Fact.is (.pointer (some (Addr.add ad (k * 6)))), Fact.is (.pointer (some ⟨((Addr.add ad (k * 6))).block, ((Addr.add ad (k * 6))).off + 2, none⟩)), Fact.is (.int .u8 (xc.toNat : Int)), Fact.is (.int .u8 ((xc ^^^ 255).toNat : Int)), Fact.fl (xc ^^^ 255), default]
                    [1, 1, 1, 1, 1, 1, 1, 1, 1, 1, 1, 1, 1, 1, 2] [14] [] [177, 178, 179, 180, 181, 182, 183, 184, 185, 186, 187, 188, 189, 190, 191] ((fun _ _ w' => IsDev w' g3 ((runB (· ^^^ 255) F more k).write (xa % 8) (Plain.full (xc ^^^ 255))).1 ∧ Kept [g3 + 1, g3 + 2] wr w'))
                    (by kernel_rfl) (by kernel_rfl) rfl rfl ⟨?s0, ?s1, ?s2, ?s3, ?s4, ?s5, ?s6, ?s7, ?s8, ?s9, ?s10, ?s11, ?s12, ?s13, trivial⟩ ?late ?fin
                  case s0 =>
                    intro ρ W hb hc hf hr
                    obtain ⟨r8, -⟩ := hr
                    have e8 : ρ (.tmp 8) = .pointer (some ⟨g3 + 2, 0, none⟩) := r8
                    clear r8
                    refine under_none rfl ?_
                    exact ⟨e8, Below.refl _ _⟩
                  case s1 =>
                    intro ρ W hb hc hf hr
                    obtain ⟨r1, -⟩ := hr
                    have e1 : ρ (.tmp 1) = .slice (some ad) m capm := r1
                    clear r1
                    refine under_none rfl ?_
                    exact ⟨e1, Below.refl _ _⟩
                  case s2 =>
                    intro ρ W hb hc hf hr
                    obtain ⟨r16, -⟩ := hr
                    have e16 : ρ (.tmp 16) = .int .i64 (k : Int) := r16
                    clear r16
                    refine under_none rfl ?_
                    exact ⟨e16, Below.refl _ _⟩
                  case s3 =>
                    intro ρ W hb hc hf hr
                    obtain ⟨r178, r179, -⟩ := hr
                    have e178 : ρ (.tmp 178) = .slice (some ad) m capm := r178
                    clear r178
                    have e179 : ρ (.tmp 179) = .int .i64 (k : Int) := r179
                    clear r179
                    refine under_none rfl ?_
                    exact soft_index6 e178 e179 (by omega) rfl
                  case s4 =>
                    intro ρ W hb hc hf hr
                    obtain ⟨r180, -⟩ := hr
                    have e180 : ρ (.tmp 180) = .pointer (some (Addr.add ad (k * 6))) := r180
                    clear r180
                    refine under_none rfl ?_
                    exact soft_field e180 rfl (fun W => by go_simp)
                  case s5 =>
                    intro ρ W hb hc hf hr
                    obtain ⟨r181, -⟩ := hr
                    have e181 : ρ (.tmp 181) = .pointer (some ⟨((Addr.add ad (k * 6))).block, ((Addr.add ad (k * 6))).off + 1, none⟩) := r181
                    clear r181
                    refine under_none rfl ?_
                    exact soft_load e181 (HXA.out W (hbd.trans (hb.mono (by simp)))) rfl
                  case s6 =>
                    intro ρ W hb hc hf hr
                    obtain ⟨r182, -⟩ := hr
                    have e182 : ρ (.tmp 182) = .int .i64 xa := r182
                    clear r182
                    refine under_none rfl ?_
                    exact soft_bin e182 (hc _) rfl rfl (and7 W xa)
                  case s7 =>
                    intro ρ W hb hc hf hr
                    obtain ⟨r1, -⟩ := hr
                    have e1 : ρ (.tmp 1) = .slice (some ad) m capm := r1
                    clear r1
                    refine under_none rfl ?_
                    exact ⟨e1, Below.refl _ _⟩
                  case s8 =>
                    intro ρ W hb hc hf hr
                    obtain ⟨r16, -⟩ := hr
                    have e16 : ρ (.tmp 16) = .int .i64 (k : Int) := r16
                    clear r16
                    refine under_none rfl ?_
                    exact ⟨e16, Below.refl _ _⟩
                  case s9 =>
                    intro ρ W hb hc hf hr
                    obtain ⟨r184, r185, -⟩ := hr
                    have e184 : ρ (.tmp 184) = .slice (some ad) m capm := r184
                    clear r184
                    have e185 : ρ (.tmp 185) = .int .i64 (k : Int) := r185
                    clear r185
                    refine under_none rfl ?_
                    exact soft_index6 e184 e185 (by omega) rfl
                  case s10 =>
                    intro ρ W hb hc hf hr
                    obtain ⟨r186, -⟩ := hr
                    have e186 : ρ (.tmp 186) = .pointer (some (Addr.add ad (k * 6))) := r186
                    clear r186
                    refine under_none rfl ?_
                    exact soft_field e186 rfl (fun W => by go_simp)
                  case s11 =>
                    intro ρ W hb hc hf hr
                    obtain ⟨r187, -⟩ := hr
                    have e187 : ρ (.tmp 187) = .pointer (some ⟨((Addr.add ad (k * 6))).block, ((Addr.add ad (k * 6))).off + 2, none⟩) := r187
                    clear r187
                    refine under_none rfl ?_
                    exact soft_load e187 (HXC.out W (hbd.trans (hb.mono (by simp)))) rfl
                  case s12 =>
                    intro ρ W hb hc hf hr
                    obtain ⟨r188, -⟩ := hr
                    have e188 : ρ (.tmp 188) = .int .u8 (xc.toNat : Int) := r188
                    clear r188
                    refine under_none rfl ?_
                    exact soft_bin e188 (hc _) rfl rfl (xor255 W xc)
                  case s13 =>
                    intro ρ W hb hc hf hr
                    obtain ⟨r189, -⟩ := hr
                    have e189 : ρ (.tmp 189) = .int .u8 ((xc ^^^ 255).toNat : Int) := r189
                    clear r189
                    refine under_none rfl ?_
                    exact soft_fl hf e189 rfl
                  case late =>
                    intro p j o hj ho a W hsz h0 h1 hfr hou
                    match p, hj with
                    | 0, hj =>
                      obtain rfl : 14 = j := Option.some.inj hj
                      obtain rfl := Option.some.inj ho
                      clear hj ho
                      obtain ⟨hb, hhard⟩ := h0 rfl
                      have e177 : a.eval (.tmp 177) = .pointer (some ⟨g3 + 2, 0, none⟩) := hhard 177 0 rfl rfl
                      have e183 : a.eval (.tmp 183) = .int .i64 (xa % 8) := hhard 183 6 rfl rfl
                      have r190 : (Fact.fl (xc ^^^ 255)).φ (a.tmps.getD 190 undef) W := hhard 190 13 rfl rfl
                      clear h0 h1 hhard hfr hou
                      refine late_write (x := .tmp 177) (y := .tmp 183) (z := .tmp 190) rfl e177 e183 r190 (hbd.trans (hb.mono (by simp))) (by have := HE3.out.done; omega) HD3.out fun w' h1 h2 => ⟨_, rfl, h1, h2⟩
                    | q + 1, hj => cases hj
                  case fin =>
                    intro a w11 ha hP
                    obtain ⟨h1, h2⟩ := hP
                    have HD3 := Lib.hid h1
                    have z11 := h2.size
                    have HB := Lib.hid (h2.belowB HB.out zr (by simp; omega))
                    clear h1 h2
                    simp only [List.foldl_cons, List.foldl_nil] at ha
                    generalize a.tmps.getD 177 undef = v177 at ha
                    generalize a.tmps.getD 178 undef = v178 at ha
                    generalize a.tmps.getD 179 undef = v179 at ha
                    generalize a.tmps.getD 180 undef = v180 at ha
                    generalize a.tmps.getD 181 undef = v181 at ha
                    generalize a.tmps.getD 182 undef = v182 at ha
                    generalize a.tmps.getD 183 undef = v183 at ha
                    generalize a.tmps.getD 184 undef = v184 at ha
                    generalize a.tmps.getD 185 undef = v185 at ha
                    generalize a.tmps.getD 186 undef = v186 at ha
                    generalize a.tmps.getD 187 undef = v187 at ha
                    generalize a.tmps.getD 188 undef = v188 at ha
                    generalize a.tmps.getD 189 undef = v189 at ha
                    generalize a.tmps.getD 190 undef = v190 at ha
                    generalize a.tmps.getD 191 undef = v191 at ha
                    simp only [Act.put, List.setIfInBounds_toArray, List.set_cons_succ, List.set_cons_zero] at ha
                    subst ha
                    go_wp2
                    go_roundw
                    case rel =>
                      refine ⟨k + 1, by go_num, by omega, ?_, HB.out, by omega⟩
                      rw [HRS.out]; exact HD3.out
                    case measure => simp [RowKit.intOf]; omega
                · obtain rfl : m = k := by omega
                  have HKD := Lib.hid (runB_kept (· ^^^ 255) F (n + 1) HF8.out more m (by rw [HM.out]; exact hk))
                  obtain ⟨G0, hG⟩ : ∃ G, runB (· ^^^ 255) F more m = G := ⟨_, rfl⟩
                  rw [hG] at HD3 HE3 HKD
                  clear hG
                  go_wp2_with fail
                  refine (boot_any _ g3 G0 [] [] none none 0 0 0 0 rfl rfl (by unfold maxLen; omega) (by unfold maxLen; omega) Lies.nil Lies.nil (.inl rfl) (.inl rfl) nobits HD3.out).mono ?_
                  rintro e w11 ⟨rfl, h1, h2⟩
                  have HD3 := Lib.hid h1
                  have z11 := h2.size
                  have zd3 := HD3.out.lt
                  have HB := Lib.hid (h2.belowB HB.out zr (by simp; omega))
                  have zr11 := HB.out.size
                  clear h1 h2
                  have HSG := Lib.hid (show ∀ j, (G0.boot [] []).sec j = Plain.full (lastB l n j) from fun j => by
                    rw [Plain.boot_none, HKD.out, HKF.out, ← HDN.out]
                    exact runB_last l n (by rw [HN.out]; exact Nat.le_refl _) j)
                  have HNG := Lib.hid (show (G0.boot [] []).n = 8 from HE3.out.n)
                  have HFG := Lib.hid (HE3.out.free.boot [] [])
                  obtain ⟨G, hG⟩ : ∃ G, G0.boot [] [] = G := ⟨_, rfl⟩
                  rw [hG] at HD3 HSG HNG HFG
                  clear hG
                  have HRW := Lib.hid (Row8.new w11)
                  have HA11 := Lib.hid ((Below.refl w11.heap.size w11).alloc (Nat.le_refl _) (.cells #[.int .u8 0, .int .u8 0, .int .u8 0, .int .u8 0, .int .u8 0, .int .u8 0, .int .u8 0, .int .u8 0] 47))
                  have HD3 := Lib.hid (HD3.out.below HA11.out)
                  have HB := Lib.hid (HB.out.trans (HA11.out.mono (by omega)))
                  obtain ⟨q, hq⟩ : ∃ q, w11.heap.size = q := ⟨_, rfl⟩
                  go_wp2
                  try rw [hq]
                  simp only [hq] at HRW zd3 zr11
                  clear HA11
                  have hqg : q ∉ [g3, g3 + 1, g3 + 2] := by simp; omega
                  have hwq : w.heap.size ≤ q := by omega
                  have HL0 := Lib.hid (show Row8 _ q (lastB l 0) from HRW.out)
                  go_loopw [18] (fun s wr => ∃ k : Nat, s = .int .i64 (k : Int) ∧ k ≤ n ∧ IsDev wr g3 G ∧ Row8 wr q (lastB l k) ∧ Below w.heap.size w wr) (fun s _ => n - (RowKit.intOf s).toNat)
                  case atStart => exact ⟨0, rfl, Nat.zero_le _, HD3.out, HL0.out, HB.out⟩
                  case round =>
                    clear HD3 HB HL0 HRW
                    obtain ⟨k, rfl, hk, hd3, hrw, hB⟩ := hrel
                    have HD3 := Lib.hid hd3
                    have HB := Lib.hid hB
                    have HRW := Lib.hid hrw
                    have zr := hB.size
                    have zq := hrw.lt
                    clear hd3 hB hrw
                    by_cases hkn : k < n
                    · have hkl : k < l.length := by rw [HN.out]; exact hkn
                      obtain ⟨ad, rfl, hadb, hc⟩ := at_oq HA.out k hkl
                      have HRS := Lib.hid (lastB_succ l k hkl)
                      obtain ⟨x, hx⟩ : ∃ x, l[k] = x := ⟨_, rfl⟩
                      rw [hx] at hc HRS
                      obtain ⟨xw, xa, xc, xbA, xbc, xb, xkA, xkc, xk, xhA, xhc, xh⟩ := x
                      simp only at hc HRS
                      have HC := Lib.hid hc
                      have HXA := Lib.hid (fun (W : World) (hW : Below wr.heap.size wr W) => run_loadI W _ _ (HC.out W (HB.out.trans (hW.mono zr))).2.1)
                      have HXC := Lib.hid (fun (W : World) (hW : Below wr.heap.size wr W) => run_loadU8 W _ _ (HC.out W (HB.out.trans (hW.mono zr))).2.2.1)
                      obtain ⟨xi, hxe, hxi⟩ := Plain.mod8 xa
                      have HXI := Lib.hid (fun (W : World) => show (binOp .and 3 (.int .i64 xa) (.int .i64 7)).run Try.prog W = .ok (.int .i64 (xi : Int)) W by rw [and7 W xa, hxe])
                      rw [hxe, Int.toNat_natCast] at HRS
                      clear hc hx
                      have hbd : Below wr.heap.size wr wr.drew := (Below.refl _ _).drew
                      go_wp2
                      refine wp_late (by kernel_rfl) 231 [(200, [0]), (201, [18]), (202, [200, 201]), (203, [202]), (204, [203]), (205, [204]), (206, [0]), (207, [18]), (208, [206, 207]), (209, [208]), (210, [209]), (211, [17, 205]), (1012, [211, 210])]
                        [Fact.is (.slice (some ad) n cap), Fact.is (.int .i64 (k : Int)), Fact.is (.pointer (some (Addr.add ad (k * 6)))), Fact.is (.pointer (some ⟨((Addr.add ad (k * 6))).block, ((Addr.add ad (k * 6))).off + 1, none⟩)), Fact.is (.int .i64 xa), Fact.is (.int .i64 (xi : Int)), Fact.is (.slice (some ad) n cap), Fact.is (.int .i64 (k : Int)), Fact.is (.pointer (some (Addr.add ad (k * 6)))), Fact.is (.pointer (some ⟨((Addr.add ad (k * 6))).block, ((Addr.add ad (k * 6))).off + 2, none⟩)), Fact.is (.int .u8 (xc.toNat : Int)), Fact.is (.pointer (some ⟨q, xi, none⟩)), default]
                        [1, 1, 1, 1, 1, 1, 1, 1, 1, 1, 1, 1, 2] [12] [] [200, 201, 202, 203, 204, 205, 206, 207, 208, 209, 210, 211] ((fun _ _ w' => Row8 w' q (Plain.upd (lastB l k) xi xc) ∧ Kept [q] wr w'))
                        (by kernel_rfl) (by kernel_rfl) rfl rfl ⟨?s0, ?s1, ?s2, ?s3, ?s4, ?s5, ?s6, ?s7, ?s8, ?s9, ?s10, ?s11, trivial⟩ ?late ?fin
                      case s0 =>
                        intro ρ W hb hc hf hr
                        obtain ⟨r0, -⟩ := hr
                        have e0 : ρ (.tmp 0) = .slice (some ad) n cap := r0
                        clear r0
                        refine under_none rfl ?_
                        exact ⟨e0, Below.refl _ _⟩
                      case s1 =>
                        intro ρ W hb hc hf hr
                        obtain ⟨r18, -⟩ := hr
                        have e18 : ρ (.tmp 18) = .int .i64 (k : Int) := r18
                        clear r18
                        refine under_none rfl ?_
                        exact ⟨e18, Below.refl _ _⟩
                      case s2 =>
                        intro ρ W hb hc hf hr
                        obtain ⟨r200, r201, -⟩ := hr
                        have e200 : ρ (.tmp 200) = .slice (some ad) n cap := r200
                        clear r200
                        have e201 : ρ (.tmp 201) = .int .i64 (k : Int) := r201
                        clear r201
                        refine under_none rfl ?_
                        exact soft_index6 e200 e201 (by omega) rfl
                      case s3 =>
                        intro ρ W hb hc hf hr
                        obtain ⟨r202, -⟩ := hr
                        have e202 : ρ (.tmp 202) = .pointer (some (Addr.add ad (k * 6))) := r202
                        clear r202
                        refine under_none rfl ?_
                        exact soft_field e202 rfl (fun W => by go_simp)
                      case s4 =>
                        intro ρ W hb hc hf hr
                        obtain ⟨r203, -⟩ := hr
                        have e203 : ρ (.tmp 203) = .pointer (some ⟨((Addr.add ad (k * 6))).block, ((Addr.add ad (k * 6))).off + 1, none⟩) := r203
                        clear r203
                        refine under_none rfl ?_
                        exact soft_load e203 (HXA.out W (hbd.trans (hb.mono (by simp)))) rfl
                      case s5 =>
                        intro ρ W hb hc hf hr
                        obtain ⟨r204, -⟩ := hr
                        have e204 : ρ (.tmp 204) = .int .i64 xa := r204
                        clear r204
                        refine under_none rfl ?_
                        exact soft_bin e204 (hc _) rfl rfl (HXI.out W)
                      case s6 =>
                        intro ρ W hb hc hf hr
                        obtain ⟨r0, -⟩ := hr
                        have e0 : ρ (.tmp 0) = .slice (some ad) n cap := r0
                        clear r0
                        refine under_none rfl ?_
                        exact ⟨e0, Below.refl _ _⟩
                      case s7 =>
                        intro ρ W hb hc hf hr
                        obtain ⟨r18, -⟩ := hr
                        have e18 : ρ (.tmp 18) = .int .i64 (k : Int) := r18
                        clear r18
                        refine under_none rfl ?_
                        exact ⟨e18, Below.refl _ _⟩
                      case s8 =>
                        intro ρ W hb hc hf hr
                        obtain ⟨r206, r207, -⟩ := hr
                        have e206 : ρ (.tmp 206) = .slice (some ad) n cap := r206
                        clear r206
                        have e207 : ρ (.tmp 207) = .int .i64 (k : Int) := r207
                        clear r207
                        refine under_none rfl ?_
                        exact soft_index6 e206 e207 (by omega) rfl
                      case s9 =>
                        intro ρ W hb hc hf hr
                        obtain ⟨r208, -⟩ := hr
                        have e208 : ρ (.tmp 208) = .pointer (some (Addr.add ad (k * 6))) := r208
                        clear r208
                        refine under_none rfl ?_
                        exact soft_field e208 rfl (fun W => by go_simp)
                      case s10 =>
                        intro ρ W hb hc hf hr
                        obtain ⟨r209, -⟩ := hr
                        have e209 : ρ (.tmp 209) = .pointer (some ⟨((Addr.add ad (k * 6))).block, ((Addr.add ad (k * 6))).off + 2, none⟩) := r209
                        clear r209
                        refine under_none rfl ?_
                        exact soft_load e209 (HXC.out W (hbd.trans (hb.mono (by simp)))) rfl
                      case s11 =>
                        intro ρ W hb hc hf hr
                        obtain ⟨r17, r205, -⟩ := hr
                        have e17 : ρ (.tmp 17) = .pointer (some ⟨q, 0, none⟩) := r17
                        clear r17
                        have e205 : ρ (.tmp 205) = .int .i64 (xi : Int) := r205
                        clear r205
                        refine under_none rfl ?_
                        exact soft_index e17 e205 (run_index8 W q xi hxi) rfl
                      case late =>
                        intro p j o hj ho a W hsz h0 h1 hfr hou
                        match p, hj with
                        | 0, hj =>
                          obtain rfl : 12 = j := Option.some.inj hj
                          obtain rfl := Option.some.inj ho
                          clear hj ho
                          obtain ⟨hb, hhard⟩ := h0 rfl
                          have e211 : a.eval (.tmp 211) = .pointer (some ⟨q, xi, none⟩) := hhard 211 11 rfl rfl
                          have e210 : a.eval (.tmp 210) = .int .u8 (xc.toNat : Int) := hhard 210 10 rfl rfl
                          clear h0 h1 hhard hfr hou
                          have hbW : Below wr.heap.size wr W := hbd.trans (hb.mono (by simp))
                          refine late_store (x := .tmp 211) (y := .tmp 210) (w' := W.setCell ⟨q, xi, none⟩ (.int .u8 (xc.toNat : Int))) rfl (by rw [e211, e210]; exact run_storeU8 W _ _ _ ((HRW.out.below hbW).cell hxi) ((HRW.out.below hbW).frozen xi)) ⟨undef, rfl, (HRW.out.below hbW).set hxi xc, (Kept.of hbW [q]).setCell (by simp) _⟩
                        | q + 1, hj => cases hj
                      case fin =>
                        intro a w12 ha hP
                        obtain ⟨h1, h2⟩ := hP
                        have HRW := Lib.hid h1
                        have HD3 := Lib.hid (HD3.out.keep h2 (by simp; omega) (by simp; omega) (by simp; omega))
                        have HB := Lib.hid (h2.belowB HB.out zr (by simp; omega))
                        clear h1 h2
                        simp only [List.foldl_cons, List.foldl_nil] at ha
                        generalize a.tmps.getD 200 undef = v200 at ha
                        generalize a.tmps.getD 201 undef = v201 at ha
                        generalize a.tmps.getD 202 undef = v202 at ha
                        generalize a.tmps.getD 203 undef = v203 at ha
                        generalize a.tmps.getD 204 undef = v204 at ha
                        generalize a.tmps.getD 205 undef = v205 at ha
                        generalize a.tmps.getD 206 undef = v206 at ha
                        generalize a.tmps.getD 207 undef = v207 at ha
                        generalize a.tmps.getD 208 undef = v208 at ha
                        generalize a.tmps.getD 209 undef = v209 at ha
                        generalize a.tmps.getD 210 undef = v210 at ha
                        generalize a.tmps.getD 211 undef = v211 at ha
                        simp only [Act.put, List.setIfInBounds_toArray, List.set_cons_succ, List.set_cons_zero] at ha
                        subst ha
                        go_wp2
                        go_roundw
                        case rel =>
                          refine ⟨k + 1, by go_num, by omega, HD3.out, ?_, HB.out⟩
                          rw [HRS.out]; exact HRW.out
                        case measure => simp [RowKit.intOf]; omega
                    · obtain rfl : n = k := by omega
                      go_wp2
                      go_loopw [19] (fun s wr => ∃ k : Nat, s = .int .i64 (k : Int) ∧ k ≤ 8 ∧ IsDev wr g3 G ∧ Row8 wr q (lastB l n) ∧ Below w.heap.size w wr) (fun s _ => 8 - (RowKit.intOf s).toNat)
                      case atStart => exact ⟨0, rfl, Nat.zero_le _, HD3.out, HRW.out, HB.out⟩
                      case round =>
                        clear HD3 HB HRW
                        obtain ⟨i, rfl, hi, hd3, hrw, hB⟩ := hrel
                        have HD3 := Lib.hid hd3
                        have HB := Lib.hid hB
                        have HRW := Lib.hid hrw
                        have zr := hB.size
                        have zq := hrw.lt
                        clear hd3 hB hrw
                        by_cases hi8 : i < 8
                        · have hi1 : (i : Int) < 8 := by omega
                          have HR1 := Lib.hid (read_any wr g3 G (i : Int) HD3.out)
                          rw [HFG.out.read i (by rw [HNG.out]; exact hi8), HSG.out] at HR1
                          obtain ⟨c, hc⟩ : ∃ c, lastB l n i = c := ⟨_, rfl⟩
                          have HCI := Lib.hid hc
                          rw [hc] at HR1
                          clear hc
                          go_wp2_with fail
                          refine HR1.out.mono ?_
                          intro e wa hg
                          obtain ⟨A8, cap8, rfl, la, hBa⟩ := hg.text
                          rw [Plain.full_length]
                          have za := hBa.size
                          have HB := Lib.hid (HB.out.trans (hBa.mono zr))
                          have HD3 := Lib.hid (HD3.out.below hBa)
                          have HRW := Lib.hid (HRW.out.below hBa)
                          have HL8 := Lib.hid la
                          have HLC := Lib.hid (fun (W : World) (hW : Below wa.heap.size wa W) => run_loadU8 W ⟨q, i, none⟩ (c.toNat : Int) (by have := (HRW.out.below hW).cell hi8; rwa [HCI.out] at this))
                          clear hg la hBa
                          have hbd : Below wa.heap.size wa wa.drew := (Below.refl _ _).drew
                          go_wp2
                          refine wp_softS (by kernel_rfl) 231 [(222, [20]), (223, [222]), (224, [19]), (225, [17, 224]), (226, [225]), (227, [226]), (228, [227]), (229, [223, 228])]
                            [Fact.is (.slice A8 64 cap8), Fact.is (.string (str (Plain.full c))), Fact.is (.int .i64 (i : Int)), Fact.is (.pointer (some ⟨q, i, none⟩)), Fact.is (.int .u8 (c.toNat : Int)), Fact.lie 64 (cells (Plain.full c)), Fact.is (.string (str (Plain.full c))), Fact.is (.bool false)]
                            (by kernel_rfl) rfl rfl ⟨?s0, ?s1, ?s2, ?s3, ?s4, ?s5, ?s6, ?s7, trivial⟩ ?fin
                          case s0 =>
                            intro ρ W hb hc hf hr
                            obtain ⟨r20, -⟩ := hr
                            have e20 : ρ (.tmp 20) = .slice A8 64 cap8 := r20
                            clear r20
                            refine under_none rfl ?_
                            exact ⟨e20, Below.refl _ _⟩
                          case s1 =>
                            intro ρ W hb hc hf hr
                            obtain ⟨r222, -⟩ := hr
                            have e222 : ρ (.tmp 222) = .slice A8 64 cap8 := r222
                            clear r222
                            refine under_none rfl ?_
                            exact soft_conv e222 (conv_lies (HL8.out.below (hbd.trans (hb.mono (by simp)))) (Plain.full_length c)) rfl
                          case s2 =>
                            intro ρ W hb hc hf hr
                            obtain ⟨r19, -⟩ := hr
                            have e19 : ρ (.tmp 19) = .int .i64 (i : Int) := r19
                            clear r19
                            refine under_none rfl ?_
                            exact ⟨e19, Below.refl _ _⟩
                          case s3 =>
                            intro ρ W hb hc hf hr
                            obtain ⟨r17, r224, -⟩ := hr
                            have e17 : ρ (.tmp 17) = .pointer (some ⟨q, 0, none⟩) := r17
                            clear r17
                            have e224 : ρ (.tmp 224) = .int .i64 (i : Int) := r224
                            clear r224
                            refine under_none rfl ?_
                            exact soft_index e17 e224 (run_index8 W q i hi8) rfl
                          case s4 =>
                            intro ρ W hb hc hf hr
                            obtain ⟨r225, -⟩ := hr
                            have e225 : ρ (.tmp 225) = .pointer (some ⟨q, i, none⟩) := r225
                            clear r225
                            refine under_none rfl ?_
                            exact soft_load e225 (HLC.out W (hbd.trans (hb.mono (by simp)))) rfl
                          case s5 =>
                            intro ρ W hb hc hf hr
                            obtain ⟨r226, -⟩ := hr
                            have e226 : ρ (.tmp 226) = .int .u8 (c.toNat : Int) := r226
                            clear r226
                            refine under_none rfl ?_
                            exact soft_full hf e226 rfl
                          case s6 =>
                            intro ρ W hb hc hf hr
                            obtain ⟨r227, -⟩ := hr
                            refine under_none rfl ?_
                            exact soft_convL r227 (Plain.full_length c) rfl
                          case s7 =>
                            intro ρ W hb hc hf hr
                            obtain ⟨r223, r228, -⟩ := hr
                            have e223 : ρ (.tmp 223) = .string (str (Plain.full c)) := r223
                            clear r223
                            have e228 : ρ (.tmp 228) = .string (str (Plain.full c)) := r228
                            clear r228
                            refine under_none rfl ?_
                            exact soft_bin e223 e228 rfl rfl (ne_text W _)
                          case fin =>
                            intro a w1 hb hd hsz hk
                            have ea := act_puts hd hsz rfl hk
                            have k222 : a.tmps.getD 222 undef = .slice A8 64 cap8 := hk 222
                            have k223 : a.tmps.getD 223 undef = .string (str (Plain.full c)) := hk 223
                            have k224 : a.tmps.getD 224 undef = .int .i64 (i : Int) := hk 224
                            have k225 : a.tmps.getD 225 undef = .pointer (some ⟨q, i, none⟩) := hk 225
                            have k226 : a.tmps.getD 226 undef = .int .u8 (c.toNat : Int) := hk 226
                            have k227 : (Fact.lie 64 (cells (Plain.full c))).φ (a.tmps.getD 227 undef) w1 := hk 227
                            have k228 : a.tmps.getD 228 undef = .string (str (Plain.full c)) := hk 228
                            have k229 : a.tmps.getD 229 undef = .bool false := hk 229
                            clear hk hd hsz
                            simp only [List.map_cons, List.map_nil, List.foldl_cons, List.foldl_nil, k222, k223, k224, k225, k226, k228, k229] at ea
                            clear k222 k223 k224 k225 k226 k228 k229
                            generalize a.tmps.getD 227 undef = v227 at ea k227
                            simp only [Act.put, List.setIfInBounds_toArray, List.set_cons_succ, List.set_cons_zero] at ea
                            subst ea
                            have dV := hbd.trans (hb.mono (by simp))
                            go_wp2
                            go_roundw
                            case rel => exact ⟨i + 1, by go_num, by omega, HD3.out.below dV, HRW.out.below dV, HB.out.trans (dV.mono (by omega))⟩
                            case measure => simp [RowKit.intOf]; omega
                        · obtain rfl : i = 8 := by omega
                          go_wp2
                          go_returns
                          exact ⟨rfl, HB.out⟩


set_option maxRecDepth 100000 in
theorem lifted (os : Os) (started : os.Started) (H : Type) (enc : TypeId × Value → H) :
    ReturnsInHanded {} Try.checked os 8 .any (Rows.devBootsSpec.pre6 enc Try.prog Try.f8 Rows.devBootsRow.domain false) (Rows.devBootsSpec.post enc Try.prog Try.f8 false true false false) := by
  refine returnsInHanded_of_change (C := Try.checked) own started (by kernel_rfl) Try.func8
    (ChangeSpec.witness6 (enc := enc) (C := Try.checked) false ⟨#[], #[.slice none 0 0, .slice none 0 0], []⟩ 8 (by kernel_rfl) (by kernel_rfl) (by kernel_rfl) (by kernel_rfl)) ?_
  intro W base args ds gs before hval0 hW hcnd _
  have hval : ∀ (j : Nat) t v, Try.f8.params[j]? = some t → args[j]? = some v → Value.okWide Try.prog W .any base t v := hval0
  have hfin := fun W' => law_post (enc := enc) (P := Try.prog) (f := Try.f8) (s := Rows.devBootsSpec) (tb := 4) (W := W) (W' := W') (args := args) (ds := ds) (gs := gs) (before := before) laidOut rfl (by kernel_rfl) Try.underlying4 (by kernel_rfl) (fun xs h => by rw [Try.params8] at h; match xs, h with | [_, _], _ => rfl) hW
  have hlt : ∀ x ∈ before, x.block < W.heap.size := fun x hx => hW.lt x hx
  obtain ⟨p, q, hA0, hV, rfl, hfz, hnd⟩ := hW
  have hA : DataW.TrodAll enc Try.prog W 0 (fun _ => true) true Try.f8.params.toList args.toList ds p := hA0
  rw [Try.params8] at hA hval
  obtain ⟨v0, vs0, d0, ds0, p0, q0, hargs, rfl, rfl, h0, r0⟩ := trodAll_cons hA
  obtain ⟨v1, vs1, d1, ds1, p1, q1, rfl, rfl, rfl, h1, r1⟩ := trodAll_cons r0
  obtain ⟨rfl, rfl, rfl⟩ := trodAll_nil r1
  obtain rfl : args = #[v0, v1] := by cases args; simp_all
  obtain ⟨A0, cap0, l0, rfl, hl0, hm0, hB0, hQ0⟩ := open_oqs (hval 0 22 v0 rfl rfl) h0 (fun x hx => hlt x (by simp [hx]))
  obtain ⟨A1, cap1, l1, rfl, hl1, hm1, hB1, hQ1⟩ := open_oqs (hval 1 22 v1 rfl rfl) h1 (fun x hx => hlt x (by simp [hx]))
  refine (walk W A0 cap0 l0 hl0 hm0 hB0 hQ0 A1 cap1 l1 hl1 hm1 hB1 hQ1).mono fun e W' ⟨he, hg⟩ => ?_
  subst he
  exact ⟨_, rfl, hfin W' hg⟩

theorem proved : Rows.DevBootsSaid :=
  OpenClaim.holds_of_wide 8 Try.f8 rfl rfl rfl rfl rfl rfl rfl ⟨rfl, rfl, rfl, rfl, rfl⟩ rfl rfl rfl rfl rfl (by kernel_rfl) Try.func8 (by kernel_rfl)
    (of_decide_eq_true (by kernel_rfl)) (by unfold Func.isWrapper; first | (rw [if_pos (by decide +kernel)]; kernel_rfl) | (rw [if_neg (by decide +kernel)]; exact ⟨rfl, rfl⟩))
    (fun os started H enc _ => lifted os started H enc)
#print axioms proved
end Go.Proofs.Ytldecmodhppjpaa.devBoots
