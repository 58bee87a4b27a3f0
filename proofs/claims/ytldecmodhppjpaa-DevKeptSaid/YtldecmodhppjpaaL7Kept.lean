/-
  What was written ahead of a Flush that was OK is there behind a Boot, or what was written last: the law DevKept returns true at any input, and leaves what it was given as it was. Nothing is assumed.
-/
import Derived.Test.YtldecmodhppjpaaLwK

namespace Go.Proofs.Ytldecmodhppjpaa.devKept
open Go.ChangeShapes Go.WideShapes Go.ChangeAt Go.RowKit
set_option maxRecDepth 100000

theorem stay {w w' : World} {b : Nat} {cs : Array Value} {t : TypeId} (h : Blk w b cs t) (k : Below w.heap.size w w') : Blk w' b cs t := (Kept.of k []).blk h (by simp)
theorem nobits : ∀ h ∈ ([] : List Plain.Hu), h.bits < 4294967296 := by intro h hh; simp at hh

/-- behind a Write that is looked at -/
def WrP (g : Nat) (R : Plain.Dv × Nat) (w0 : World) (p : Nat) (vs : List Value) (w' : World) : Prop := IsDev w' g R.1 ∧ Kept [g + 1, g + 2] w0 w' ∧ vs[0]? = some (.int .i64 (R.2 : Int)) ∧ (p = 2 → vs[1]? = some (.bool ((R.2 : Int) == 0)))

set_option maxHeartbeats 8000000 in
theorem walk (w : World) (A : Option Addr) (cap : Nat) (l : List Oq) (hl : l.length ≤ cap) (hm : cap ≤ maxLen) (hA : Lies w A (flatQ l)) (hQ : ∀ u ∈ l, OqIn w u) (B : Option Addr) (capk : Nat) (keep : List Bool) (_hlk : keep.length ≤ capk) (_hmk : capk ≤ maxLen) (hB : Lies w B (bools keep)) :
    Calls Try.prog 4 #[.slice A l.length cap, .slice B keep.length capk] w fun e w' => e = .returned (.bool true) ∧ Below w.heap.size w w' := by
  obtain ⟨n, hn⟩ : ∃ n, l.length = n := ⟨_, rfl⟩
  obtain ⟨kn, hkn⟩ : ∃ m, keep.length = m := ⟨_, rfl⟩
  have HN := Lib.hid hn
  have HKN := Lib.hid hkn
  have HA := Lib.hid hA
  have HBB := Lib.hid hB
  have HQ := Lib.hid hQ
  rw [hn] at hl
  rw [hn, hkn]
  unfold maxLen at hm
  clear hn hkn hA hB hQ
  go_enter Try.func4, Try.ntmps4
  go_wp2_with fail
  refine (head_any w).mono ?_
  rintro e w0 ⟨rfl, hB0⟩
  go_wp2_with fail
  refine Calls.mono (show Calls Try.prog 11 #[.int .i64 8] w0 _ from newDev_yes 8 w0 (by omega) (by omega)) ?_
  rintro e w1 ⟨rfl, hd1, hB1⟩
  obtain ⟨g, hg⟩ : ∃ g, w0.heap.size = g := ⟨_, rfl⟩
  have z0 := hB0.size
  rw [hg] at hd1 hB1 z0 ⊢
  have z1 := hd1.lt
  have HB1 := Lib.hid (hB0.trans (hB1.mono z0))
  have HD1 := Lib.hid hd1
  clear hd1 hB1 hB0 hg
  have HG := Lib.hid (great_any A n cap l w1 HN.out (by unfold maxLen; omega) (HA.out.below HB1.out))
  go_wp2_with fail
  refine HG.out.mono ?_
  rintro e w2 ⟨r, rfl, hr, hB2⟩
  have z2 := hB2.size
  have HD2 := Lib.hid (HD1.out.below hB2)
  have HB2 := Lib.hid (HB1.out.trans (hB2.mono (by omega)))
  have HR := Lib.hid hr
  clear hB2 hr
  rcases r with _ | _
  case true =>
    go_wp2
    go_returns
    exact ⟨rfl, HB2.out⟩
  have hn2 : n ≤ 200 := HR.out rfl
  by_cases h9 : kn ≤ 900
  case neg =>
    have t1 : decide ((900 : Int) < (kn : Int)) = true := by simp; omega
    go_wp2
    go_returns
    exact ⟨rfl, HB2.out⟩
  have t1 : decide ((900 : Int) < (kn : Int)) = false := by simp; omega
  clear HR HG HD1 HB1
  have HK8 := Lib.hid (Row8.new w2)
  have HA1 := Lib.hid ((Below.refl w2.heap.size w2).alloc (Nat.le_refl _) (.cells #[.int .u8 0, .int .u8 0, .int .u8 0, .int .u8 0, .int .u8 0, .int .u8 0, .int .u8 0, .int .u8 0] 47))
  obtain ⟨w3, hw3⟩ : ∃ w3, w2.alloc (.cells #[.int .u8 0, .int .u8 0, .int .u8 0, .int .u8 0, .int .u8 0, .int .u8 0, .int .u8 0, .int .u8 0] 47) = w3 := ⟨_, rfl⟩
  have hz3 : w3.heap.size = w2.heap.size + 1 := by rw [← hw3]; simp
  rw [hw3] at HA1 HK8
  have HL8 := Lib.hid (Row8.new w3)
  have HA2 := Lib.hid ((Below.refl w3.heap.size w3).alloc (Nat.le_refl _) (.cells #[.int .u8 0, .int .u8 0, .int .u8 0, .int .u8 0, .int .u8 0, .int .u8 0, .int .u8 0, .int .u8 0] 47))
  have HK8 := Lib.hid (HK8.out.below HA2.out)
  have HD3 := Lib.hid ((HD2.out.below HA1.out).below HA2.out)
  have HB3 := Lib.hid (HB2.out.trans ((HA1.out.trans (HA2.out.mono (by omega))).mono (by omega)))
  obtain ⟨q, hq⟩ : ∃ q, w2.heap.size = q := ⟨_, rfl⟩
  rw [hz3] at HL8
  simp only [hq] at HK8 HL8 z2
  clear HA1 HA2
  go_wp2
  go_loopw [9] (fun s wr => ∃ k : Nat, s = .int .i64 (k : Int) ∧ k ≤ n ∧ (∃ (d : Plain.Dv) (Lk La : Nat → UInt8), IsDev wr g d ∧ Plain.KR d k Lk La ∧ Row8 wr q Lk ∧ Row8 wr (q + 1) La) ∧ Below w.heap.size w wr) (fun s _ => n - (RowKit.intOf s).toNat)
  case atStart => exact ⟨0, rfl, Nat.zero_le _, ⟨_, _, _, HD3.out, Plain.KR.new, HK8.out, HL8.out⟩, HB3.out⟩
  case round =>
    clear HD2 HD3 HB2 HB3 HK8 HL8
    obtain ⟨k, rfl, hk, ⟨d, Lk, La, hd, hkr, hk8, hl8⟩, hB⟩ := hrel
    have HD := Lib.hid hd
    have HB := Lib.hid hB
    have HKR := Lib.hid hkr
    have HK8 := Lib.hid hk8
    have HL8 := Lib.hid hl8
    have zr := hB.size
    have zq := hl8.lt
    clear hd hB hkr hk8 hl8
    by_cases hkn : k < n
    · have hkl : k < l.length := by rw [HN.out]; exact hkn
      obtain ⟨ad, rfl, hadb, hc⟩ := at_oq (HA.out.below HB.out) k hkl
      have HQI := Lib.hid (HQ.out _ (List.getElem_mem hkl))
      obtain ⟨x, hx⟩ : ∃ x, l[k] = x := ⟨_, rfl⟩
      rw [hx] at hc HQI
      have hx0 := HQI.out.at0
      have hx1 := HQI.out.at1
      obtain ⟨xw, xa, xc, xbA, xbc, xb, xkA, xkc, xk, xhA, xhc, xh⟩ := x
      simp only at hc hx0 hx1
      obtain ⟨c0, c1, c2, c3, c4, c5⟩ := hc wr (Below.refl _ _)
      clear hc hx
      have hB6 := (Below.refl wr.heap.size wr).alloc (Nat.le_refl _) (.cells #[.int .i64 xw, .int .i64 xa, .int .u8 (xc.toNat : Int), .slice xbA xb.length xbc, .slice xkA xk.length xkc, .slice xhA xh.length xhc] 33)
      have HBO := Lib.hid (Blk.new wr #[.int .i64 xw, .int .i64 xa, .int .u8 (xc.toNat : Int), .slice xbA xb.length xbc, .slice xkA xk.length xkc, .slice xhA xh.length xhc] 33)
      obtain ⟨wo, hwo⟩ : ∃ wo, wr.alloc (.cells #[.int .i64 xw, .int .i64 xa, .int .u8 (xc.toNat : Int), .slice xbA xb.length xbc, .slice xkA xk.length xkc, .slice xhA xh.length xhc] 33) = wo := ⟨_, rfl⟩
      rw [hwo] at hB6 HBO
      have zo := hB6.size
      have HB := Lib.hid (HB.out.trans (hB6.mono zr))
      have HD := Lib.hid (HD.out.below hB6)
      have HK8 := Lib.hid (HK8.out.below hB6)
      have HL8 := Lib.hid (HL8.out.below hB6)
      obtain ⟨bo, hbo⟩ : ∃ b, wr.heap.size = b := ⟨_, rfl⟩
      simp only [hbo] at HBO zq zr zo
      have o0 : wo.cell? ⟨bo, 0, none⟩ = some (.int .i64 xw) := HBO.out.cell 0
      have o1 : wo.cell? ⟨bo, 1, none⟩ = some (.int .i64 xa) := HBO.out.cell 1
      have o2 : wo.cell? ⟨bo, 2, none⟩ = some (.int .u8 (xc.toNat : Int)) := HBO.out.cell 2
      have hdn := HKR.out.done
      have hlt := HD.out.lt
      clear hB6
      by_cases h4 : xw = 4
      · subst h4
        clear HBO
        go_wp2_with fail
        refine (flush_any wo g d (by omega) HD.out).mono ?_
        rintro e w5 ⟨rfl, h1, h2⟩
        have HD5 := Lib.hid h1
        have z5 := h2.size
        have HB5 := Lib.hid (h2.belowB HB.out (by omega) (by simp; omega))
        have HK8 := Lib.hid (HK8.out.kept h2 (by simp; omega))
        have HL8 := Lib.hid (HL8.out.kept h2 (by simp; omega))
        clear h1 h2
        rcases HKR.out.flush with ⟨e0, hkr⟩ | ⟨e0, hkr⟩
        · have HKR5 := Lib.hid hkr
          rw [e0]
          clear hkr
          go_wp2_with (first
            | (refine wpList_load8 rfl _ rfl (q + 1) rfl La HL8.out ?_)
            | (refine wpList_store8 rfl _ _ rfl q rfl Lk La rfl HK8.out ?_; intro w6 h8 hk6))
          have z6 := hk6.size
          have HD6 := Lib.hid (HD5.out.keep hk6 (by simp; omega) (by simp; omega) (by simp; omega))
          have HB6 := Lib.hid (hk6.belowB HB5.out (by omega) (by simp; omega))
          have HL8 := Lib.hid (HL8.out.kept hk6 (by simp))
          have HK8 := Lib.hid h8
          clear hk6 h8
          try go_wp2
          go_roundw
          case rel => exact ⟨k + 1, by go_num, by omega, ⟨_, La, La, HD6.out, HKR5.out, HK8.out, HL8.out⟩, HB6.out⟩
          case measure => simp [RowKit.intOf]; omega
        · have HKR5 := Lib.hid hkr
          obtain ⟨er, her⟩ : ∃ er, d.flush.2 = er := ⟨_, rfl⟩
          rw [her] at e0 ⊢
          have t2 : ((er : Int) == 0) = false := by simp; omega
          clear hkr her
          go_wp2
          go_roundw
          case rel => exact ⟨k + 1, by go_num, by omega, ⟨_, Lk, La, HD5.out, HKR5.out, HK8.out, HL8.out⟩, HB5.out⟩
          case measure => simp [RowKit.intOf]; omega
      · have t4 : (xw == 4) = false := by simpa using h4
        by_cases h6 : xw = 6
        · subst h6
          go_wp2_with fail
          refine (cutAt_any (w := wo) (g := g) (d := d) xa hx1 HD.out).mono ?_
          rintro e w5 ⟨rfl, h1, h2⟩
          have HD5 := Lib.hid h1
          have HB5 := Lib.hid (h2.belowB HB.out (by omega) (by simp; omega))
          have HK8 := Lib.hid (HK8.out.kept h2 (by simp; omega))
          have HL8 := Lib.hid (HL8.out.kept h2 (by simp; omega))
          have HKR5 := Lib.hid (HKR.out.cutAt xa hx1)
          clear h1 h2
          go_wp2
          go_roundw
          case rel => exact ⟨k + 1, by go_num, by omega, ⟨_, Lk, La, HD5.out, HKR5.out, HK8.out, HL8.out⟩, HB5.out⟩
          case measure => simp [RowKit.intOf]; omega
        · have t6 : (xw == 6) = false := by simpa using h6
          by_cases h0 : xw = 0
          · subst h0
            have hbd : Below wo.heap.size wo wo.drew := (Below.refl _ _).drew
            have HO1 := Lib.hid (fun (W : World) (hW : Below wo.heap.size wo W) => run_loadI W ⟨bo, 1, none⟩ xa ((stay HBO.out hW).cell 1))
            have HO2 := Lib.hid (fun (W : World) (hW : Below wo.heap.size wo W) => run_loadU8 W ⟨bo, 2, none⟩ (xc.toNat : Int) ((stay HBO.out hW).cell 2))
            go_wp2
            refine wp_late (by kernel_rfl) 164 [(63, [6]), (64, [10]), (65, [64]), (66, [10]), (67, [66]), (68, [67]), (1006, [63, 65, 68]), (1007, [69])]
              [Fact.is (.pointer (some ⟨g + 2, 0, none⟩)), Fact.is (.pointer (some ⟨bo, 1, none⟩)), Fact.is (.int .i64 xa), Fact.is (.pointer (some ⟨bo, 2, none⟩)), Fact.is (.int .u8 (xc.toNat : Int)), Fact.fl xc, default, default]
              [1, 1, 1, 1, 1, 1, 2, 2] [6, 7] [69, 70] [63, 64, 65, 66, 67, 68, 69, 70] (WrP g (d.write xa (Plain.full xc)) wo)
              (by kernel_rfl) (by kernel_rfl) rfl rfl ⟨?s0, ?s1, ?s2, ?s3, ?s4, ?s5, trivial⟩ ?late ?fin
            case s0 =>
              intro ρ W hb hc hf hr
              obtain ⟨r6, -⟩ := hr
              have e6 : ρ (.tmp 6) = .pointer (some ⟨g + 2, 0, none⟩) := r6
              clear r6
              refine under_none rfl ?_
              exact ⟨e6, Below.refl _ _⟩
            case s1 =>
              intro ρ W hb hc hf hr
              obtain ⟨r10, -⟩ := hr
              have e10 : ρ (.tmp 10) = .pointer (some ⟨bo, 0, none⟩) := r10
              clear r10
              refine under_none rfl ?_
              exact soft_field e10 rfl (fun W => by go_simp)
            case s2 =>
              intro ρ W hb hc hf hr
              obtain ⟨r64, -⟩ := hr
              have e64 : ρ (.tmp 64) = .pointer (some ⟨bo, 1, none⟩) := r64
              clear r64
              refine under_none rfl ?_
              exact soft_load e64 (HO1.out W (hbd.trans (hb.mono (by simp)))) rfl
            case s3 =>
              intro ρ W hb hc hf hr
              obtain ⟨r10, -⟩ := hr
              have e10 : ρ (.tmp 10) = .pointer (some ⟨bo, 0, none⟩) := r10
              clear r10
              refine under_none rfl ?_
              exact soft_field e10 rfl (fun W => by go_simp)
            case s4 =>
              intro ρ W hb hc hf hr
              obtain ⟨r66, -⟩ := hr
              have e66 : ρ (.tmp 66) = .pointer (some ⟨bo, 2, none⟩) := r66
              clear r66
              refine under_none rfl ?_
              exact soft_load e66 (HO2.out W (hbd.trans (hb.mono (by simp)))) rfl
            case s5 =>
              intro ρ W hb hc hf hr
              obtain ⟨r67, -⟩ := hr
              have e67 : ρ (.tmp 67) = .int .u8 (xc.toNat : Int) := r67
              clear r67
              refine under_none rfl ?_
              exact soft_fl hf e67 rfl
            case late =>
              intro p j o hj ho a W hsz h0 h1 hfr hou
              match p, hj with
              | 0, hj =>
                obtain rfl : 6 = j := Option.some.inj hj
                obtain rfl := Option.some.inj ho
                clear hj ho
                obtain ⟨hb, hhard⟩ := h0 rfl
                have e63 : a.eval (.tmp 63) = .pointer (some ⟨g + 2, 0, none⟩) := hhard 63 0 rfl rfl
                have e65 : a.eval (.tmp 65) = .int .i64 xa := hhard 65 2 rfl rfl
                have r68 : (Fact.fl xc).φ (a.tmps.getD 68 undef) W := hhard 68 5 rfl rfl
                clear h0 h1 hhard hfr hou
                refine late_write (x := .tmp 63) (y := .tmp 65) (z := .tmp 68) rfl e63 e65 r68 (hbd.trans (hb.mono (by simp))) (by omega) HD.out fun w' h1 h2 => ⟨_, rfl, h1, h2, by simp [Act.put, Array.getD_eq_getD_getElem?, hsz], fun h => absurd h (by omega)⟩
              | 1, hj =>
                obtain rfl : 7 = j := Option.some.inj hj
                obtain rfl := Option.some.inj ho
                clear hj ho
                have hP := h1 (by omega)
                clear h0 h1 hfr hou
                obtain ⟨h1, h2, h3, -⟩ := hP
                have e69' : a.tmps.getD 69 undef = .int .i64 (((d.write xa (Plain.full xc)).2 : Nat) : Int) := by simpa using h3
                have e69 : a.eval (.tmp 69) = .int .i64 (((d.write xa (Plain.full xc)).2 : Nat) : Int) := e69'
                refine late_bin rfl e69 rfl rfl (eq_errno W _ 0 _ rfl) ⟨_, rfl, h1, h2, ?_, fun _ => by simp [Act.put, Array.getD_eq_getD_getElem?, hsz]⟩
                rw [Array.getD_eq_getD_getElem?] at e69'
                simp [Act.put, Array.getD_eq_getD_getElem?, e69']
              | q + 2, hj => cases hj
            case fin =>
              intro a w5 ha hP
              obtain ⟨h1, h2, h3, h4⟩ := hP
              have e69 : a.tmps.getD 69 undef = .int .i64 (((d.write xa (Plain.full xc)).2 : Nat) : Int) := by simpa using h3
              have e70 : a.tmps.getD 70 undef = .bool ((((d.write xa (Plain.full xc)).2 : Nat) : Int) == 0) := by simpa using h4 rfl
              have HD5 := Lib.hid h1
              have z5 := h2.size
              have HB5 := Lib.hid (h2.belowB HB.out (by omega) (by simp; omega))
              have HK8 := Lib.hid (HK8.out.kept h2 (by simp; omega))
              have HL8 := Lib.hid (HL8.out.kept h2 (by simp; omega))
              have HBO := Lib.hid (h2.blk HBO.out (by simp; omega))
              clear h1 h2 h3 h4
              simp only [List.foldl_cons, List.foldl_nil, e69, e70] at ha
              clear e69 e70
              generalize a.tmps.getD 63 undef = v63 at ha
              generalize a.tmps.getD 64 undef = v64 at ha
              generalize a.tmps.getD 65 undef = v65 at ha
              generalize a.tmps.getD 66 undef = v66 at ha
              generalize a.tmps.getD 67 undef = v67 at ha
              generalize a.tmps.getD 68 undef = v68 at ha
              simp only [Act.put, List.setIfInBounds_toArray, List.set_cons_succ, List.set_cons_zero] at ha
              subst ha
              rcases HKR.out.write xa xc with ⟨e0, i, hxi, hi8, hkr⟩ | ⟨e0, hkr⟩
              · rw [e0]
                have HKR5 := Lib.hid hkr
                subst hxi
                have t2 : decide ((i : Int) < 0) = false := decide_eq_false (by omega)
                have t3 : decide ((7 : Int) < (i : Int)) = false := decide_eq_false (by omega)
                have hi0 : (0 : Int) ≤ (i : Int) := by omega
                have hi1 : (i : Int) < 8 := by omega
                have p1 : w5.cell? ⟨bo, 1, none⟩ = some (.int .i64 (i : Int)) := HBO.out.cell 1
                have p2 : w5.cell? ⟨bo, 2, none⟩ = some (.int .u8 (xc.toNat : Int)) := HBO.out.cell 2
                have hix := run_index8 w5 (q + 1) i hi8
                have hcell := HL8.out.cell hi8
                have hfz := HL8.out.frozen i
                have hkp : Kept [q + 1] w5 (w5.setCell ⟨q + 1, i, none⟩ (.int .u8 (xc.toNat : Int))) := (Kept.refl _ _).setCell (by simp) _
                have HKP := Lib.hid hkp
                have HL9 := Lib.hid (HL8.out.set hi8 xc)
                clear hkr hkp
                go_wp2
                go_roundw
                case rel => exact ⟨k + 1, by go_num, by omega, ⟨_, Lk, _, HD5.out.keep HKP.out (by simp; omega) (by simp; omega) (by simp; omega), HKR5.out, HK8.out.kept HKP.out (by simp), HL9.out⟩, HKP.out.belowB HB5.out (by omega) (by simp; omega)⟩
                case measure => simp [RowKit.intOf]; omega
              · have HKR5 := Lib.hid hkr
                obtain ⟨er, her⟩ : ∃ er, (d.write xa (Plain.full xc)).2 = er := ⟨_, rfl⟩
                rw [her] at e0 ⊢
                have t2 : ((er : Int) == 0) = false := by simp; omega
                clear hkr her
                go_wp2
                go_roundw
                case rel => exact ⟨k + 1, by go_num, by omega, ⟨_, Lk, La, HD5.out, HKR5.out, HK8.out, HL8.out⟩, HB5.out⟩
                case measure => simp [RowKit.intOf]; omega
          · have t0 : (xw == 0) = false := by simpa using h0
            by_cases h1 : xw = 1
            · subst h1
              have hbd : Below wo.heap.size wo wo.drew := (Below.refl _ _).drew
              have HO1 := Lib.hid (fun (W : World) (hW : Below wo.heap.size wo W) => run_loadI W ⟨bo, 1, none⟩ xa ((stay HBO.out hW).cell 1))
              have HO2 := Lib.hid (fun (W : World) (hW : Below wo.heap.size wo W) => run_loadU8 W ⟨bo, 2, none⟩ (xc.toNat : Int) ((stay HBO.out hW).cell 2))
              go_wp2
              refine wp_late (by kernel_rfl) 164 [(63, [6]), (64, [10]), (65, [64]), (66, [10]), (67, [66]), (68, [67]), (1006, [63, 65, 68]), (1007, [69])]
                [Fact.is (.pointer (some ⟨g + 2, 0, none⟩)), Fact.is (.pointer (some ⟨bo, 1, none⟩)), Fact.is (.int .i64 xa), Fact.is (.pointer (some ⟨bo, 2, none⟩)), Fact.is (.int .u8 (xc.toNat : Int)), Fact.fl xc, default, default]
                [1, 1, 1, 1, 1, 1, 2, 2] [6, 7] [69, 70] [63, 64, 65, 66, 67, 68, 69, 70] (WrP g (d.write xa (Plain.full xc)) wo)
                (by kernel_rfl) (by kernel_rfl) rfl rfl ⟨?s0, ?s1, ?s2, ?s3, ?s4, ?s5, trivial⟩ ?late ?fin
              case s0 =>
                intro ρ W hb hc hf hr
                obtain ⟨r6, -⟩ := hr
                have e6 : ρ (.tmp 6) = .pointer (some ⟨g + 2, 0, none⟩) := r6
                clear r6
                refine under_none rfl ?_
                exact ⟨e6, Below.refl _ _⟩
              case s1 =>
                intro ρ W hb hc hf hr
                obtain ⟨r10, -⟩ := hr
                have e10 : ρ (.tmp 10) = .pointer (some ⟨bo, 0, none⟩) := r10
                clear r10
                refine under_none rfl ?_
                exact soft_field e10 rfl (fun W => by go_simp)
              case s2 =>
                intro ρ W hb hc hf hr
                obtain ⟨r64, -⟩ := hr
                have e64 : ρ (.tmp 64) = .pointer (some ⟨bo, 1, none⟩) := r64
                clear r64
                refine under_none rfl ?_
                exact soft_load e64 (HO1.out W (hbd.trans (hb.mono (by simp)))) rfl
              case s3 =>
                intro ρ W hb hc hf hr
                obtain ⟨r10, -⟩ := hr
                have e10 : ρ (.tmp 10) = .pointer (some ⟨bo, 0, none⟩) := r10
                clear r10
                refine under_none rfl ?_
                exact soft_field e10 rfl (fun W => by go_simp)
              case s4 =>
                intro ρ W hb hc hf hr
                obtain ⟨r66, -⟩ := hr
                have e66 : ρ (.tmp 66) = .pointer (some ⟨bo, 2, none⟩) := r66
                clear r66
                refine under_none rfl ?_
                exact soft_load e66 (HO2.out W (hbd.trans (hb.mono (by simp)))) rfl
              case s5 =>
                intro ρ W hb hc hf hr
                obtain ⟨r67, -⟩ := hr
                have e67 : ρ (.tmp 67) = .int .u8 (xc.toNat : Int) := r67
                clear r67
                refine under_none rfl ?_
                exact soft_fl hf e67 rfl
              case late =>
                intro p j o hj ho a W hsz h0 h1 hfr hou
                match p, hj with
                | 0, hj =>
                  obtain rfl : 6 = j := Option.some.inj hj
                  obtain rfl := Option.some.inj ho
                  clear hj ho
                  obtain ⟨hb, hhard⟩ := h0 rfl
                  have e63 : a.eval (.tmp 63) = .pointer (some ⟨g + 2, 0, none⟩) := hhard 63 0 rfl rfl
                  have e65 : a.eval (.tmp 65) = .int .i64 xa := hhard 65 2 rfl rfl
                  have r68 : (Fact.fl xc).φ (a.tmps.getD 68 undef) W := hhard 68 5 rfl rfl
                  clear h0 h1 hhard hfr hou
                  refine late_write (x := .tmp 63) (y := .tmp 65) (z := .tmp 68) rfl e63 e65 r68 (hbd.trans (hb.mono (by simp))) (by omega) HD.out fun w' h1 h2 => ⟨_, rfl, h1, h2, by simp [Act.put, Array.getD_eq_getD_getElem?, hsz], fun h => absurd h (by omega)⟩
                | 1, hj =>
                  obtain rfl : 7 = j := Option.some.inj hj
                  obtain rfl := Option.some.inj ho
                  clear hj ho
                  have hP := h1 (by omega)
                  clear h0 h1 hfr hou
                  obtain ⟨h1, h2, h3, -⟩ := hP
                  have e69' : a.tmps.getD 69 undef = .int .i64 (((d.write xa (Plain.full xc)).2 : Nat) : Int) := by simpa using h3
                  have e69 : a.eval (.tmp 69) = .int .i64 (((d.write xa (Plain.full xc)).2 : Nat) : Int) := e69'
                  refine late_bin rfl e69 rfl rfl (eq_errno W _ 0 _ rfl) ⟨_, rfl, h1, h2, ?_, fun _ => by simp [Act.put, Array.getD_eq_getD_getElem?, hsz]⟩
                  rw [Array.getD_eq_getD_getElem?] at e69'
                  simp [Act.put, Array.getD_eq_getD_getElem?, e69']
                | q + 2, hj => cases hj
              case fin =>
                intro a w5 ha hP
                obtain ⟨h1, h2, h3, h4⟩ := hP
                have e69 : a.tmps.getD 69 undef = .int .i64 (((d.write xa (Plain.full xc)).2 : Nat) : Int) := by simpa using h3
                have e70 : a.tmps.getD 70 undef = .bool ((((d.write xa (Plain.full xc)).2 : Nat) : Int) == 0) := by simpa using h4 rfl
                have HD5 := Lib.hid h1
                have z5 := h2.size
                have HB5 := Lib.hid (h2.belowB HB.out (by omega) (by simp; omega))
                have HK8 := Lib.hid (HK8.out.kept h2 (by simp; omega))
                have HL8 := Lib.hid (HL8.out.kept h2 (by simp; omega))
                have HBO := Lib.hid (h2.blk HBO.out (by simp; omega))
                clear h1 h2 h3 h4
                simp only [List.foldl_cons, List.foldl_nil, e69, e70] at ha
                clear e69 e70
                generalize a.tmps.getD 63 undef = v63 at ha
                generalize a.tmps.getD 64 undef = v64 at ha
                generalize a.tmps.getD 65 undef = v65 at ha
                generalize a.tmps.getD 66 undef = v66 at ha
                generalize a.tmps.getD 67 undef = v67 at ha
                generalize a.tmps.getD 68 undef = v68 at ha
                simp only [Act.put, List.setIfInBounds_toArray, List.set_cons_succ, List.set_cons_zero] at ha
                subst ha
                rcases HKR.out.write xa xc with ⟨e0, i, hxi, hi8, hkr⟩ | ⟨e0, hkr⟩
                · rw [e0]
                  have HKR5 := Lib.hid hkr
                  subst hxi
                  have t2 : decide ((i : Int) < 0) = false := decide_eq_false (by omega)
                  have t3 : decide ((7 : Int) < (i : Int)) = false := decide_eq_false (by omega)
                  have hi0 : (0 : Int) ≤ (i : Int) := by omega
                  have hi1 : (i : Int) < 8 := by omega
                  have p1 : w5.cell? ⟨bo, 1, none⟩ = some (.int .i64 (i : Int)) := HBO.out.cell 1
                  have p2 : w5.cell? ⟨bo, 2, none⟩ = some (.int .u8 (xc.toNat : Int)) := HBO.out.cell 2
                  have hix := run_index8 w5 (q + 1) i hi8
                  have hcell := HL8.out.cell hi8
                  have hfz := HL8.out.frozen i
                  have hkp : Kept [q + 1] w5 (w5.setCell ⟨q + 1, i, none⟩ (.int .u8 (xc.toNat : Int))) := (Kept.refl _ _).setCell (by simp) _
                  have HKP := Lib.hid hkp
                  have HL9 := Lib.hid (HL8.out.set hi8 xc)
                  clear hkr hkp
                  go_wp2
                  go_roundw
                  case rel => exact ⟨k + 1, by go_num, by omega, ⟨_, Lk, _, HD5.out.keep HKP.out (by simp; omega) (by simp; omega) (by simp; omega), HKR5.out, HK8.out.kept HKP.out (by simp), HL9.out⟩, HKP.out.belowB HB5.out (by omega) (by simp; omega)⟩
                  case measure => simp [RowKit.intOf]; omega
                · have HKR5 := Lib.hid hkr
                  obtain ⟨er, her⟩ : ∃ er, (d.write xa (Plain.full xc)).2 = er := ⟨_, rfl⟩
                  rw [her] at e0 ⊢
                  have t2 : ((er : Int) == 0) = false := by simp; omega
                  clear hkr her
                  go_wp2
                  go_roundw
                  case rel => exact ⟨k + 1, by go_num, by omega, ⟨_, Lk, La, HD5.out, HKR5.out, HK8.out, HL8.out⟩, HB5.out⟩
                  case measure => simp [RowKit.intOf]; omega
            · have t1 : (xw == 1) = false := by simpa using h1
              by_cases h2 : xw = 2
              · subst h2
                have hbd : Below wo.heap.size wo wo.drew := (Below.refl _ _).drew
                have HO1 := Lib.hid (fun (W : World) (hW : Below wo.heap.size wo W) => run_loadI W ⟨bo, 1, none⟩ xa ((stay HBO.out hW).cell 1))
                have HO2 := Lib.hid (fun (W : World) (hW : Below wo.heap.size wo W) => run_loadU8 W ⟨bo, 2, none⟩ (xc.toNat : Int) ((stay HBO.out hW).cell 2))
                go_wp2
                refine wp_late (by kernel_rfl) 164 [(63, [6]), (64, [10]), (65, [64]), (66, [10]), (67, [66]), (68, [67]), (1006, [63, 65, 68]), (1007, [69])]
                  [Fact.is (.pointer (some ⟨g + 2, 0, none⟩)), Fact.is (.pointer (some ⟨bo, 1, none⟩)), Fact.is (.int .i64 xa), Fact.is (.pointer (some ⟨bo, 2, none⟩)), Fact.is (.int .u8 (xc.toNat : Int)), Fact.fl xc, default, default]
                  [1, 1, 1, 1, 1, 1, 2, 2] [6, 7] [69, 70] [63, 64, 65, 66, 67, 68, 69, 70] (WrP g (d.write xa (Plain.full xc)) wo)
                  (by kernel_rfl) (by kernel_rfl) rfl rfl ⟨?s0, ?s1, ?s2, ?s3, ?s4, ?s5, trivial⟩ ?late ?fin
                case s0 =>
                  intro ρ W hb hc hf hr
                  obtain ⟨r6, -⟩ := hr
                  have e6 : ρ (.tmp 6) = .pointer (some ⟨g + 2, 0, none⟩) := r6
                  clear r6
                  refine under_none rfl ?_
                  exact ⟨e6, Below.refl _ _⟩
                case s1 =>
                  intro ρ W hb hc hf hr
                  obtain ⟨r10, -⟩ := hr
                  have e10 : ρ (.tmp 10) = .pointer (some ⟨bo, 0, none⟩) := r10
                  clear r10
                  refine under_none rfl ?_
                  exact soft_field e10 rfl (fun W => by go_simp)
                case s2 =>
                  intro ρ W hb hc hf hr
                  obtain ⟨r64, -⟩ := hr
                  have e64 : ρ (.tmp 64) = .pointer (some ⟨bo, 1, none⟩) := r64
                  clear r64
                  refine under_none rfl ?_
                  exact soft_load e64 (HO1.out W (hbd.trans (hb.mono (by simp)))) rfl
                case s3 =>
                  intro ρ W hb hc hf hr
                  obtain ⟨r10, -⟩ := hr
                  have e10 : ρ (.tmp 10) = .pointer (some ⟨bo, 0, none⟩) := r10
                  clear r10
                  refine under_none rfl ?_
                  exact soft_field e10 rfl (fun W => by go_simp)
                case s4 =>
                  intro ρ W hb hc hf hr
                  obtain ⟨r66, -⟩ := hr
                  have e66 : ρ (.tmp 66) = .pointer (some ⟨bo, 2, none⟩) := r66
                  clear r66
                  refine under_none rfl ?_
                  exact soft_load e66 (HO2.out W (hbd.trans (hb.mono (by simp)))) rfl
                case s5 =>
                  intro ρ W hb hc hf hr
                  obtain ⟨r67, -⟩ := hr
                  have e67 : ρ (.tmp 67) = .int .u8 (xc.toNat : Int) := r67
                  clear r67
                  refine under_none rfl ?_
                  exact soft_fl hf e67 rfl
                case late =>
                  intro p j o hj ho a W hsz h0 h1 hfr hou
                  match p, hj with
                  | 0, hj =>
                    obtain rfl : 6 = j := Option.some.inj hj
                    obtain rfl := Option.some.inj ho
                    clear hj ho
                    obtain ⟨hb, hhard⟩ := h0 rfl
                    have e63 : a.eval (.tmp 63) = .pointer (some ⟨g + 2, 0, none⟩) := hhard 63 0 rfl rfl
                    have e65 : a.eval (.tmp 65) = .int .i64 xa := hhard 65 2 rfl rfl
                    have r68 : (Fact.fl xc).φ (a.tmps.getD 68 undef) W := hhard 68 5 rfl rfl
                    clear h0 h1 hhard hfr hou
                    refine late_write (x := .tmp 63) (y := .tmp 65) (z := .tmp 68) rfl e63 e65 r68 (hbd.trans (hb.mono (by simp))) (by omega) HD.out fun w' h1 h2 => ⟨_, rfl, h1, h2, by simp [Act.put, Array.getD_eq_getD_getElem?, hsz], fun h => absurd h (by omega)⟩
                  | 1, hj =>
                    obtain rfl : 7 = j := Option.some.inj hj
                    obtain rfl := Option.some.inj ho
                    clear hj ho
                    have hP := h1 (by omega)
                    clear h0 h1 hfr hou
                    obtain ⟨h1, h2, h3, -⟩ := hP
                    have e69' : a.tmps.getD 69 undef = .int .i64 (((d.write xa (Plain.full xc)).2 : Nat) : Int) := by simpa using h3
                    have e69 : a.eval (.tmp 69) = .int .i64 (((d.write xa (Plain.full xc)).2 : Nat) : Int) := e69'
                    refine late_bin rfl e69 rfl rfl (eq_errno W _ 0 _ rfl) ⟨_, rfl, h1, h2, ?_, fun _ => by simp [Act.put, Array.getD_eq_getD_getElem?, hsz]⟩
                    rw [Array.getD_eq_getD_getElem?] at e69'
                    simp [Act.put, Array.getD_eq_getD_getElem?, e69']
                  | q + 2, hj => cases hj
                case fin =>
                  intro a w5 ha hP
                  obtain ⟨h1, h2, h3, h4⟩ := hP
                  have e69 : a.tmps.getD 69 undef = .int .i64 (((d.write xa (Plain.full xc)).2 : Nat) : Int) := by simpa using h3
                  have e70 : a.tmps.getD 70 undef = .bool ((((d.write xa (Plain.full xc)).2 : Nat) : Int) == 0) := by simpa using h4 rfl
                  have HD5 := Lib.hid h1
                  have z5 := h2.size
                  have HB5 := Lib.hid (h2.belowB HB.out (by omega) (by simp; omega))
                  have HK8 := Lib.hid (HK8.out.kept h2 (by simp; omega))
                  have HL8 := Lib.hid (HL8.out.kept h2 (by simp; omega))
                  have HBO := Lib.hid (h2.blk HBO.out (by simp; omega))
                  clear h1 h2 h3 h4
                  simp only [List.foldl_cons, List.foldl_nil, e69, e70] at ha
                  clear e69 e70
                  generalize a.tmps.getD 63 undef = v63 at ha
                  generalize a.tmps.getD 64 undef = v64 at ha
                  generalize a.tmps.getD 65 undef = v65 at ha
                  generalize a.tmps.getD 66 undef = v66 at ha
                  generalize a.tmps.getD 67 undef = v67 at ha
                  generalize a.tmps.getD 68 undef = v68 at ha
                  simp only [Act.put, List.setIfInBounds_toArray, List.set_cons_succ, List.set_cons_zero] at ha
                  subst ha
                  rcases HKR.out.write xa xc with ⟨e0, i, hxi, hi8, hkr⟩ | ⟨e0, hkr⟩
                  · rw [e0]
                    have HKR5 := Lib.hid hkr
                    subst hxi
                    have t2 : decide ((i : Int) < 0) = false := decide_eq_false (by omega)
                    have t3 : decide ((7 : Int) < (i : Int)) = false := decide_eq_false (by omega)
                    have hi0 : (0 : Int) ≤ (i : Int) := by omega
                    have hi1 : (i : Int) < 8 := by omega
                    have p1 : w5.cell? ⟨bo, 1, none⟩ = some (.int .i64 (i : Int)) := HBO.out.cell 1
                    have p2 : w5.cell? ⟨bo, 2, none⟩ = some (.int .u8 (xc.toNat : Int)) := HBO.out.cell 2
                    have hix := run_index8 w5 (q + 1) i hi8
                    have hcell := HL8.out.cell hi8
                    have hfz := HL8.out.frozen i
                    have hkp : Kept [q + 1] w5 (w5.setCell ⟨q + 1, i, none⟩ (.int .u8 (xc.toNat : Int))) := (Kept.refl _ _).setCell (by simp) _
                    have HKP := Lib.hid hkp
                    have HL9 := Lib.hid (HL8.out.set hi8 xc)
                    clear hkr hkp
                    go_wp2
                    go_roundw
                    case rel => exact ⟨k + 1, by go_num, by omega, ⟨_, Lk, _, HD5.out.keep HKP.out (by simp; omega) (by simp; omega) (by simp; omega), HKR5.out, HK8.out.kept HKP.out (by simp), HL9.out⟩, HKP.out.belowB HB5.out (by omega) (by simp; omega)⟩
                    case measure => simp [RowKit.intOf]; omega
                  · have HKR5 := Lib.hid hkr
                    obtain ⟨er, her⟩ : ∃ er, (d.write xa (Plain.full xc)).2 = er := ⟨_, rfl⟩
                    rw [her] at e0 ⊢
                    have t2 : ((er : Int) == 0) = false := by simp; omega
                    clear hkr her
                    go_wp2
                    go_roundw
                    case rel => exact ⟨k + 1, by go_num, by omega, ⟨_, Lk, La, HD5.out, HKR5.out, HK8.out, HL8.out⟩, HB5.out⟩
                    case measure => simp [RowKit.intOf]; omega
              · have t2 : (xw == 2) = false := by simpa using h2
                go_wp2
                go_roundw
                case rel => exact ⟨k + 1, by go_num, by omega, ⟨_, Lk, La, HD.out, HKR.out.more (by omega), HK8.out, HL8.out⟩, HB.out⟩
                case measure => simp [RowKit.intOf]; omega
    · obtain rfl : n = k := by omega
      have HLO := Lib.hid (loose_any wr g d HD.out)
      have HKR0 := HKR.out
      go_wp2_with fail
      refine HLO.out.mono ?_
      rintro e wl ⟨v, rfl, hown, hBl⟩
      have zwg := HD.out.lt
      obtain ⟨Al, capl, rfl, hlc, hlm, hnl, hLl, hAl⟩ := own_off hown
      have HOL := Lib.hid (show Off [g, g + 1, g + 2] Al (nums d.loose) from .inr fun ad e hm => by
        have := hAl ad e
        simp at hm
        omega)
      have HLL := Lib.hid hLl
      have zl := hBl.size
      have HBK := Lib.hid (HBB.out.below (HB.out.trans (hBl.mono zr)))
      have HB := Lib.hid (HB.out.trans (hBl.mono zr))
      have HD := Lib.hid (HD.out.below hBl)
      have HK8 := Lib.hid (HK8.out.below hBl)
      have HL8 := Lib.hid (HL8.out.below hBl)
      clear hown hBl hLl hAl hnl HLO
      obtain ⟨m, hm2⟩ : ∃ m, d.loose.length = m := ⟨_, rfl⟩
      have HM := Lib.hid hm2
      rw [hm2] at hlc
      rw [hm2]
      clear hm2 HKR0
      go_wp2_with fail
      refine (boot_any wl g d keep [] B none kn capk 0 0 HKN.out rfl (by unfold maxLen; omega) (by unfold maxLen; omega) HBK.out Lies.nil (Off.of HBB.out (by simp; omega)) (.inl rfl) nobits HD.out).mono ?_
      rintro e wc ⟨rfl, h1, h2⟩
      have HP := Lib.hid h1
      have zc := h2.size
      have HB := Lib.hid (h2.belowB HB.out (by omega) (by simp; omega))
      have HK8 := Lib.hid (HK8.out.kept h2 (by simp; omega))
      have HL8 := Lib.hid (HL8.out.kept h2 (by simp; omega))
      have HLL := Lib.hid (HLL.out.kept HOL.out h2)
      have HFP := Lib.hid (show Plain.Free (d.boot keep []) from ⟨d.boot_ok HKR.out.ok keep [], rfl, rfl⟩)
      have HNP := Lib.hid (show (d.boot keep []).n = 8 from HKR.out.n)
      have HLP := Lib.hid (Plain.boot_loose d keep [])
      obtain ⟨P, hP⟩ : ∃ P, d.boot keep [] = P := ⟨_, rfl⟩
      have HPE := Lib.hid hP
      rw [hP] at HP HFP HNP HLP
      clear h1 h2 hP HD HBK HOL
      go_wp2
      go_loopw [12, 13] (fun s t wr => ∃ i : Nat, s = .int .i64 (d.cnt i : Int) ∧ t = .int .i64 (i : Int) ∧ i ≤ 8 ∧ IsDev wr g P ∧ Row8 wr q Lk ∧ Row8 wr (q + 1) La ∧ Lies wr Al (nums d.loose) ∧ Below w.heap.size w wr) (fun _ t _ => 8 - (RowKit.intOf t).toNat)
      case atStart => exact ⟨0, rfl, rfl, Nat.zero_le _, HP.out, HK8.out, HL8.out, HLL.out, HB.out⟩
      case round =>
        clear HP HK8 HL8 HLL HB
        obtain ⟨i, rfl, rfl, hi, hp, hk8, hl8, hll, hB⟩ := hrel
        have HP := Lib.hid hp
        have HB := Lib.hid hB
        have HK8 := Lib.hid hk8
        have HL8 := Lib.hid hl8
        have HLL := Lib.hid hll
        have zr := hB.size
        clear hp hB hk8 hl8 hll
        obtain ⟨kc, hkc⟩ : ∃ kc, d.cnt i = kc := ⟨_, rfl⟩
        have hkc8 := d.cnt_le i
        have HKC := Lib.hid hkc
        have HAT := Lib.hid (d.cnt_at i)
        rw [hkc] at hkc8 HAT ⊢
        clear hkc
        by_cases hi8 : i < 8
        · have hi0 : (0 : Int) ≤ (i : Int) := by omega
          have hi1 : (i : Int) < 8 := by omega
          have hxk := run_index8 wr q i hi8
          have hxl := run_index8 wr (q + 1) i hi8
          have ck := HK8.out.cell hi8
          have cl := HL8.out.cell hi8
          cases hs : (d.wr i).isSome with
          | true =>
            have HSL := Lib.hid (HKR.out.loose keep i hi8 hs)
            rw [HKC.out] at HSL
            have hat := (HAT.out (by rw [HKR.out.n]; exact hi8)).2 hs
            obtain ⟨hkml, hat2⟩ := List.getElem?_eq_some_iff.1 hat
            have hkm : kc < m := by rw [← HM.out]; exact hkml
            obtain ⟨al, rfl, -, hlo0⟩ := HLL.out.at_ (k := kc) (by rw [nums_length]; exact hkml)
            have hlo : wr.cell? (al.add kc) = some (.int .i64 (i : Int)) := by
              rw [hlo0]; simp [nums, hat2]
            have hidx := run_idxInt wr al m capl kc hkm
            have t1 : decide ((kc : Int) < (m : Int)) = true := decide_eq_true (by omega)
            clear hlo0 hat hat2
            by_cases hkk : kc < kn
            · have t2 : decide ((kc : Int) < (kn : Int)) = true := decide_eq_true (by omega)
              have hkkl : kc < keep.length := by rw [HKN.out]; exact hkk
              obtain ⟨adk, rfl, _, hkc0⟩ := (HBB.out.below HB.out).at_ (k := kc) (by rw [bools_length]; exact hkkl)
              obtain ⟨bb, hbb⟩ : ∃ bb, keep[kc] = bb := ⟨_, rfl⟩
              have hkcell : wr.cell? (adk.add kc) = some (.bool bb) := by
                rw [hkc0]; simp [bools, hbb]
              have hge : keep.getD kc false = bb := by rw [List.getD_eq_getElem?_getD, List.getElem?_eq_getElem hkkl, Option.getD_some, hbb]
              rw [hge] at HSL
              clear hge hbb hkc0
              have hk0 : (0 : Int) ≤ (kc : Int) := by omega
              have hk1 : (kc : Int) < (kn : Int) := by omega
              cases bb with
              | true =>
                rw [if_pos rfl] at HSL
                skip
                obtain ⟨c, hc⟩ : ∃ c, La i = c := ⟨_, rfl⟩
                rw [hc] at HSL cl
                have HSC := Lib.hid (show P.sec i = Plain.full c by rw [← HPE.out]; exact HSL.out)
                have HCS := Lib.hid (show d.cnt (i + 1) = d.cnt i + 1 by rw [d.cnt_succ i, if_pos hs])
                rw [HKC.out] at HCS
                clear hc
                have HR1 := Lib.hid (read_any wr g P (i : Int) HP.out)
                rw [HFP.out.read i (by rw [HNP.out]; exact hi8), HSC.out] at HR1
                go_wp2_with fail
                refine HR1.out.mono ?_
                intro e wa hg
                obtain ⟨A8, cap8, rfl, la, hBa⟩ := hg.text
                rw [Plain.full_length]
                have za := hBa.size
                have HB := Lib.hid (HB.out.trans (hBa.mono (by omega)))
                have HP := Lib.hid (HP.out.below hBa)
                have HK8 := Lib.hid (HK8.out.below hBa)
                have HL8 := Lib.hid (HL8.out.below hBa)
                have HLL := Lib.hid (HLL.out.below hBa)
                have HL8c := Lib.hid la
                have hbd : Below wa.heap.size wa wa.drew := (Below.refl _ _).drew
                clear hg la hBa HR1
                go_wp2
                refine wp_softS (by kernel_rfl) 164 [(136, [16]), (137, [136]), (138, [137]), (139, [15, 138]), (140, [139, 138]), (141, [14, 138]), (142, [141, 138]), (143, [142, 138]), (144, [140, 143, 138]), (145, [138, 144])]
                  [Fact.is (.int .i64 0), Fact.is (.bool false), Fact.is (.bool false), Fact.is (.slice A8 64 cap8), Fact.is (.string (str (Plain.full c))), Fact.is (.int .u8 (c.toNat : Int)), Fact.lie 64 (cells (Plain.full c)), Fact.is (.string (str (Plain.full c))), Fact.is (.bool false), Fact.is (.bool false)]
                  (by kernel_rfl) rfl rfl ⟨?s0, ?s1, ?s2, ?s3, ?s4, ?s5, ?s6, ?s7, ?s8, ?s9, trivial⟩ ?fin
                case s0 =>
                  intro ρ W hb hc hf hr
                  obtain ⟨r16, -⟩ := hr
                  have e16 : ρ (.tmp 16) = .int .i64 0 := r16
                  clear r16
                  refine under_none rfl ?_
                  exact ⟨e16, Below.refl _ _⟩
                case s1 =>
                  intro ρ W hb hc hf hr
                  obtain ⟨r136, -⟩ := hr
                  have e136 : ρ (.tmp 136) = .int .i64 0 := r136
                  clear r136
                  refine under_none rfl ?_
                  exact soft_bin e136 (hc _) rfl rfl (ne_errno W 0 0 false rfl)
                case s2 =>
                  intro ρ W hb hc hf hr
                  obtain ⟨r137, -⟩ := hr
                  have e137 : ρ (.tmp 137) = .bool false := r137
                  clear r137
                  refine under_none rfl ?_
                  exact ⟨e137, Below.refl _ _⟩
                case s3 =>
                  intro ρ W hb hc hf hr
                  obtain ⟨r15, r138, -⟩ := hr
                  have e15 : ρ (.tmp 15) = .slice A8 64 cap8 := r15
                  clear r15
                  have e138 : ρ (.tmp 138) = .bool false := r138
                  clear r138
                  refine ⟨138, rfl, .inl ⟨e138, ?_⟩⟩
                  exact ⟨e15, Below.refl _ _⟩
                case s4 =>
                  intro ρ W hb hc hf hr
                  obtain ⟨r139, r138, -⟩ := hr
                  have e139 : ρ (.tmp 139) = .slice A8 64 cap8 := r139
                  clear r139
                  have e138 : ρ (.tmp 138) = .bool false := r138
                  clear r138
                  refine ⟨138, rfl, .inl ⟨e138, ?_⟩⟩
                  exact soft_conv e139 (conv_lies (HL8c.out.below (hbd.trans (hb.mono (by simp)))) (Plain.full_length c)) rfl
                case s5 =>
                  intro ρ W hb hc hf hr
                  obtain ⟨r14, r138, -⟩ := hr
                  have e14 : ρ (.tmp 14) = .int .u8 (c.toNat : Int) := r14
                  clear r14
                  have e138 : ρ (.tmp 138) = .bool false := r138
                  clear r138
                  refine ⟨138, rfl, .inl ⟨e138, ?_⟩⟩
                  exact ⟨e14, Below.refl _ _⟩
                case s6 =>
                  intro ρ W hb hc hf hr
                  obtain ⟨r141, r138, -⟩ := hr
                  have e141 : ρ (.tmp 141) = .int .u8 (c.toNat : Int) := r141
                  clear r141
                  have e138 : ρ (.tmp 138) = .bool false := r138
                  clear r138
                  refine ⟨138, rfl, .inl ⟨e138, ?_⟩⟩
                  exact soft_full hf e141 rfl
                case s7 =>
                  intro ρ W hb hc hf hr
                  obtain ⟨r142, r138, -⟩ := hr
                  have e138 : ρ (.tmp 138) = .bool false := r138
                  clear r138
                  refine ⟨138, rfl, .inl ⟨e138, ?_⟩⟩
                  exact soft_convL r142 (Plain.full_length c) rfl
                case s8 =>
                  intro ρ W hb hc hf hr
                  obtain ⟨r140, r143, r138, -⟩ := hr
                  have e140 : ρ (.tmp 140) = .string (str (Plain.full c)) := r140
                  clear r140
                  have e143 : ρ (.tmp 143) = .string (str (Plain.full c)) := r143
                  clear r143
                  have e138 : ρ (.tmp 138) = .bool false := r138
                  clear r138
                  refine ⟨138, rfl, .inl ⟨e138, ?_⟩⟩
                  exact soft_bin e140 e143 rfl rfl (ne_text W _)
                case s9 =>
                  intro ρ W hb hc hf hr
                  obtain ⟨r138, r144, -⟩ := hr
                  have e138 : ρ (.tmp 138) = .bool false := r138
                  clear r138
                  have e144 : ρ (.tmp 144) = .bool false := r144
                  clear r144
                  refine under_none rfl ?_
                  simp [execOp, e138, e144, go_sem, softUpon, Fact.is, Below.refl]
                case fin =>
                  intro a w1 hb hd hsz hk
                  have ea := act_puts hd hsz rfl hk
                  have k136 : a.tmps.getD 136 undef = .int .i64 0 := hk 136
                  have k137 : a.tmps.getD 137 undef = .bool false := hk 137
                  have k138 : a.tmps.getD 138 undef = .bool false := hk 138
                  have k139 : a.tmps.getD 139 undef = .slice A8 64 cap8 := hk 139
                  have k140 : a.tmps.getD 140 undef = .string (str (Plain.full c)) := hk 140
                  have k141 : a.tmps.getD 141 undef = .int .u8 (c.toNat : Int) := hk 141
                  have k142 : (Fact.lie 64 (cells (Plain.full c))).φ (a.tmps.getD 142 undef) w1 := hk 142
                  have k143 : a.tmps.getD 143 undef = .string (str (Plain.full c)) := hk 143
                  have k144 : a.tmps.getD 144 undef = .bool false := hk 144
                  have k145 : a.tmps.getD 145 undef = .bool false := hk 145
                  clear hk hd hsz
                  simp only [List.map_cons, List.map_nil, List.foldl_cons, List.foldl_nil, k136, k137, k138, k139, k140, k141, k143, k144, k145] at ea
                  clear k136 k137 k138 k139 k140 k141 k143 k144 k145
                  generalize a.tmps.getD 142 undef = v142 at ea k142
                  simp only [Act.put, List.setIfInBounds_toArray, List.set_cons_succ, List.set_cons_zero] at ea
                  subst ea
                  have dV := hbd.trans (hb.mono (by simp))
                  have HB := Lib.hid (HB.out.trans (dV.mono (by omega)))
                  have HP := Lib.hid (HP.out.below dV)
                  have HK8 := Lib.hid (HK8.out.below dV)
                  have HL8 := Lib.hid (HL8.out.below dV)
                  have HLL := Lib.hid (HLL.out.below dV)
                  clear hb dV
                  go_wp2
                  go_roundw
                  case rel => exact ⟨i + 1, by rw [HCS.out]; first | done | go_num, by go_num, by omega, HP.out, HK8.out, HL8.out, HLL.out, HB.out⟩
                  case measure => simp [RowKit.intOf]; omega
              | false =>
                rw [if_neg (by simp)] at HSL
                skip
                obtain ⟨c, hc⟩ : ∃ c, Lk i = c := ⟨_, rfl⟩
                rw [hc] at HSL ck
                have HSC := Lib.hid (show P.sec i = Plain.full c by rw [← HPE.out]; exact HSL.out)
                have HCS := Lib.hid (show d.cnt (i + 1) = d.cnt i + 1 by rw [d.cnt_succ i, if_pos hs])
                rw [HKC.out] at HCS
                clear hc
                have HR1 := Lib.hid (read_any wr g P (i : Int) HP.out)
                rw [HFP.out.read i (by rw [HNP.out]; exact hi8), HSC.out] at HR1
                go_wp2_with fail
                refine HR1.out.mono ?_
                intro e wa hg
                obtain ⟨A8, cap8, rfl, la, hBa⟩ := hg.text
                rw [Plain.full_length]
                have za := hBa.size
                have HB := Lib.hid (HB.out.trans (hBa.mono (by omega)))
                have HP := Lib.hid (HP.out.below hBa)
                have HK8 := Lib.hid (HK8.out.below hBa)
                have HL8 := Lib.hid (HL8.out.below hBa)
                have HLL := Lib.hid (HLL.out.below hBa)
                have HL8c := Lib.hid la
                have hbd : Below wa.heap.size wa wa.drew := (Below.refl _ _).drew
                clear hg la hBa HR1
                go_wp2
                refine wp_softS (by kernel_rfl) 164 [(136, [16]), (137, [136]), (138, [137]), (139, [15, 138]), (140, [139, 138]), (141, [14, 138]), (142, [141, 138]), (143, [142, 138]), (144, [140, 143, 138]), (145, [138, 144])]
                  [Fact.is (.int .i64 0), Fact.is (.bool false), Fact.is (.bool false), Fact.is (.slice A8 64 cap8), Fact.is (.string (str (Plain.full c))), Fact.is (.int .u8 (c.toNat : Int)), Fact.lie 64 (cells (Plain.full c)), Fact.is (.string (str (Plain.full c))), Fact.is (.bool false), Fact.is (.bool false)]
                  (by kernel_rfl) rfl rfl ⟨?s0, ?s1, ?s2, ?s3, ?s4, ?s5, ?s6, ?s7, ?s8, ?s9, trivial⟩ ?fin
                case s0 =>
                  intro ρ W hb hc hf hr
                  obtain ⟨r16, -⟩ := hr
                  have e16 : ρ (.tmp 16) = .int .i64 0 := r16
                  clear r16
                  refine under_none rfl ?_
                  exact ⟨e16, Below.refl _ _⟩
                case s1 =>
                  intro ρ W hb hc hf hr
                  obtain ⟨r136, -⟩ := hr
                  have e136 : ρ (.tmp 136) = .int .i64 0 := r136
                  clear r136
                  refine under_none rfl ?_
                  exact soft_bin e136 (hc _) rfl rfl (ne_errno W 0 0 false rfl)
                case s2 =>
                  intro ρ W hb hc hf hr
                  obtain ⟨r137, -⟩ := hr
                  have e137 : ρ (.tmp 137) = .bool false := r137
                  clear r137
                  refine under_none rfl ?_
                  exact ⟨e137, Below.refl _ _⟩
                case s3 =>
                  intro ρ W hb hc hf hr
                  obtain ⟨r15, r138, -⟩ := hr
                  have e15 : ρ (.tmp 15) = .slice A8 64 cap8 := r15
                  clear r15
                  have e138 : ρ (.tmp 138) = .bool false := r138
                  clear r138
                  refine ⟨138, rfl, .inl ⟨e138, ?_⟩⟩
                  exact ⟨e15, Below.refl _ _⟩
                case s4 =>
                  intro ρ W hb hc hf hr
                  obtain ⟨r139, r138, -⟩ := hr
                  have e139 : ρ (.tmp 139) = .slice A8 64 cap8 := r139
                  clear r139
                  have e138 : ρ (.tmp 138) = .bool false := r138
                  clear r138
                  refine ⟨138, rfl, .inl ⟨e138, ?_⟩⟩
                  exact soft_conv e139 (conv_lies (HL8c.out.below (hbd.trans (hb.mono (by simp)))) (Plain.full_length c)) rfl
                case s5 =>
                  intro ρ W hb hc hf hr
                  obtain ⟨r14, r138, -⟩ := hr
                  have e14 : ρ (.tmp 14) = .int .u8 (c.toNat : Int) := r14
                  clear r14
                  have e138 : ρ (.tmp 138) = .bool false := r138
                  clear r138
                  refine ⟨138, rfl, .inl ⟨e138, ?_⟩⟩
                  exact ⟨e14, Below.refl _ _⟩
                case s6 =>
                  intro ρ W hb hc hf hr
                  obtain ⟨r141, r138, -⟩ := hr
                  have e141 : ρ (.tmp 141) = .int .u8 (c.toNat : Int) := r141
                  clear r141
                  have e138 : ρ (.tmp 138) = .bool false := r138
                  clear r138
                  refine ⟨138, rfl, .inl ⟨e138, ?_⟩⟩
                  exact soft_full hf e141 rfl
                case s7 =>
                  intro ρ W hb hc hf hr
                  obtain ⟨r142, r138, -⟩ := hr
                  have e138 : ρ (.tmp 138) = .bool false := r138
                  clear r138
                  refine ⟨138, rfl, .inl ⟨e138, ?_⟩⟩
                  exact soft_convL r142 (Plain.full_length c) rfl
                case s8 =>
                  intro ρ W hb hc hf hr
                  obtain ⟨r140, r143, r138, -⟩ := hr
                  have e140 : ρ (.tmp 140) = .string (str (Plain.full c)) := r140
                  clear r140
                  have e143 : ρ (.tmp 143) = .string (str (Plain.full c)) := r143
                  clear r143
                  have e138 : ρ (.tmp 138) = .bool false := r138
                  clear r138
                  refine ⟨138, rfl, .inl ⟨e138, ?_⟩⟩
                  exact soft_bin e140 e143 rfl rfl (ne_text W _)
                case s9 =>
                  intro ρ W hb hc hf hr
                  obtain ⟨r138, r144, -⟩ := hr
                  have e138 : ρ (.tmp 138) = .bool false := r138
                  clear r138
                  have e144 : ρ (.tmp 144) = .bool false := r144
                  clear r144
                  refine under_none rfl ?_
                  simp [execOp, e138, e144, go_sem, softUpon, Fact.is, Below.refl]
                case fin =>
                  intro a w1 hb hd hsz hk
                  have ea := act_puts hd hsz rfl hk
                  have k136 : a.tmps.getD 136 undef = .int .i64 0 := hk 136
                  have k137 : a.tmps.getD 137 undef = .bool false := hk 137
                  have k138 : a.tmps.getD 138 undef = .bool false := hk 138
                  have k139 : a.tmps.getD 139 undef = .slice A8 64 cap8 := hk 139
                  have k140 : a.tmps.getD 140 undef = .string (str (Plain.full c)) := hk 140
                  have k141 : a.tmps.getD 141 undef = .int .u8 (c.toNat : Int) := hk 141
                  have k142 : (Fact.lie 64 (cells (Plain.full c))).φ (a.tmps.getD 142 undef) w1 := hk 142
                  have k143 : a.tmps.getD 143 undef = .string (str (Plain.full c)) := hk 143
                  have k144 : a.tmps.getD 144 undef = .bool false := hk 144
                  have k145 : a.tmps.getD 145 undef = .bool false := hk 145
                  clear hk hd hsz
                  simp only [List.map_cons, List.map_nil, List.foldl_cons, List.foldl_nil, k136, k137, k138, k139, k140, k141, k143, k144, k145] at ea
                  clear k136 k137 k138 k139 k140 k141 k143 k144 k145
                  generalize a.tmps.getD 142 undef = v142 at ea k142
                  simp only [Act.put, List.setIfInBounds_toArray, List.set_cons_succ, List.set_cons_zero] at ea
                  subst ea
                  have dV := hbd.trans (hb.mono (by simp))
                  have HB := Lib.hid (HB.out.trans (dV.mono (by omega)))
                  have HP := Lib.hid (HP.out.below dV)
                  have HK8 := Lib.hid (HK8.out.below dV)
                  have HL8 := Lib.hid (HL8.out.below dV)
                  have HLL := Lib.hid (HLL.out.below dV)
                  clear hb dV
                  go_wp2
                  go_roundw
                  case rel => exact ⟨i + 1, by rw [HCS.out]; first | done | go_num, by go_num, by omega, HP.out, HK8.out, HL8.out, HLL.out, HB.out⟩
                  case measure => simp [RowKit.intOf]; omega
            · have t2 : decide ((kc : Int) < (kn : Int)) = false := decide_eq_false (by omega)
              rw [if_neg (by rw [List.getD_eq_getElem?_getD, List.getElem?_eq_none (by rw [HKN.out]; omega)]; simp)] at HSL
              skip
              obtain ⟨c, hc⟩ : ∃ c, Lk i = c := ⟨_, rfl⟩
              rw [hc] at HSL ck
              have HSC := Lib.hid (show P.sec i = Plain.full c by rw [← HPE.out]; exact HSL.out)
              have HCS := Lib.hid (show d.cnt (i + 1) = d.cnt i + 1 by rw [d.cnt_succ i, if_pos hs])
              rw [HKC.out] at HCS
              clear hc
              have HR1 := Lib.hid (read_any wr g P (i : Int) HP.out)
              rw [HFP.out.read i (by rw [HNP.out]; exact hi8), HSC.out] at HR1
              go_wp2_with fail
              refine HR1.out.mono ?_
              intro e wa hg
              obtain ⟨A8, cap8, rfl, la, hBa⟩ := hg.text
              rw [Plain.full_length]
              have za := hBa.size
              have HB := Lib.hid (HB.out.trans (hBa.mono (by omega)))
              have HP := Lib.hid (HP.out.below hBa)
              have HK8 := Lib.hid (HK8.out.below hBa)
              have HL8 := Lib.hid (HL8.out.below hBa)
              have HLL := Lib.hid (HLL.out.below hBa)
              have HL8c := Lib.hid la
              have hbd : Below wa.heap.size wa wa.drew := (Below.refl _ _).drew
              clear hg la hBa HR1
              go_wp2
              refine wp_softS (by kernel_rfl) 164 [(136, [16]), (137, [136]), (138, [137]), (139, [15, 138]), (140, [139, 138]), (141, [14, 138]), (142, [141, 138]), (143, [142, 138]), (144, [140, 143, 138]), (145, [138, 144])]
                [Fact.is (.int .i64 0), Fact.is (.bool false), Fact.is (.bool false), Fact.is (.slice A8 64 cap8), Fact.is (.string (str (Plain.full c))), Fact.is (.int .u8 (c.toNat : Int)), Fact.lie 64 (cells (Plain.full c)), Fact.is (.string (str (Plain.full c))), Fact.is (.bool false), Fact.is (.bool false)]
                (by kernel_rfl) rfl rfl ⟨?s0, ?s1, ?s2, ?s3, ?s4, ?s5, ?s6, ?s7, ?s8, ?s9, trivial⟩ ?fin
              case s0 =>
                intro ρ W hb hc hf hr
                obtain ⟨r16, -⟩ := hr
                have e16 : ρ (.tmp 16) = .int .i64 0 := r16
                clear r16
                refine under_none rfl ?_
                exact ⟨e16, Below.refl _ _⟩
              case s1 =>
                intro ρ W hb hc hf hr
                obtain ⟨r136, -⟩ := hr
                have e136 : ρ (.tmp 136) = .int .i64 0 := r136
                clear r136
                refine under_none rfl ?_
                exact soft_bin e136 (hc _) rfl rfl (ne_errno W 0 0 false rfl)
              case s2 =>
                intro ρ W hb hc hf hr
                obtain ⟨r137, -⟩ := hr
                have e137 : ρ (.tmp 137) = .bool false := r137
                clear r137
                refine under_none rfl ?_
                exact ⟨e137, Below.refl _ _⟩
              case s3 =>
                intro ρ W hb hc hf hr
                obtain ⟨r15, r138, -⟩ := hr
                have e15 : ρ (.tmp 15) = .slice A8 64 cap8 := r15
                clear r15
                have e138 : ρ (.tmp 138) = .bool false := r138
                clear r138
                refine ⟨138, rfl, .inl ⟨e138, ?_⟩⟩
                exact ⟨e15, Below.refl _ _⟩
              case s4 =>
                intro ρ W hb hc hf hr
                obtain ⟨r139, r138, -⟩ := hr
                have e139 : ρ (.tmp 139) = .slice A8 64 cap8 := r139
                clear r139
                have e138 : ρ (.tmp 138) = .bool false := r138
                clear r138
                refine ⟨138, rfl, .inl ⟨e138, ?_⟩⟩
                exact soft_conv e139 (conv_lies (HL8c.out.below (hbd.trans (hb.mono (by simp)))) (Plain.full_length c)) rfl
              case s5 =>
                intro ρ W hb hc hf hr
                obtain ⟨r14, r138, -⟩ := hr
                have e14 : ρ (.tmp 14) = .int .u8 (c.toNat : Int) := r14
                clear r14
                have e138 : ρ (.tmp 138) = .bool false := r138
                clear r138
                refine ⟨138, rfl, .inl ⟨e138, ?_⟩⟩
                exact ⟨e14, Below.refl _ _⟩
              case s6 =>
                intro ρ W hb hc hf hr
                obtain ⟨r141, r138, -⟩ := hr
                have e141 : ρ (.tmp 141) = .int .u8 (c.toNat : Int) := r141
                clear r141
                have e138 : ρ (.tmp 138) = .bool false := r138
                clear r138
                refine ⟨138, rfl, .inl ⟨e138, ?_⟩⟩
                exact soft_full hf e141 rfl
              case s7 =>
                intro ρ W hb hc hf hr
                obtain ⟨r142, r138, -⟩ := hr
                have e138 : ρ (.tmp 138) = .bool false := r138
                clear r138
                refine ⟨138, rfl, .inl ⟨e138, ?_⟩⟩
                exact soft_convL r142 (Plain.full_length c) rfl
              case s8 =>
                intro ρ W hb hc hf hr
                obtain ⟨r140, r143, r138, -⟩ := hr
                have e140 : ρ (.tmp 140) = .string (str (Plain.full c)) := r140
                clear r140
                have e143 : ρ (.tmp 143) = .string (str (Plain.full c)) := r143
                clear r143
                have e138 : ρ (.tmp 138) = .bool false := r138
                clear r138
                refine ⟨138, rfl, .inl ⟨e138, ?_⟩⟩
                exact soft_bin e140 e143 rfl rfl (ne_text W _)
              case s9 =>
                intro ρ W hb hc hf hr
                obtain ⟨r138, r144, -⟩ := hr
                have e138 : ρ (.tmp 138) = .bool false := r138
                clear r138
                have e144 : ρ (.tmp 144) = .bool false := r144
                clear r144
                refine under_none rfl ?_
                simp [execOp, e138, e144, go_sem, softUpon, Fact.is, Below.refl]
              case fin =>
                intro a w1 hb hd hsz hk
                have ea := act_puts hd hsz rfl hk
                have k136 : a.tmps.getD 136 undef = .int .i64 0 := hk 136
                have k137 : a.tmps.getD 137 undef = .bool false := hk 137
                have k138 : a.tmps.getD 138 undef = .bool false := hk 138
                have k139 : a.tmps.getD 139 undef = .slice A8 64 cap8 := hk 139
                have k140 : a.tmps.getD 140 undef = .string (str (Plain.full c)) := hk 140
                have k141 : a.tmps.getD 141 undef = .int .u8 (c.toNat : Int) := hk 141
                have k142 : (Fact.lie 64 (cells (Plain.full c))).φ (a.tmps.getD 142 undef) w1 := hk 142
                have k143 : a.tmps.getD 143 undef = .string (str (Plain.full c)) := hk 143
                have k144 : a.tmps.getD 144 undef = .bool false := hk 144
                have k145 : a.tmps.getD 145 undef = .bool false := hk 145
                clear hk hd hsz
                simp only [List.map_cons, List.map_nil, List.foldl_cons, List.foldl_nil, k136, k137, k138, k139, k140, k141, k143, k144, k145] at ea
                clear k136 k137 k138 k139 k140 k141 k143 k144 k145
                generalize a.tmps.getD 142 undef = v142 at ea k142
                simp only [Act.put, List.setIfInBounds_toArray, List.set_cons_succ, List.set_cons_zero] at ea
                subst ea
                have dV := hbd.trans (hb.mono (by simp))
                have HB := Lib.hid (HB.out.trans (dV.mono (by omega)))
                have HP := Lib.hid (HP.out.below dV)
                have HK8 := Lib.hid (HK8.out.below dV)
                have HL8 := Lib.hid (HL8.out.below dV)
                have HLL := Lib.hid (HLL.out.below dV)
                clear hb dV
                go_wp2
                go_roundw
                case rel => exact ⟨i + 1, by rw [HCS.out]; first | done | go_num, by go_num, by omega, HP.out, HK8.out, HL8.out, HLL.out, HB.out⟩
                case measure => simp [RowKit.intOf]; omega
          | false =>
            by_cases hkm : kc < m
            · have hkml : kc < d.loose.length := by rw [HM.out]; exact hkm
              obtain ⟨al, rfl, -, hlo0⟩ := HLL.out.at_ (k := kc) (by rw [nums_length]; exact hkml)
              obtain ⟨lo, hlx⟩ : ∃ lo, d.loose[kc] = lo := ⟨_, rfl⟩
              have hlo : wr.cell? (al.add kc) = some (.int .i64 (lo : Int)) := by
                rw [hlo0]; simp [nums, hlx]
              have hne : lo ≠ i := fun e => by
                have h1 := (HAT.out (by rw [HKR.out.n]; exact hi8)).1 (by rw [List.getElem?_eq_getElem hkml, hlx, e])
                rw [hs] at h1
                cases h1
              have hidx := run_idxInt wr al m capl kc hkm
              have t1 : decide ((kc : Int) < (m : Int)) = true := decide_eq_true (by omega)
              have t3 : ((lo : Int) == (i : Int)) = false := by simp; omega
              clear hlo0 hlx
              obtain ⟨hkl2, hsec⟩ := HKR.out.firm keep i hi8 hs
              rw [HPE.out] at hsec
              obtain ⟨c, hc⟩ : ∃ c, Lk i = c := ⟨_, rfl⟩
              rw [hc] at ck hsec
              rw [← hkl2, hc] at cl
              have HSC := Lib.hid hsec
              have HCK := Lib.hid (fun (W : World) (hW : Below wr.heap.size wr W) => run_loadU8 W ⟨q, i, none⟩ (c.toNat : Int) (by have := (HK8.out.below hW).cell hi8; rwa [hc] at this))
              have HCL := Lib.hid (fun (W : World) (hW : Below wr.heap.size wr W) => run_loadU8 W ⟨q + 1, i, none⟩ (c.toNat : Int) (by have := (HL8.out.below hW).cell hi8; rwa [← hkl2, hc] at this))
              have HCS := Lib.hid (show d.cnt (i + 1) = d.cnt i by rw [d.cnt_succ i, if_neg (by rw [hs]; simp)]; rfl)
              rw [HKC.out] at HCS
              clear hkl2 hsec hc
              have hbd : Below wr.heap.size wr wr.drew := (Below.refl _ _).drew
              go_wp2
              refine wp_softS (by kernel_rfl) 164 [(123, [13]), (124, [7, 123]), (125, [124]), (126, [13]), (127, [8, 126]), (128, [127]), (129, [125, 128])]
                [Fact.is (.int .i64 (i : Int)), Fact.is (.pointer (some ⟨q, i, none⟩)), Fact.is (.int .u8 (c.toNat : Int)), Fact.is (.int .i64 (i : Int)), Fact.is (.pointer (some ⟨q + 1, i, none⟩)), Fact.is (.int .u8 (c.toNat : Int)), Fact.is (.bool false)]
                (by kernel_rfl) rfl rfl ⟨?s0, ?s1, ?s2, ?s3, ?s4, ?s5, ?s6, trivial⟩ ?fin
              case s0 =>
                intro ρ W hb hc hf hr
                obtain ⟨r13, -⟩ := hr
                have e13 : ρ (.tmp 13) = .int .i64 (i : Int) := r13
                clear r13
                refine under_none rfl ?_
                exact ⟨e13, Below.refl _ _⟩
              case s1 =>
                intro ρ W hb hc hf hr
                obtain ⟨r7, r123, -⟩ := hr
                have e7 : ρ (.tmp 7) = .pointer (some ⟨q, 0, none⟩) := r7
                clear r7
                have e123 : ρ (.tmp 123) = .int .i64 (i : Int) := r123
                clear r123
                refine under_none rfl ?_
                exact soft_index e7 e123 (run_index8 W q i hi8) rfl
              case s2 =>
                intro ρ W hb hc hf hr
                obtain ⟨r124, -⟩ := hr
                have e124 : ρ (.tmp 124) = .pointer (some ⟨q, i, none⟩) := r124
                clear r124
                refine under_none rfl ?_
                exact soft_load e124 (HCK.out W (hbd.trans (hb.mono (by simp)))) rfl
              case s3 =>
                intro ρ W hb hc hf hr
                obtain ⟨r13, -⟩ := hr
                have e13 : ρ (.tmp 13) = .int .i64 (i : Int) := r13
                clear r13
                refine under_none rfl ?_
                exact ⟨e13, Below.refl _ _⟩
              case s4 =>
                intro ρ W hb hc hf hr
                obtain ⟨r8, r126, -⟩ := hr
                have e8 : ρ (.tmp 8) = .pointer (some ⟨q + 1, 0, none⟩) := r8
                clear r8
                have e126 : ρ (.tmp 126) = .int .i64 (i : Int) := r126
                clear r126
                refine under_none rfl ?_
                exact soft_index e8 e126 (run_index8 W (q + 1) i hi8) rfl
              case s5 =>
                intro ρ W hb hc hf hr
                obtain ⟨r127, -⟩ := hr
                have e127 : ρ (.tmp 127) = .pointer (some ⟨q + 1, i, none⟩) := r127
                clear r127
                refine under_none rfl ?_
                exact soft_load e127 (HCL.out W (hbd.trans (hb.mono (by simp)))) rfl
              case s6 =>
                intro ρ W hb hc hf hr
                obtain ⟨r125, r128, -⟩ := hr
                have e125 : ρ (.tmp 125) = .int .u8 (c.toNat : Int) := r125
                clear r125
                have e128 : ρ (.tmp 128) = .int .u8 (c.toNat : Int) := r128
                clear r128
                refine under_none rfl ?_
                exact soft_bin e125 e128 rfl rfl (ne_u8 W c c false (by simp))
              case fin =>
                intro a w6 hb hd hsz hk
                have ea := act_puts hd hsz rfl hk
                have k123 : a.tmps.getD 123 undef = .int .i64 (i : Int) := hk 123
                have k124 : a.tmps.getD 124 undef = .pointer (some ⟨q, i, none⟩) := hk 124
                have k125 : a.tmps.getD 125 undef = .int .u8 (c.toNat : Int) := hk 125
                have k126 : a.tmps.getD 126 undef = .int .i64 (i : Int) := hk 126
                have k127 : a.tmps.getD 127 undef = .pointer (some ⟨q + 1, i, none⟩) := hk 127
                have k128 : a.tmps.getD 128 undef = .int .u8 (c.toNat : Int) := hk 128
                have k129 : a.tmps.getD 129 undef = .bool false := hk 129
                clear hk hd hsz
                simp only [List.map_cons, List.map_nil, List.foldl_cons, List.foldl_nil, k123, k124, k125, k126, k127, k128, k129] at ea
                clear k123 k124 k125 k126 k127 k128 k129
                simp only [Act.put, List.setIfInBounds_toArray, List.set_cons_succ, List.set_cons_zero] at ea
                subst ea
                have dV := hbd.trans (hb.mono (by simp))
                have z6 := dV.size
                have HB := Lib.hid (HB.out.trans (dV.mono (by omega)))
                have HP := Lib.hid (HP.out.below dV)
                have HK8 := Lib.hid (HK8.out.below dV)
                have HL8 := Lib.hid (HL8.out.below dV)
                have HLL := Lib.hid (HLL.out.below dV)
                clear hb dV ck cl
                have HR1 := Lib.hid (read_any w6 g P (i : Int) HP.out)
                rw [HFP.out.read i (by rw [HNP.out]; exact hi8), HSC.out] at HR1
                go_wp2_with fail
                refine HR1.out.mono ?_
                intro e wa hg
                obtain ⟨A8, cap8, rfl, la, hBa⟩ := hg.text
                rw [Plain.full_length]
                have za := hBa.size
                have HB := Lib.hid (HB.out.trans (hBa.mono (by omega)))
                have HP := Lib.hid (HP.out.below hBa)
                have HK8 := Lib.hid (HK8.out.below hBa)
                have HL8 := Lib.hid (HL8.out.below hBa)
                have HLL := Lib.hid (HLL.out.below hBa)
                have HL8c := Lib.hid la
                have hbd : Below wa.heap.size wa wa.drew := (Below.refl _ _).drew
                clear hg la hBa HR1
                go_wp2
                refine wp_softS (by kernel_rfl) 164 [(136, [16]), (137, [136]), (138, [137]), (139, [15, 138]), (140, [139, 138]), (141, [14, 138]), (142, [141, 138]), (143, [142, 138]), (144, [140, 143, 138]), (145, [138, 144])]
                  [Fact.is (.int .i64 0), Fact.is (.bool false), Fact.is (.bool false), Fact.is (.slice A8 64 cap8), Fact.is (.string (str (Plain.full c))), Fact.is (.int .u8 (c.toNat : Int)), Fact.lie 64 (cells (Plain.full c)), Fact.is (.string (str (Plain.full c))), Fact.is (.bool false), Fact.is (.bool false)]
                  (by kernel_rfl) rfl rfl ⟨?s0, ?s1, ?s2, ?s3, ?s4, ?s5, ?s6, ?s7, ?s8, ?s9, trivial⟩ ?fin
                case s0 =>
                  intro ρ W hb hc hf hr
                  obtain ⟨r16, -⟩ := hr
                  have e16 : ρ (.tmp 16) = .int .i64 0 := r16
                  clear r16
                  refine under_none rfl ?_
                  exact ⟨e16, Below.refl _ _⟩
                case s1 =>
                  intro ρ W hb hc hf hr
                  obtain ⟨r136, -⟩ := hr
                  have e136 : ρ (.tmp 136) = .int .i64 0 := r136
                  clear r136
                  refine under_none rfl ?_
                  exact soft_bin e136 (hc _) rfl rfl (ne_errno W 0 0 false rfl)
                case s2 =>
                  intro ρ W hb hc hf hr
                  obtain ⟨r137, -⟩ := hr
                  have e137 : ρ (.tmp 137) = .bool false := r137
                  clear r137
                  refine under_none rfl ?_
                  exact ⟨e137, Below.refl _ _⟩
                case s3 =>
                  intro ρ W hb hc hf hr
                  obtain ⟨r15, r138, -⟩ := hr
                  have e15 : ρ (.tmp 15) = .slice A8 64 cap8 := r15
                  clear r15
                  have e138 : ρ (.tmp 138) = .bool false := r138
                  clear r138
                  refine ⟨138, rfl, .inl ⟨e138, ?_⟩⟩
                  exact ⟨e15, Below.refl _ _⟩
                case s4 =>
                  intro ρ W hb hc hf hr
                  obtain ⟨r139, r138, -⟩ := hr
                  have e139 : ρ (.tmp 139) = .slice A8 64 cap8 := r139
                  clear r139
                  have e138 : ρ (.tmp 138) = .bool false := r138
                  clear r138
                  refine ⟨138, rfl, .inl ⟨e138, ?_⟩⟩
                  exact soft_conv e139 (conv_lies (HL8c.out.below (hbd.trans (hb.mono (by simp)))) (Plain.full_length c)) rfl
                case s5 =>
                  intro ρ W hb hc hf hr
                  obtain ⟨r14, r138, -⟩ := hr
                  have e14 : ρ (.tmp 14) = .int .u8 (c.toNat : Int) := r14
                  clear r14
                  have e138 : ρ (.tmp 138) = .bool false := r138
                  clear r138
                  refine ⟨138, rfl, .inl ⟨e138, ?_⟩⟩
                  exact ⟨e14, Below.refl _ _⟩
                case s6 =>
                  intro ρ W hb hc hf hr
                  obtain ⟨r141, r138, -⟩ := hr
                  have e141 : ρ (.tmp 141) = .int .u8 (c.toNat : Int) := r141
                  clear r141
                  have e138 : ρ (.tmp 138) = .bool false := r138
                  clear r138
                  refine ⟨138, rfl, .inl ⟨e138, ?_⟩⟩
                  exact soft_full hf e141 rfl
                case s7 =>
                  intro ρ W hb hc hf hr
                  obtain ⟨r142, r138, -⟩ := hr
                  have e138 : ρ (.tmp 138) = .bool false := r138
                  clear r138
                  refine ⟨138, rfl, .inl ⟨e138, ?_⟩⟩
                  exact soft_convL r142 (Plain.full_length c) rfl
                case s8 =>
                  intro ρ W hb hc hf hr
                  obtain ⟨r140, r143, r138, -⟩ := hr
                  have e140 : ρ (.tmp 140) = .string (str (Plain.full c)) := r140
                  clear r140
                  have e143 : ρ (.tmp 143) = .string (str (Plain.full c)) := r143
                  clear r143
                  have e138 : ρ (.tmp 138) = .bool false := r138
                  clear r138
                  refine ⟨138, rfl, .inl ⟨e138, ?_⟩⟩
                  exact soft_bin e140 e143 rfl rfl (ne_text W _)
                case s9 =>
                  intro ρ W hb hc hf hr
                  obtain ⟨r138, r144, -⟩ := hr
                  have e138 : ρ (.tmp 138) = .bool false := r138
                  clear r138
                  have e144 : ρ (.tmp 144) = .bool false := r144
                  clear r144
                  refine under_none rfl ?_
                  simp [execOp, e138, e144, go_sem, softUpon, Fact.is, Below.refl]
                case fin =>
                  intro a w1 hb hd hsz hk
                  have ea := act_puts hd hsz rfl hk
                  have k136 : a.tmps.getD 136 undef = .int .i64 0 := hk 136
                  have k137 : a.tmps.getD 137 undef = .bool false := hk 137
                  have k138 : a.tmps.getD 138 undef = .bool false := hk 138
                  have k139 : a.tmps.getD 139 undef = .slice A8 64 cap8 := hk 139
                  have k140 : a.tmps.getD 140 undef = .string (str (Plain.full c)) := hk 140
                  have k141 : a.tmps.getD 141 undef = .int .u8 (c.toNat : Int) := hk 141
                  have k142 : (Fact.lie 64 (cells (Plain.full c))).φ (a.tmps.getD 142 undef) w1 := hk 142
                  have k143 : a.tmps.getD 143 undef = .string (str (Plain.full c)) := hk 143
                  have k144 : a.tmps.getD 144 undef = .bool false := hk 144
                  have k145 : a.tmps.getD 145 undef = .bool false := hk 145
                  clear hk hd hsz
                  simp only [List.map_cons, List.map_nil, List.foldl_cons, List.foldl_nil, k136, k137, k138, k139, k140, k141, k143, k144, k145] at ea
                  clear k136 k137 k138 k139 k140 k141 k143 k144 k145
                  generalize a.tmps.getD 142 undef = v142 at ea k142
                  simp only [Act.put, List.setIfInBounds_toArray, List.set_cons_succ, List.set_cons_zero] at ea
                  subst ea
                  have dV := hbd.trans (hb.mono (by simp))
                  have HB := Lib.hid (HB.out.trans (dV.mono (by omega)))
                  have HP := Lib.hid (HP.out.below dV)
                  have HK8 := Lib.hid (HK8.out.below dV)
                  have HL8 := Lib.hid (HL8.out.below dV)
                  have HLL := Lib.hid (HLL.out.below dV)
                  clear hb dV
                  go_wp2
                  go_roundw
                  case rel => exact ⟨i + 1, by rw [HCS.out]; first | done | go_num, by go_num, by omega, HP.out, HK8.out, HL8.out, HLL.out, HB.out⟩
                  case measure => simp [RowKit.intOf]; omega
            · have t1 : decide ((kc : Int) < (m : Int)) = false := decide_eq_false (by omega)
              obtain ⟨hkl2, hsec⟩ := HKR.out.firm keep i hi8 hs
              rw [HPE.out] at hsec
              obtain ⟨c, hc⟩ : ∃ c, Lk i = c := ⟨_, rfl⟩
              rw [hc] at ck hsec
              rw [← hkl2, hc] at cl
              have HSC := Lib.hid hsec
              have HCK := Lib.hid (fun (W : World) (hW : Below wr.heap.size wr W) => run_loadU8 W ⟨q, i, none⟩ (c.toNat : Int) (by have := (HK8.out.below hW).cell hi8; rwa [hc] at this))
              have HCL := Lib.hid (fun (W : World) (hW : Below wr.heap.size wr W) => run_loadU8 W ⟨q + 1, i, none⟩ (c.toNat : Int) (by have := (HL8.out.below hW).cell hi8; rwa [← hkl2, hc] at this))
              have HCS := Lib.hid (show d.cnt (i + 1) = d.cnt i by rw [d.cnt_succ i, if_neg (by rw [hs]; simp)]; rfl)
              rw [HKC.out] at HCS
              clear hkl2 hsec hc
              have hbd : Below wr.heap.size wr wr.drew := (Below.refl _ _).drew
              go_wp2
              refine wp_softS (by kernel_rfl) 164 [(123, [13]), (124, [7, 123]), (125, [124]), (126, [13]), (127, [8, 126]), (128, [127]), (129, [125, 128])]
                [Fact.is (.int .i64 (i : Int)), Fact.is (.pointer (some ⟨q, i, none⟩)), Fact.is (.int .u8 (c.toNat : Int)), Fact.is (.int .i64 (i : Int)), Fact.is (.pointer (some ⟨q + 1, i, none⟩)), Fact.is (.int .u8 (c.toNat : Int)), Fact.is (.bool false)]
                (by kernel_rfl) rfl rfl ⟨?s0, ?s1, ?s2, ?s3, ?s4, ?s5, ?s6, trivial⟩ ?fin
              case s0 =>
                intro ρ W hb hc hf hr
                obtain ⟨r13, -⟩ := hr
                have e13 : ρ (.tmp 13) = .int .i64 (i : Int) := r13
                clear r13
                refine under_none rfl ?_
                exact ⟨e13, Below.refl _ _⟩
              case s1 =>
                intro ρ W hb hc hf hr
                obtain ⟨r7, r123, -⟩ := hr
                have e7 : ρ (.tmp 7) = .pointer (some ⟨q, 0, none⟩) := r7
                clear r7
                have e123 : ρ (.tmp 123) = .int .i64 (i : Int) := r123
                clear r123
                refine under_none rfl ?_
                exact soft_index e7 e123 (run_index8 W q i hi8) rfl
              case s2 =>
                intro ρ W hb hc hf hr
                obtain ⟨r124, -⟩ := hr
                have e124 : ρ (.tmp 124) = .pointer (some ⟨q, i, none⟩) := r124
                clear r124
                refine under_none rfl ?_
                exact soft_load e124 (HCK.out W (hbd.trans (hb.mono (by simp)))) rfl
              case s3 =>
                intro ρ W hb hc hf hr
                obtain ⟨r13, -⟩ := hr
                have e13 : ρ (.tmp 13) = .int .i64 (i : Int) := r13
                clear r13
                refine under_none rfl ?_
                exact ⟨e13, Below.refl _ _⟩
              case s4 =>
                intro ρ W hb hc hf hr
                obtain ⟨r8, r126, -⟩ := hr
                have e8 : ρ (.tmp 8) = .pointer (some ⟨q + 1, 0, none⟩) := r8
                clear r8
                have e126 : ρ (.tmp 126) = .int .i64 (i : Int) := r126
                clear r126
                refine under_none rfl ?_
                exact soft_index e8 e126 (run_index8 W (q + 1) i hi8) rfl
              case s5 =>
                intro ρ W hb hc hf hr
                obtain ⟨r127, -⟩ := hr
                have e127 : ρ (.tmp 127) = .pointer (some ⟨q + 1, i, none⟩) := r127
                clear r127
                refine under_none rfl ?_
                exact soft_load e127 (HCL.out W (hbd.trans (hb.mono (by simp)))) rfl
              case s6 =>
                intro ρ W hb hc hf hr
                obtain ⟨r125, r128, -⟩ := hr
                have e125 : ρ (.tmp 125) = .int .u8 (c.toNat : Int) := r125
                clear r125
                have e128 : ρ (.tmp 128) = .int .u8 (c.toNat : Int) := r128
                clear r128
                refine under_none rfl ?_
                exact soft_bin e125 e128 rfl rfl (ne_u8 W c c false (by simp))
              case fin =>
                intro a w6 hb hd hsz hk
                have ea := act_puts hd hsz rfl hk
                have k123 : a.tmps.getD 123 undef = .int .i64 (i : Int) := hk 123
                have k124 : a.tmps.getD 124 undef = .pointer (some ⟨q, i, none⟩) := hk 124
                have k125 : a.tmps.getD 125 undef = .int .u8 (c.toNat : Int) := hk 125
                have k126 : a.tmps.getD 126 undef = .int .i64 (i : Int) := hk 126
                have k127 : a.tmps.getD 127 undef = .pointer (some ⟨q + 1, i, none⟩) := hk 127
                have k128 : a.tmps.getD 128 undef = .int .u8 (c.toNat : Int) := hk 128
                have k129 : a.tmps.getD 129 undef = .bool false := hk 129
                clear hk hd hsz
                simp only [List.map_cons, List.map_nil, List.foldl_cons, List.foldl_nil, k123, k124, k125, k126, k127, k128, k129] at ea
                clear k123 k124 k125 k126 k127 k128 k129
                simp only [Act.put, List.setIfInBounds_toArray, List.set_cons_succ, List.set_cons_zero] at ea
                subst ea
                have dV := hbd.trans (hb.mono (by simp))
                have z6 := dV.size
                have HB := Lib.hid (HB.out.trans (dV.mono (by omega)))
                have HP := Lib.hid (HP.out.below dV)
                have HK8 := Lib.hid (HK8.out.below dV)
                have HL8 := Lib.hid (HL8.out.below dV)
                have HLL := Lib.hid (HLL.out.below dV)
                clear hb dV ck cl
                have HR1 := Lib.hid (read_any w6 g P (i : Int) HP.out)
                rw [HFP.out.read i (by rw [HNP.out]; exact hi8), HSC.out] at HR1
                go_wp2_with fail
                refine HR1.out.mono ?_
                intro e wa hg
                obtain ⟨A8, cap8, rfl, la, hBa⟩ := hg.text
                rw [Plain.full_length]
                have za := hBa.size
                have HB := Lib.hid (HB.out.trans (hBa.mono (by omega)))
                have HP := Lib.hid (HP.out.below hBa)
                have HK8 := Lib.hid (HK8.out.below hBa)
                have HL8 := Lib.hid (HL8.out.below hBa)
                have HLL := Lib.hid (HLL.out.below hBa)
                have HL8c := Lib.hid la
                have hbd : Below wa.heap.size wa wa.drew := (Below.refl _ _).drew
                clear hg la hBa HR1
                go_wp2
                refine wp_softS (by kernel_rfl) 164 [(136, [16]), (137, [136]), (138, [137]), (139, [15, 138]), (140, [139, 138]), (141, [14, 138]), (142, [141, 138]), (143, [142, 138]), (144, [140, 143, 138]), (145, [138, 144])]
                  [Fact.is (.int .i64 0), Fact.is (.bool false), Fact.is (.bool false), Fact.is (.slice A8 64 cap8), Fact.is (.string (str (Plain.full c))), Fact.is (.int .u8 (c.toNat : Int)), Fact.lie 64 (cells (Plain.full c)), Fact.is (.string (str (Plain.full c))), Fact.is (.bool false), Fact.is (.bool false)]
                  (by kernel_rfl) rfl rfl ⟨?s0, ?s1, ?s2, ?s3, ?s4, ?s5, ?s6, ?s7, ?s8, ?s9, trivial⟩ ?fin
                case s0 =>
                  intro ρ W hb hc hf hr
                  obtain ⟨r16, -⟩ := hr
                  have e16 : ρ (.tmp 16) = .int .i64 0 := r16
                  clear r16
                  refine under_none rfl ?_
                  exact ⟨e16, Below.refl _ _⟩
                case s1 =>
                  intro ρ W hb hc hf hr
                  obtain ⟨r136, -⟩ := hr
                  have e136 : ρ (.tmp 136) = .int .i64 0 := r136
                  clear r136
                  refine under_none rfl ?_
                  exact soft_bin e136 (hc _) rfl rfl (ne_errno W 0 0 false rfl)
                case s2 =>
                  intro ρ W hb hc hf hr
                  obtain ⟨r137, -⟩ := hr
                  have e137 : ρ (.tmp 137) = .bool false := r137
                  clear r137
                  refine under_none rfl ?_
                  exact ⟨e137, Below.refl _ _⟩
                case s3 =>
                  intro ρ W hb hc hf hr
                  obtain ⟨r15, r138, -⟩ := hr
                  have e15 : ρ (.tmp 15) = .slice A8 64 cap8 := r15
                  clear r15
                  have e138 : ρ (.tmp 138) = .bool false := r138
                  clear r138
                  refine ⟨138, rfl, .inl ⟨e138, ?_⟩⟩
                  exact ⟨e15, Below.refl _ _⟩
                case s4 =>
                  intro ρ W hb hc hf hr
                  obtain ⟨r139, r138, -⟩ := hr
                  have e139 : ρ (.tmp 139) = .slice A8 64 cap8 := r139
                  clear r139
                  have e138 : ρ (.tmp 138) = .bool false := r138
                  clear r138
                  refine ⟨138, rfl, .inl ⟨e138, ?_⟩⟩
                  exact soft_conv e139 (conv_lies (HL8c.out.below (hbd.trans (hb.mono (by simp)))) (Plain.full_length c)) rfl
                case s5 =>
                  intro ρ W hb hc hf hr
                  obtain ⟨r14, r138, -⟩ := hr
                  have e14 : ρ (.tmp 14) = .int .u8 (c.toNat : Int) := r14
                  clear r14
                  have e138 : ρ (.tmp 138) = .bool false := r138
                  clear r138
                  refine ⟨138, rfl, .inl ⟨e138, ?_⟩⟩
                  exact ⟨e14, Below.refl _ _⟩
                case s6 =>
                  intro ρ W hb hc hf hr
                  obtain ⟨r141, r138, -⟩ := hr
                  have e141 : ρ (.tmp 141) = .int .u8 (c.toNat : Int) := r141
                  clear r141
                  have e138 : ρ (.tmp 138) = .bool false := r138
                  clear r138
                  refine ⟨138, rfl, .inl ⟨e138, ?_⟩⟩
                  exact soft_full hf e141 rfl
                case s7 =>
                  intro ρ W hb hc hf hr
                  obtain ⟨r142, r138, -⟩ := hr
                  have e138 : ρ (.tmp 138) = .bool false := r138
                  clear r138
                  refine ⟨138, rfl, .inl ⟨e138, ?_⟩⟩
                  exact soft_convL r142 (Plain.full_length c) rfl
                case s8 =>
                  intro ρ W hb hc hf hr
                  obtain ⟨r140, r143, r138, -⟩ := hr
                  have e140 : ρ (.tmp 140) = .string (str (Plain.full c)) := r140
                  clear r140
                  have e143 : ρ (.tmp 143) = .string (str (Plain.full c)) := r143
                  clear r143
                  have e138 : ρ (.tmp 138) = .bool false := r138
                  clear r138
                  refine ⟨138, rfl, .inl ⟨e138, ?_⟩⟩
                  exact soft_bin e140 e143 rfl rfl (ne_text W _)
                case s9 =>
                  intro ρ W hb hc hf hr
                  obtain ⟨r138, r144, -⟩ := hr
                  have e138 : ρ (.tmp 138) = .bool false := r138
                  clear r138
                  have e144 : ρ (.tmp 144) = .bool false := r144
                  clear r144
                  refine under_none rfl ?_
                  simp [execOp, e138, e144, go_sem, softUpon, Fact.is, Below.refl]
                case fin =>
                  intro a w1 hb hd hsz hk
                  have ea := act_puts hd hsz rfl hk
                  have k136 : a.tmps.getD 136 undef = .int .i64 0 := hk 136
                  have k137 : a.tmps.getD 137 undef = .bool false := hk 137
                  have k138 : a.tmps.getD 138 undef = .bool false := hk 138
                  have k139 : a.tmps.getD 139 undef = .slice A8 64 cap8 := hk 139
                  have k140 : a.tmps.getD 140 undef = .string (str (Plain.full c)) := hk 140
                  have k141 : a.tmps.getD 141 undef = .int .u8 (c.toNat : Int) := hk 141
                  have k142 : (Fact.lie 64 (cells (Plain.full c))).φ (a.tmps.getD 142 undef) w1 := hk 142
                  have k143 : a.tmps.getD 143 undef = .string (str (Plain.full c)) := hk 143
                  have k144 : a.tmps.getD 144 undef = .bool false := hk 144
                  have k145 : a.tmps.getD 145 undef = .bool false := hk 145
                  clear hk hd hsz
                  simp only [List.map_cons, List.map_nil, List.foldl_cons, List.foldl_nil, k136, k137, k138, k139, k140, k141, k143, k144, k145] at ea
                  clear k136 k137 k138 k139 k140 k141 k143 k144 k145
                  generalize a.tmps.getD 142 undef = v142 at ea k142
                  simp only [Act.put, List.setIfInBounds_toArray, List.set_cons_succ, List.set_cons_zero] at ea
                  subst ea
                  have dV := hbd.trans (hb.mono (by simp))
                  have HB := Lib.hid (HB.out.trans (dV.mono (by omega)))
                  have HP := Lib.hid (HP.out.below dV)
                  have HK8 := Lib.hid (HK8.out.below dV)
                  have HL8 := Lib.hid (HL8.out.below dV)
                  have HLL := Lib.hid (HLL.out.below dV)
                  clear hb dV
                  go_wp2
                  go_roundw
                  case rel => exact ⟨i + 1, by rw [HCS.out]; first | done | go_num, by go_num, by omega, HP.out, HK8.out, HL8.out, HLL.out, HB.out⟩
                  case measure => simp [RowKit.intOf]; omega
        · obtain rfl : i = 8 := by omega
          have hcm : kc = m := by rw [← HKC.out, ← HM.out, ← d.cnt_all, HKR.out.n]
          subst hcm
          have HLO := Lib.hid (loose_any wr g P HP.out)
          rw [HLP.out] at HLO
          go_wp2_with fail
          refine HLO.out.mono ?_
          rintro e wl2 ⟨v, rfl, hown, hBl⟩
          obtain ⟨Ar, capr, rfl, -, -, -, -, -⟩ := own_off hown
          have zl2 := hBl.size
          have HB := Lib.hid (HB.out.trans (hBl.mono (by omega)))
          have HDW := Lib.hid (show Calls Try.prog 27 #[.pointer (some ⟨g + 2, 0, none⟩)] wl2 fun e w' => e = .returned (.bool false) ∧ wl2 = w' from by
            have := down_any wl2 g P (HP.out.below hBl)
            rwa [HFP.out.down] at this)
          clear hown hBl HLO
          go_wp2_with fail
          refine HDW.out.mono ?_
          rintro e w' ⟨rfl, rfl⟩
          go_wp2
          go_returns
          exact ⟨rfl, HB.out⟩


set_option maxRecDepth 100000 in
theorem lifted (os : Os) (started : os.Started) (H : Type) (enc : TypeId × Value → H) :
    ReturnsInHanded {} Try.checked os 4 .any (Rows.devKeptSpec.pre6 enc Try.prog Try.f4 Rows.devKeptRow.domain false) (Rows.devKeptSpec.post enc Try.prog Try.f4 false true false false) := by
  refine returnsInHanded_of_change (C := Try.checked) own started (by kernel_rfl) Try.func4
    (ChangeSpec.witness6 (enc := enc) (C := Try.checked) false ⟨#[], #[.slice none 0 0, .slice none 0 0], []⟩ 8 (by kernel_rfl) (by kernel_rfl) (by kernel_rfl) (by kernel_rfl)) ?_
  intro W base args ds gs before hval0 hW hcnd _
  have hval : ∀ (j : Nat) t v, Try.f4.params[j]? = some t → args[j]? = some v → Value.okWide Try.prog W .any base t v := hval0
  have hfin := fun W' => law_post (enc := enc) (P := Try.prog) (f := Try.f4) (s := Rows.devKeptSpec) (tb := 4) (W := W) (W' := W') (args := args) (ds := ds) (gs := gs) (before := before) laidOut rfl (by kernel_rfl) Try.underlying4 (by kernel_rfl) (fun xs h => by rw [Try.params4] at h; match xs, h with | [_, _], _ => rfl) hW
  have hlt : ∀ x ∈ before, x.block < W.heap.size := fun x hx => hW.lt x hx
  obtain ⟨p, q, hA0, hV, rfl, hfz, hnd⟩ := hW
  have hA : DataW.TrodAll enc Try.prog W 0 (fun _ => true) true Try.f4.params.toList args.toList ds p := hA0
  rw [Try.params4] at hA hval
  obtain ⟨v0, vs0, d0, ds0, p0, q0, hargs, rfl, rfl, h0, r0⟩ := trodAll_cons hA
  obtain ⟨v1, vs1, d1, ds1, p1, q1, rfl, rfl, rfl, h1, r1⟩ := trodAll_cons r0
  obtain ⟨rfl, rfl, rfl⟩ := trodAll_nil r1
  obtain rfl : args = #[v0, v1] := by cases args; simp_all
  obtain ⟨A0, cap0, l0, rfl, hl0, hm0, hB0, hQ0⟩ := open_oqs (hval 0 22 v0 rfl rfl) h0 (fun x hx => hlt x (by simp [hx]))
  obtain ⟨A1, cap1, l1, rfl, hl1, hm1, hB1⟩ := open_bools (hval 1 30 v1 rfl rfl) h1 (fun x hx => hlt x (by simp [hx]))
  refine (walk W A0 cap0 l0 hl0 hm0 hB0 hQ0 A1 cap1 l1 hl1 hm1 hB1).mono fun e W' ⟨he, hg⟩ => ?_
  subst he
  exact ⟨_, rfl, hfin W' hg⟩

theorem proved : Rows.DevKeptSaid :=
  OpenClaim.holds_of_wide 4 Try.f4 rfl rfl rfl rfl rfl rfl rfl ⟨rfl, rfl, rfl, rfl, rfl⟩ rfl rfl rfl rfl rfl (by kernel_rfl) Try.func4 (by kernel_rfl)
    (of_decide_eq_true (by kernel_rfl)) (by unfold Func.isWrapper; first | (rw [if_pos (by decide +kernel)]; kernel_rfl) | (rw [if_neg (by decide +kernel)]; exact ⟨rfl, rfl⟩))
    (fun os started H enc _ => lifted os started H enc)
#print axioms proved
end Go.Proofs.Ytldecmodhppjpaa.devKept
