/-
  Calls of a device of any size, of any kind, answer as the document says: the law DevPlays returns true at any input, and leaves what it was given as it was. Nothing is assumed.
-/
import Derived.Test.YtldecmodhppjpaaRfB

namespace Go.Proofs.Ytldecmodhppjpaa.devPlays
open Go.ChangeShapes Go.WideShapes Go.ChangeAt Go.RowKit
set_option maxRecDepth 100000

theorem late_assign {P : Program} {W : World} {a : Act} {o : Oper} {x : Operand} {v : Value} {K : Act → World → Prop} {Q : Exit → Act → World → Prop} (ho : o.op = .assign x) (hx : a.eval x = v) (hK : K (a.put o.dst v) W) : o.wp P a W K Q := by
  unfold Oper.wp
  simp [execOp, ho, hx]
  exact hK
def WrA (g : Nat) (R : Plain.Dv × Nat) (w0 : World) (p : Nat) (vs : List Value) (w' : World) : Prop := IsDev w' g R.1 ∧ Kept [g + 1, g + 2] w0 w' ∧ vs[0]? = some (.int .i64 (R.2 : Int)) ∧ (p = 2 → vs[1]? = some (.int .i64 (R.2 : Int)))
def WrQ (bk bw bl g : Nat) (R : Plain.Dv × Nat) (w0 : World) (p : Nat) (vs : List Value) (w' : World) : Prop := IsRef w' bk bw bl g R.1 ∧ Kept [bw, bl, g] w0 w' ∧ vs[0]? = some (.int .i64 (R.2 : Int)) ∧ (p = 2 → vs[1]? = some (.int .i64 (R.2 : Int)))
theorem apart7 {w : World} {bk bw bl g b : Nat} {d : Plain.Dv} {cs : Array Value} (h : IsRef w bk bw bl g d) (hb : Blk w b cs 5) : b ≠ g := by
  rintro rfl
  have h1 := h.box.symm.trans hb
  injection h1 with h1
  injection h1 with _ h2
  exact absurd h2 (by decide)
theorem late_rwrite {W W0 : World} {a : Act} {o : Oper} {x y z : Operand} {ats : Array TypeId} {K : Act → World → Prop} {Q : Exit → Act → World → Prop} {bk bw bl g : Nat} {d : Plain.Dv} {i : Int} {c : UInt8}
    (ho : o.op = .call { callee := .value (.func 14), args := #[x, y, z], argTypes := ats }) (hx : a.eval x = .pointer (some ⟨g, 0, none⟩)) (hy : a.eval y = .int .i64 i) (hz : (Fact.fl c).φ (a.eval z) W) (hW : Below W0.heap.size W0 W) (hdone : d.done < 4611686018427387904) (h : IsRef W0 bk bw bl g d)
    (hK : ∀ w', IsRef w' bk bw bl g (d.write i (Plain.full c)).1 → Kept [bw, bl, g] W0 w' → K (a.put o.dst (.int .i64 ((d.write i (Plain.full c)).2 : Int))) w') : o.wp Try.prog a W K Q := by
  obtain ⟨b, e, hb⟩ := hz
  have hr := h.below hW
  have hl := hb.lies
  rw [List.toList_toArray] at hl
  have hne := apart7 hr hb
  refine late_call3 ho hx hy e (by kernel_rfl) (rwrite_any W bk bw bl g d i _ 64 64 (Plain.full c) (Plain.full_length c) hl (.inr fun ad e hm => by injection e with e; subst e; simp at hm; exact hne hm) hdone hr) ?_
  rintro e w' ⟨rfl, h1, h2⟩
  exact ⟨_, rfl, hK w' h1 ((Kept.of hW _).trans h2)⟩
theorem boot_done (d : Plain.Dv) (keep : List Bool) (hurt : List Plain.Hu) : (d.boot keep hurt).done = d.done := rfl
theorem cutAt_same (d : Plain.Dv) (a : Int) : (d.cutAt a).done = d.done ∧ (d.cutAt a).n = d.n := by
  unfold Plain.Dv.cutAt; split <;> exact ⟨rfl, rfl⟩

set_option maxHeartbeats 8000000 in
theorem walk (w : World) (t : Int) (_ht : -9223372036854775808 ≤ t ∧ t ≤ 9223372036854775807) (A : Option Addr) (cap : Nat) (l : List Oq) (hl : l.length ≤ cap) (hm : cap ≤ maxLen) (hA : Lies w A (flatQ l)) (hQ : ∀ u ∈ l, OqIn w u) :
    Calls Try.prog 3 #[.int .i64 t, .slice A l.length cap] w fun e w' => e = .returned (.bool true) ∧ Below w.heap.size w w' := by
  obtain ⟨n, hn⟩ : ∃ n, l.length = n := ⟨_, rfl⟩
  have HN := Lib.hid hn
  have HA := Lib.hid hA
  have HQ := Lib.hid hQ
  rw [hn] at hl
  rw [hn]
  unfold maxLen at hm
  clear hn hA hQ
  go_enter Try.func3, Try.ntmps3
  go_wp2_with fail
  refine (head_any w).mono ?_
  rintro e w0 ⟨rfl, hB0⟩
  have z0 := hB0.size
  by_cases h40 : (40 : Int) < t
  · have t1 : decide ((40 : Int) < t) = true := decide_eq_true h40
    go_wp2
    go_returns
    exact ⟨rfl, hB0⟩
  have t1 : decide ((40 : Int) < t) = false := decide_eq_false h40
  have HB0 := Lib.hid hB0
  have HG := Lib.hid (great_any A n cap l w0 HN.out (by unfold maxLen; omega) (HA.out.below hB0))
  clear hB0
  go_wp2_with fail
  refine HG.out.mono ?_
  rintro e w1 ⟨r, rfl, hr, hB1⟩
  have HR := Lib.hid hr
  have z1 := hB1.size
  have HB1 := Lib.hid (HB0.out.trans (hB1.mono z0))
  clear hr hB1 HG HB0
  rcases r with _ | _
  case true =>
    go_wp2
    go_returns
    exact ⟨rfl, HB1.out⟩
  have hn2 : n ≤ 200 := HR.out rfl
  clear HR
  by_cases h1 : t < 1
  · have HNo := Lib.hid (newDev_no t w1 (.inl h1))
    have HRo := Lib.hid (rnew_no t w1 (.inl h1))
    go_wp2_with fail
    refine HNo.out.mono ?_
    rintro e w' ⟨rfl, rfl⟩
    go_wp2_with fail
    refine HRo.out.mono ?_
    rintro e w' ⟨rfl, rfl⟩
    go_wp2
    go_returns
    exact ⟨rfl, HB1.out⟩
  obtain ⟨N, rfl⟩ := Int.eq_ofNat_of_zero_le (show 0 ≤ t by omega)
  have hN1 : 1 ≤ N := by omega
  have hN2 : N ≤ 40 := by omega
  clear h40 h1 t1
  go_wp2_with fail
  refine Calls.mono (newDev_yes N w1 hN1 (by omega)) ?_
  rintro e w2 ⟨rfl, hd1, hB2⟩
  obtain ⟨g, hg⟩ : ∃ g, w1.heap.size = g := ⟨_, rfl⟩
  rw [hg] at hd1 hB2 z1 ⊢
  have z2 := hd1.lt
  have HB2 := Lib.hid (HB1.out.trans (hB2.mono (by omega)))
  have HD := Lib.hid hd1
  clear hd1 hB2 hg HB1
  go_wp2_with fail
  refine Calls.mono (rnew_yes N w2 hN1 (by omega)) ?_
  rintro e w3 ⟨bk, bw, bl, gr, rfl, hr3, hB3, hown⟩
  have HD := Lib.hid (HD.out.below hB3)
  have HB := Lib.hid (HB2.out.trans (hB3.mono (by omega)))
  have HR := Lib.hid hr3
  have zg : w.heap.size ≤ g := by omega
  clear hr3 hB3 HB2
  go_wp2
  go_loopw [8] (fun s wr => ∃ k : Nat, s = .int .i64 (k : Int) ∧ k ≤ n ∧ (∃ d : Plain.Dv, IsDev wr g d ∧ IsRef wr bk bw bl gr d ∧ d.done ≤ k ∧ d.n = N) ∧ Below w.heap.size w wr) (fun s _ => n - (RowKit.intOf s).toNat)
  case atStart => exact ⟨0, rfl, Nat.zero_le _, ⟨_, HD.out, HR.out, Nat.zero_le _, rfl⟩, HB.out⟩
  case round =>
    clear HD HR HB
    obtain ⟨k, rfl, hk, ⟨d, hd, hr, hdn, hdN⟩, hB⟩ := hrel
    have HD := Lib.hid hd
    have HR := Lib.hid hr
    have HB := Lib.hid hB
    have HDN := Lib.hid hdN
    have zr := hB.size
    clear hd hr hB hdN
    by_cases hkn : k < n
    · have hkl : k < l.length := by rw [HN.out]; exact hkn
      obtain ⟨ad, rfl, hadb, hc⟩ := at_oq (HA.out.below HB.out) k hkl
      have HQI := Lib.hid (HQ.out _ (List.getElem_mem hkl))
      obtain ⟨x, hx⟩ : ∃ x, l[k] = x := ⟨_, rfl⟩
      rw [hx] at hc HQI
      have hx1 := HQI.out.at1
      obtain ⟨xw, xa, xc, xbA, xbc, xb, xkA, xkc, xk, xhA, xhc, xh⟩ := x
      simp only at hc hx1
      obtain ⟨c0, c1, c2, c3, c4, c5⟩ := hc wr (Below.refl _ _)
      clear hc hx
      have hB6 := (Below.refl wr.heap.size wr).alloc (Nat.le_refl _) (.cells #[.int .i64 xw, .int .i64 xa, .int .u8 (xc.toNat : Int), .slice xbA xb.length xbc, .slice xkA xk.length xkc, .slice xhA xh.length xhc] 33)
      have HBO := Lib.hid (Blk.new wr #[.int .i64 xw, .int .i64 xa, .int .u8 (xc.toNat : Int), .slice xbA xb.length xbc, .slice xkA xk.length xkc, .slice xhA xh.length xhc] 33)
      have hlts := HR.out.lts
      have hlt := HD.out.lt
      obtain ⟨wo, hwo⟩ : ∃ wo, wr.alloc (.cells #[.int .i64 xw, .int .i64 xa, .int .u8 (xc.toNat : Int), .slice xbA xb.length xbc, .slice xkA xk.length xkc, .slice xhA xh.length xhc] 33) = wo := ⟨_, rfl⟩
      rw [hwo] at hB6 HBO
      have zo := hB6.size
      have HB := Lib.hid (HB.out.trans (hB6.mono zr))
      have HD := Lib.hid (HD.out.below hB6)
      have HR := Lib.hid (HR.out.below hB6)
      obtain ⟨bo, hbo⟩ : ∃ b, wr.heap.size = b := ⟨_, rfl⟩
      simp only [hbo] at HBO zr zo hlts hlt
      have o0 : wo.cell? ⟨bo, 0, none⟩ = some (.int .i64 xw) := HBO.out.cell 0
      have o1 : wo.cell? ⟨bo, 1, none⟩ = some (.int .i64 xa) := HBO.out.cell 1
      have o3 : wo.cell? ⟨bo, 3, none⟩ = some (.slice xbA xb.length xbc) := HBO.out.cell 3
      have o4 : wo.cell? ⟨bo, 4, none⟩ = some (.slice xkA xk.length xkc) := HBO.out.cell 4
      have o5 : wo.cell? ⟨bo, 5, none⟩ = some (.slice xhA xh.length xhc) := HBO.out.cell 5
      clear hB6
      by_cases h3 : xw = 3
      · subst h3
        have HL := Lib.hid (show Lies w xbA (cells xb) from HQI.out.b)
        go_wp2_with fail
        refine (write_any wo g d xa xbA xbc xb.length xb rfl (HL.out.below HB.out) (Off.of HL.out (by simp; omega)) (by omega) HD.out).mono ?_
        rintro e w5 ⟨rfl, h1, h2⟩
        have HD := Lib.hid h1
        have HR := Lib.hid (HR.out.keep h2 (by simp; omega) (by simp; omega) (by simp; omega) (by simp; omega))
        have HB := Lib.hid (h2.belowB HB.out (by omega) (by simp; omega))
        have HBO := Lib.hid (h2.blk HBO.out (by simp; omega))
        have p1 : w5.cell? ⟨bo, 1, none⟩ = some (.int .i64 xa) := HBO.out.cell 1
        have p3 : w5.cell? ⟨bo, 3, none⟩ = some (.slice xbA xb.length xbc) := HBO.out.cell 3
        have p4 : w5.cell? ⟨bo, 4, none⟩ = some (.slice xkA xk.length xkc) := HBO.out.cell 4
        have p5 : w5.cell? ⟨bo, 5, none⟩ = some (.slice xhA xh.length xhc) := HBO.out.cell 5
        have z5 := h2.size
        clear h1 h2
        go_wp2_with fail
        refine (rwrite_any w5 bk bw bl gr d xa xbA xbc xb.length xb rfl (HL.out.below HB.out) (Off.of HL.out (by simp; omega)) (by omega) HR.out).mono ?_
        rintro e w6 ⟨rfl, h1, h2⟩
        have HR := Lib.hid h1
        have HD := Lib.hid (HD.out.keep h2 (by simp; omega) (by simp; omega) (by simp; omega))
        have HB := Lib.hid (h2.belowB HB.out (by omega) (by simp; omega))
        have z6 := h2.size
        clear h1 h2
        have HDO := Lib.hid (show ((d.write xa xb).1).done ≤ k + 1 from Nat.le_trans (d.write_done _ _) (by omega))
        have HN1 := Lib.hid (show ((d.write xa xb).1).n = N from (d.write_n _ _).trans HDN.out)
        obtain ⟨D1, hD1⟩ : ∃ D, (d.write xa xb).1 = D := ⟨_, rfl⟩
        rw [hD1] at HD HR HDO HN1
        clear hD1
        have HL1 := Lib.hid (loose_any w6 g D1 HD.out)
        have zt := HB.out.size
        go_wp2_with fail
        refine HL1.out.mono ?_
        rintro e y1 ⟨v, rfl, hown1, hb1⟩
        obtain ⟨A1, cp1, rfl, _, _, hn1, hL1, _⟩ := own_off hown1
        have zy1 := hb1.size
        have HB := Lib.hid (HB.out.trans (hb1.mono (by omega)))
        have HD := Lib.hid (HD.out.below hb1)
        have HR := Lib.hid (HR.out.below hb1)
        have HA1 := Lib.hid hL1
        clear hown1 hb1 hL1 hn1 HL1
        have HL2 := Lib.hid (rloose_any y1 bk bw bl gr D1 HR.out)
        go_wp2_with fail
        refine HL2.out.mono ?_
        rintro e y2 ⟨v, rfl, hown1, hb1⟩
        obtain ⟨A2, cp2, rfl, _, _, hn1, hL1, _⟩ := own_off hown1
        have zy2 := hb1.size
        have HB := Lib.hid (HB.out.trans (hb1.mono (by omega)))
        have HD := Lib.hid (HD.out.below hb1)
        have HR := Lib.hid (HR.out.below hb1)
        have hll := D1.loose_len
        rw [HN1.out] at hll
        have HSM := Lib.hid (sameInts_any A1 A2 D1.loose.length D1.loose.length cp1 cp2 D1.loose D1.loose true (decide_eq_true rfl) y2 rfl rfl (by omega) (by omega) (HA1.out.below hb1) hL1)
        clear hown1 hb1 hL1 hn1 HL2 HA1
        go_wp2_with fail
        refine HSM.out.mono ?_
        rintro e y3 ⟨rfl, hb1⟩
        have HB := Lib.hid (HB.out.trans (hb1.mono (by omega)))
        have HD := Lib.hid (HD.out.below hb1)
        have HR := Lib.hid (HR.out.below hb1)
        clear hb1 HSM
        have HW1 := Lib.hid (down_any y3 g D1 HD.out)
        have HW2 := Lib.hid (rdown_any HR.out)
        have HE1 := Lib.hid (done_any y3 g D1 HD.out)
        have HE2 := Lib.hid (rdone_any HR.out)
        go_wp2_with fail
        refine HW1.out.mono ?_
        rintro e w' ⟨rfl, rfl⟩
        go_wp2_with fail
        refine HW2.out.mono ?_
        rintro e w' ⟨rfl, rfl⟩
        have tb : (D1.down != D1.down) = false := by simp
        go_wp2_with fail
        refine HE1.out.mono ?_
        rintro e w' ⟨rfl, rfl⟩
        go_wp2_with fail
        refine HE2.out.mono ?_
        rintro e w' ⟨rfl, rfl⟩
        go_wp2
        go_roundw
        case rel => exact ⟨k + 1, by go_num, by omega, ⟨D1, HD.out, HR.out, HDO.out, HN1.out⟩, HB.out⟩
        case measure => simp [RowKit.intOf]; omega
      · have t3 : (xw == 3) = false := by simpa using h3
        by_cases h4 : xw = 4
        · subst h4
          go_wp2_with fail
          refine (flush_any wo g d (by omega) HD.out).mono ?_
          rintro e w5 ⟨rfl, h1, h2⟩
          have HD := Lib.hid h1
          have HR := Lib.hid (HR.out.keep h2 (by simp; omega) (by simp; omega) (by simp; omega) (by simp; omega))
          have HB := Lib.hid (h2.belowB HB.out (by omega) (by simp; omega))
          have HBO := Lib.hid (h2.blk HBO.out (by simp; omega))
          have p1 : w5.cell? ⟨bo, 1, none⟩ = some (.int .i64 xa) := HBO.out.cell 1
          have p3 : w5.cell? ⟨bo, 3, none⟩ = some (.slice xbA xb.length xbc) := HBO.out.cell 3
          have p4 : w5.cell? ⟨bo, 4, none⟩ = some (.slice xkA xk.length xkc) := HBO.out.cell 4
          have p5 : w5.cell? ⟨bo, 5, none⟩ = some (.slice xhA xh.length xhc) := HBO.out.cell 5
          have z5 := h2.size
          clear h1 h2
          go_wp2_with fail
          refine (rflush_any w5 bk bw bl gr d (by omega) HR.out).mono ?_
          rintro e w6 ⟨rfl, h1, h2⟩
          have HR := Lib.hid h1
          have HD := Lib.hid (HD.out.keep h2 (by simp; omega) (by simp; omega) (by simp; omega))
          have HB := Lib.hid (h2.belowB HB.out (by omega) (by simp; omega))
          have z6 := h2.size
          clear h1 h2
          have HDO := Lib.hid (show (d.flush.1).done ≤ k + 1 from Nat.le_trans d.flush_done (by omega))
          have HN1 := Lib.hid (show (d.flush.1).n = N from d.flush_n.trans HDN.out)
          obtain ⟨D1, hD1⟩ : ∃ D, d.flush.1 = D := ⟨_, rfl⟩
          rw [hD1] at HD HR HDO HN1
          clear hD1
          have HL1 := Lib.hid (loose_any w6 g D1 HD.out)
          have zt := HB.out.size
          go_wp2_with fail
          refine HL1.out.mono ?_
          rintro e y1 ⟨v, rfl, hown1, hb1⟩
          obtain ⟨A1, cp1, rfl, _, _, hn1, hL1, _⟩ := own_off hown1
          have zy1 := hb1.size
          have HB := Lib.hid (HB.out.trans (hb1.mono (by omega)))
          have HD := Lib.hid (HD.out.below hb1)
          have HR := Lib.hid (HR.out.below hb1)
          have HA1 := Lib.hid hL1
          clear hown1 hb1 hL1 hn1 HL1
          have HL2 := Lib.hid (rloose_any y1 bk bw bl gr D1 HR.out)
          go_wp2_with fail
          refine HL2.out.mono ?_
          rintro e y2 ⟨v, rfl, hown1, hb1⟩
          obtain ⟨A2, cp2, rfl, _, _, hn1, hL1, _⟩ := own_off hown1
          have zy2 := hb1.size
          have HB := Lib.hid (HB.out.trans (hb1.mono (by omega)))
          have HD := Lib.hid (HD.out.below hb1)
          have HR := Lib.hid (HR.out.below hb1)
          have hll := D1.loose_len
          rw [HN1.out] at hll
          have HSM := Lib.hid (sameInts_any A1 A2 D1.loose.length D1.loose.length cp1 cp2 D1.loose D1.loose true (decide_eq_true rfl) y2 rfl rfl (by omega) (by omega) (HA1.out.below hb1) hL1)
          clear hown1 hb1 hL1 hn1 HL2 HA1
          go_wp2_with fail
          refine HSM.out.mono ?_
          rintro e y3 ⟨rfl, hb1⟩
          have HB := Lib.hid (HB.out.trans (hb1.mono (by omega)))
          have HD := Lib.hid (HD.out.below hb1)
          have HR := Lib.hid (HR.out.below hb1)
          clear hb1 HSM
          have HW1 := Lib.hid (down_any y3 g D1 HD.out)
          have HW2 := Lib.hid (rdown_any HR.out)
          have HE1 := Lib.hid (done_any y3 g D1 HD.out)
          have HE2 := Lib.hid (rdone_any HR.out)
          go_wp2_with fail
          refine HW1.out.mono ?_
          rintro e w' ⟨rfl, rfl⟩
          go_wp2_with fail
          refine HW2.out.mono ?_
          rintro e w' ⟨rfl, rfl⟩
          have tb : (D1.down != D1.down) = false := by simp
          go_wp2_with fail
          refine HE1.out.mono ?_
          rintro e w' ⟨rfl, rfl⟩
          go_wp2_with fail
          refine HE2.out.mono ?_
          rintro e w' ⟨rfl, rfl⟩
          go_wp2
          go_roundw
          case rel => exact ⟨k + 1, by go_num, by omega, ⟨D1, HD.out, HR.out, HDO.out, HN1.out⟩, HB.out⟩
          case measure => simp [RowKit.intOf]; omega
        · have t4 : (xw == 4) = false := by simpa using h4
          by_cases h5 : xw = 5
          · subst h5
            have HRD := Lib.hid (read_any wo g d xa HD.out)
            go_wp2_with fail
            refine HRD.out.mono ?_
            intro e w5 hg
            obtain ⟨A5, cp5, rfl, l5, hB5⟩ := hg.text
            have z5 := hB5.size
            have HB := Lib.hid (HB.out.trans (hB5.mono (by omega)))
            have HD := Lib.hid (HD.out.below hB5)
            have HR := Lib.hid (HR.out.below hB5)
            have HBO := Lib.hid ((Kept.of hB5 []).blk HBO.out (by simp))
            have HL5 := Lib.hid l5
            have p1 : w5.cell? ⟨bo, 1, none⟩ = some (.int .i64 xa) := HBO.out.cell 1
            clear hg l5 hB5 HRD
            have HRR := Lib.hid (rread_any w5 bk bw bl gr d xa HR.out)
            go_wp2_with fail
            refine HRR.out.mono ?_
            rintro e w6 ⟨A6, cp6, rfl, l6, hB6⟩
            have z6 := hB6.size
            have HB := Lib.hid (HB.out.trans (hB6.mono (by omega)))
            have HD := Lib.hid (HD.out.below hB6)
            have HR := Lib.hid (HR.out.below hB6)
            obtain ⟨X, hX⟩ : ∃ X, (d.read xa).1 = X := ⟨_, rfl⟩
            obtain ⟨er, her⟩ : ∃ er, (d.read xa).2 = er := ⟨_, rfl⟩
            have HL5 := Lib.hid (HL5.out.below hB6)
            rw [hX] at HL5 l6 ⊢
            rw [her]
            obtain ⟨S, hS⟩ : ∃ S, str X = S := ⟨_, rfl⟩
            obtain ⟨xn, hxn⟩ : ∃ xn, X.length = xn := ⟨_, rfl⟩
            have hcva := conv_lies (c := cp5) HL5.out hxn
            have hcvb := conv_lies (c := cp6) l6 hxn
            rw [hS] at hcva hcvb
            rw [hxn]
            have hbq := str_beq S
            clear l6 hB6 hX her hS hxn HRR HL5
            have HDO := Lib.hid (show d.done ≤ k + 1 from by omega)
            have HN1 := HDN
            obtain ⟨D1, hD1⟩ : ∃ D, d = D := ⟨_, rfl⟩
            rw [hD1] at HD HR HDO HN1
            clear hD1
            have HL1 := Lib.hid (loose_any w6 g D1 HD.out)
            have zt := HB.out.size
            go_wp2_with fail
            refine HL1.out.mono ?_
            rintro e y1 ⟨v, rfl, hown1, hb1⟩
            obtain ⟨A1, cp1, rfl, _, _, hn1, hL1, _⟩ := own_off hown1
            have zy1 := hb1.size
            have HB := Lib.hid (HB.out.trans (hb1.mono (by omega)))
            have HD := Lib.hid (HD.out.below hb1)
            have HR := Lib.hid (HR.out.below hb1)
            have HA1 := Lib.hid hL1
            clear hown1 hb1 hL1 hn1 HL1
            have HL2 := Lib.hid (rloose_any y1 bk bw bl gr D1 HR.out)
            go_wp2_with fail
            refine HL2.out.mono ?_
            rintro e y2 ⟨v, rfl, hown1, hb1⟩
            obtain ⟨A2, cp2, rfl, _, _, hn1, hL1, _⟩ := own_off hown1
            have zy2 := hb1.size
            have HB := Lib.hid (HB.out.trans (hb1.mono (by omega)))
            have HD := Lib.hid (HD.out.below hb1)
            have HR := Lib.hid (HR.out.below hb1)
            have hll := D1.loose_len
            rw [HN1.out] at hll
            have HSM := Lib.hid (sameInts_any A1 A2 D1.loose.length D1.loose.length cp1 cp2 D1.loose D1.loose true (decide_eq_true rfl) y2 rfl rfl (by omega) (by omega) (HA1.out.below hb1) hL1)
            clear hown1 hb1 hL1 hn1 HL2 HA1
            go_wp2_with fail
            refine HSM.out.mono ?_
            rintro e y3 ⟨rfl, hb1⟩
            have HB := Lib.hid (HB.out.trans (hb1.mono (by omega)))
            have HD := Lib.hid (HD.out.below hb1)
            have HR := Lib.hid (HR.out.below hb1)
            clear hb1 HSM
            have HW1 := Lib.hid (down_any y3 g D1 HD.out)
            have HW2 := Lib.hid (rdown_any HR.out)
            have HE1 := Lib.hid (done_any y3 g D1 HD.out)
            have HE2 := Lib.hid (rdone_any HR.out)
            go_wp2_with fail
            refine HW1.out.mono ?_
            rintro e w' ⟨rfl, rfl⟩
            go_wp2_with fail
            refine HW2.out.mono ?_
            rintro e w' ⟨rfl, rfl⟩
            have tb : (D1.down != D1.down) = false := by simp
            go_wp2_with fail
            refine HE1.out.mono ?_
            rintro e w' ⟨rfl, rfl⟩
            go_wp2_with fail
            refine HE2.out.mono ?_
            rintro e w' ⟨rfl, rfl⟩
            go_wp2
            go_roundw
            case rel => exact ⟨k + 1, by go_num, by omega, ⟨D1, HD.out, HR.out, HDO.out, HN1.out⟩, HB.out⟩
            case measure => simp [RowKit.intOf]; omega
          · have t5 : (xw == 5) = false := by simpa using h5
            by_cases h6 : xw = 6
            · subst h6
              go_wp2_with fail
              refine (cutAt_any (w := wo) (g := g) (d := d) xa hx1 HD.out).mono ?_
              rintro e w5 ⟨rfl, h1, h2⟩
              have HD := Lib.hid h1
              have HR := Lib.hid (HR.out.keep h2 (by simp; omega) (by simp; omega) (by simp; omega) (by simp; omega))
              have HB := Lib.hid (h2.belowB HB.out (by omega) (by simp; omega))
              have HBO := Lib.hid (h2.blk HBO.out (by simp; omega))
              have p1 : w5.cell? ⟨bo, 1, none⟩ = some (.int .i64 xa) := HBO.out.cell 1
              have p3 : w5.cell? ⟨bo, 3, none⟩ = some (.slice xbA xb.length xbc) := HBO.out.cell 3
              have p4 : w5.cell? ⟨bo, 4, none⟩ = some (.slice xkA xk.length xkc) := HBO.out.cell 4
              have p5 : w5.cell? ⟨bo, 5, none⟩ = some (.slice xhA xh.length xhc) := HBO.out.cell 5
              have z5 := h2.size
              clear h1 h2
              go_wp2_with fail
              refine (rcut_any (w := w5) (d := d) xa hx1 HR.out).mono ?_
              rintro e w6 ⟨rfl, h1, h2⟩
              have HR := Lib.hid h1
              have HD := Lib.hid (HD.out.keep h2 (by simp; omega) (by simp; omega) (by simp; omega))
              have HB := Lib.hid (h2.belowB HB.out (by omega) (by simp; omega))
              have z6 := h2.size
              clear h1 h2
              have HDO := Lib.hid (show (d.cutAt xa).done ≤ k + 1 from by rw [(cutAt_same d xa).1]; omega)
              have HN1 := Lib.hid (show (d.cutAt xa).n = N from by rw [(cutAt_same d xa).2]; exact HDN.out)
              obtain ⟨D1, hD1⟩ : ∃ D, d.cutAt xa = D := ⟨_, rfl⟩
              rw [hD1] at HD HR HDO HN1
              clear hD1
              have HL1 := Lib.hid (loose_any w6 g D1 HD.out)
              have zt := HB.out.size
              go_wp2_with fail
              refine HL1.out.mono ?_
              rintro e y1 ⟨v, rfl, hown1, hb1⟩
              obtain ⟨A1, cp1, rfl, _, _, hn1, hL1, _⟩ := own_off hown1
              have zy1 := hb1.size
              have HB := Lib.hid (HB.out.trans (hb1.mono (by omega)))
              have HD := Lib.hid (HD.out.below hb1)
              have HR := Lib.hid (HR.out.below hb1)
              have HA1 := Lib.hid hL1
              clear hown1 hb1 hL1 hn1 HL1
              have HL2 := Lib.hid (rloose_any y1 bk bw bl gr D1 HR.out)
              go_wp2_with fail
              refine HL2.out.mono ?_
              rintro e y2 ⟨v, rfl, hown1, hb1⟩
              obtain ⟨A2, cp2, rfl, _, _, hn1, hL1, _⟩ := own_off hown1
              have zy2 := hb1.size
              have HB := Lib.hid (HB.out.trans (hb1.mono (by omega)))
              have HD := Lib.hid (HD.out.below hb1)
              have HR := Lib.hid (HR.out.below hb1)
              have hll := D1.loose_len
              rw [HN1.out] at hll
              have HSM := Lib.hid (sameInts_any A1 A2 D1.loose.length D1.loose.length cp1 cp2 D1.loose D1.loose true (decide_eq_true rfl) y2 rfl rfl (by omega) (by omega) (HA1.out.below hb1) hL1)
              clear hown1 hb1 hL1 hn1 HL2 HA1
              go_wp2_with fail
              refine HSM.out.mono ?_
              rintro e y3 ⟨rfl, hb1⟩
              have HB := Lib.hid (HB.out.trans (hb1.mono (by omega)))
              have HD := Lib.hid (HD.out.below hb1)
              have HR := Lib.hid (HR.out.below hb1)
              clear hb1 HSM
              have HW1 := Lib.hid (down_any y3 g D1 HD.out)
              have HW2 := Lib.hid (rdown_any HR.out)
              have HE1 := Lib.hid (done_any y3 g D1 HD.out)
              have HE2 := Lib.hid (rdone_any HR.out)
              go_wp2_with fail
              refine HW1.out.mono ?_
              rintro e w' ⟨rfl, rfl⟩
              go_wp2_with fail
              refine HW2.out.mono ?_
              rintro e w' ⟨rfl, rfl⟩
              have tb : (D1.down != D1.down) = false := by simp
              go_wp2_with fail
              refine HE1.out.mono ?_
              rintro e w' ⟨rfl, rfl⟩
              go_wp2_with fail
              refine HE2.out.mono ?_
              rintro e w' ⟨rfl, rfl⟩
              go_wp2
              go_roundw
              case rel => exact ⟨k + 1, by go_num, by omega, ⟨D1, HD.out, HR.out, HDO.out, HN1.out⟩, HB.out⟩
              case measure => simp [RowKit.intOf]; omega
            · have t6 : (xw == 6) = false := by simpa using h6
              by_cases h7 : xw = 7
              · subst h7
                have HLk := Lib.hid (show Lies w xkA (bools xk) from HQI.out.keep)
                have HLh := Lib.hid (show Lies w xhA (flatH xh) from HQI.out.hurt)
                have HBi := Lib.hid (show ∀ h ∈ xh, h.bits < 4294967296 from HQI.out.bits)
                have HM1 := Lib.hid (show xk.length ≤ maxLen from Nat.le_trans HQI.out.kl HQI.out.km)
                have HM2 := Lib.hid (show xh.length ≤ maxLen from Nat.le_trans HQI.out.hl HQI.out.hm)
                go_wp2_with fail
                refine (boot_any wo g d xk xh xkA xhA xk.length xkc xh.length xhc rfl rfl HM1.out HM2.out (HLk.out.below HB.out) (HLh.out.below HB.out) (Off.of HLk.out (by simp; omega)) (Off.of HLh.out (by simp; omega)) HBi.out HD.out).mono ?_
                rintro e w5 ⟨rfl, h1, h2⟩
                have HD := Lib.hid h1
                have HR := Lib.hid (HR.out.keep h2 (by simp; omega) (by simp; omega) (by simp; omega) (by simp; omega))
                have HB := Lib.hid (h2.belowB HB.out (by omega) (by simp; omega))
                have HBO := Lib.hid (h2.blk HBO.out (by simp; omega))
                have p1 : w5.cell? ⟨bo, 1, none⟩ = some (.int .i64 xa) := HBO.out.cell 1
                have p3 : w5.cell? ⟨bo, 3, none⟩ = some (.slice xbA xb.length xbc) := HBO.out.cell 3
                have p4 : w5.cell? ⟨bo, 4, none⟩ = some (.slice xkA xk.length xkc) := HBO.out.cell 4
                have p5 : w5.cell? ⟨bo, 5, none⟩ = some (.slice xhA xh.length xhc) := HBO.out.cell 5
                have z5 := h2.size
                clear h1 h2
                go_wp2_with fail
                refine (rboot_any w5 bk bw bl gr d xk xh xkA xhA xk.length xkc xh.length xhc rfl rfl HM1.out HM2.out (HLk.out.below HB.out) (HLh.out.below HB.out) (Off.of HLk.out (by simp; omega)) (Off.of HLh.out (by simp; omega)) HBi.out HR.out).mono ?_
                rintro e w6 ⟨rfl, h1, h2⟩
                have HR := Lib.hid h1
                have HD := Lib.hid (HD.out.keep h2 (by simp; omega) (by simp; omega) (by simp; omega))
                have HB := Lib.hid (h2.belowB HB.out (by omega) (by simp; omega))
                have z6 := h2.size
                clear h1 h2
                have HDO := Lib.hid (show (d.boot xk xh).done ≤ k + 1 from by rw [boot_done]; omega)
                have HN1 := Lib.hid (show (d.boot xk xh).n = N from HDN.out)
                obtain ⟨D1, hD1⟩ : ∃ D, d.boot xk xh = D := ⟨_, rfl⟩
                rw [hD1] at HD HR HDO HN1
                clear hD1
                have HL1 := Lib.hid (loose_any w6 g D1 HD.out)
                have zt := HB.out.size
                go_wp2_with fail
                refine HL1.out.mono ?_
                rintro e y1 ⟨v, rfl, hown1, hb1⟩
                obtain ⟨A1, cp1, rfl, _, _, hn1, hL1, _⟩ := own_off hown1
                have zy1 := hb1.size
                have HB := Lib.hid (HB.out.trans (hb1.mono (by omega)))
                have HD := Lib.hid (HD.out.below hb1)
                have HR := Lib.hid (HR.out.below hb1)
                have HA1 := Lib.hid hL1
                clear hown1 hb1 hL1 hn1 HL1
                have HL2 := Lib.hid (rloose_any y1 bk bw bl gr D1 HR.out)
                go_wp2_with fail
                refine HL2.out.mono ?_
                rintro e y2 ⟨v, rfl, hown1, hb1⟩
                obtain ⟨A2, cp2, rfl, _, _, hn1, hL1, _⟩ := own_off hown1
                have zy2 := hb1.size
                have HB := Lib.hid (HB.out.trans (hb1.mono (by omega)))
                have HD := Lib.hid (HD.out.below hb1)
                have HR := Lib.hid (HR.out.below hb1)
                have hll := D1.loose_len
                rw [HN1.out] at hll
                have HSM := Lib.hid (sameInts_any A1 A2 D1.loose.length D1.loose.length cp1 cp2 D1.loose D1.loose true (decide_eq_true rfl) y2 rfl rfl (by omega) (by omega) (HA1.out.below hb1) hL1)
                clear hown1 hb1 hL1 hn1 HL2 HA1
                go_wp2_with fail
                refine HSM.out.mono ?_
                rintro e y3 ⟨rfl, hb1⟩
                have HB := Lib.hid (HB.out.trans (hb1.mono (by omega)))
                have HD := Lib.hid (HD.out.below hb1)
                have HR := Lib.hid (HR.out.below hb1)
                clear hb1 HSM
                have HW1 := Lib.hid (down_any y3 g D1 HD.out)
                have HW2 := Lib.hid (rdown_any HR.out)
                have HE1 := Lib.hid (done_any y3 g D1 HD.out)
                have HE2 := Lib.hid (rdone_any HR.out)
                go_wp2_with fail
                refine HW1.out.mono ?_
                rintro e w' ⟨rfl, rfl⟩
                go_wp2_with fail
                refine HW2.out.mono ?_
                rintro e w' ⟨rfl, rfl⟩
                have tb : (D1.down != D1.down) = false := by simp
                go_wp2_with fail
                refine HE1.out.mono ?_
                rintro e w' ⟨rfl, rfl⟩
                go_wp2_with fail
                refine HE2.out.mono ?_
                rintro e w' ⟨rfl, rfl⟩
                go_wp2
                go_roundw
                case rel => exact ⟨k + 1, by go_num, by omega, ⟨D1, HD.out, HR.out, HDO.out, HN1.out⟩, HB.out⟩
                case measure => simp [RowKit.intOf]; omega
              · have t7 : (xw == 7) = false := by simpa using h7
                have hbd : Below wo.heap.size wo wo.drew := (Below.refl _ _).drew
                have HO1 := Lib.hid (fun (W : World) (hW : Below wo.heap.size wo W) => run_loadI W ⟨bo, 1, none⟩ xa ((stay7 HBO.out hW).cell 1))
                have HO2 := Lib.hid (fun (W : World) (hW : Below wo.heap.size wo W) => run_loadU8 W ⟨bo, 2, none⟩ (xc.toNat : Int) ((stay7 HBO.out hW).cell 2))
                go_wp2
                refine wp_late (by kernel_rfl) 201 [(59, [6]), (60, [9]), (61, [60]), (62, [9]), (63, [62]), (64, [63]), (1006, [59, 61, 64]), (1007, [65])]
                  [Fact.is (.pointer (some ⟨g + 2, 0, none⟩)), Fact.is (.pointer (some ⟨bo, 1, none⟩)), Fact.is (.int .i64 xa), Fact.is (.pointer (some ⟨bo, 2, none⟩)), Fact.is (.int .u8 (xc.toNat : Int)), Fact.fl xc, default, default]
                  [1, 1, 1, 1, 1, 1, 2, 2] [6, 7] [65, 10] [59, 60, 61, 62, 63, 64, 65, 10] (WrA g (d.write xa (Plain.full xc)) wo)
                  (by kernel_rfl) (by kernel_rfl) rfl rfl ⟨?s0, ?s1, ?s2, ?s3, ?s4, ?s5, trivial⟩ ?late ?fin
                case s0 =>
                  intro ρ W hb hc hf hr
                  obtain ⟨r6, -⟩ := hr
                  have e6 : ρ (.tmp 6) = .pointer (some ⟨g + 2, 0, none⟩) := r6
                  clear r6
                  refine under_none rfl ?_
                  exact ⟨e6, Below.refl _ _⟩
                case s1 =>
                  intro ρ W hb hc hf hr
                  obtain ⟨r9, -⟩ := hr
                  have e9 : ρ (.tmp 9) = .pointer (some ⟨bo, 0, none⟩) := r9
                  clear r9
                  refine under_none rfl ?_
                  exact soft_field e9 rfl (fun W => by go_simp)
                case s2 =>
                  intro ρ W hb hc hf hr
                  obtain ⟨r60, -⟩ := hr
                  have e60 : ρ (.tmp 60) = .pointer (some ⟨bo, 1, none⟩) := r60
                  clear r60
                  refine under_none rfl ?_
                  exact soft_load e60 (HO1.out W (hbd.trans (hb.mono (by simp)))) rfl
                case s3 =>
                  intro ρ W hb hc hf hr
                  obtain ⟨r9, -⟩ := hr
                  have e9 : ρ (.tmp 9) = .pointer (some ⟨bo, 0, none⟩) := r9
                  clear r9
                  refine under_none rfl ?_
                  exact soft_field e9 rfl (fun W => by go_simp)
                case s4 =>
                  intro ρ W hb hc hf hr
                  obtain ⟨r62, -⟩ := hr
                  have e62 : ρ (.tmp 62) = .pointer (some ⟨bo, 2, none⟩) := r62
                  clear r62
                  refine under_none rfl ?_
                  exact soft_load e62 (HO2.out W (hbd.trans (hb.mono (by simp)))) rfl
                case s5 =>
                  intro ρ W hb hc hf hr
                  obtain ⟨r63, -⟩ := hr
                  have e63 : ρ (.tmp 63) = .int .u8 (xc.toNat : Int) := r63
                  clear r63
                  refine under_none rfl ?_
                  exact soft_fl hf e63 rfl
                case late =>
                  intro p j o hj ho a W hsz h0 h1 hfr hou
                  match p, hj with
                  | 0, hj =>
                    obtain rfl : 6 = j := Option.some.inj hj
                    obtain rfl := Option.some.inj ho
                    clear hj ho
                    obtain ⟨hb, hhard⟩ := h0 rfl
                    have e59 : a.eval (.tmp 59) = .pointer (some ⟨g + 2, 0, none⟩) := hhard 59 0 rfl rfl
                    have e61 : a.eval (.tmp 61) = .int .i64 xa := hhard 61 2 rfl rfl
                    have r64 : (Fact.fl xc).φ (a.tmps.getD 64 undef) W := hhard 64 5 rfl rfl
                    clear h0 h1 hhard hfr hou
                    refine late_write (x := .tmp 59) (y := .tmp 61) (z := .tmp 64) rfl e59 e61 r64 (hbd.trans (hb.mono (by simp))) (by omega) HD.out fun w' h1 h2 => ⟨_, rfl, h1, h2, by simp [Act.put, Array.getD_eq_getD_getElem?, hsz], fun h => absurd h (by omega)⟩
                  | 1, hj =>
                    obtain rfl : 7 = j := Option.some.inj hj
                    obtain rfl := Option.some.inj ho
                    clear hj ho
                    have hP := h1 (by omega)
                    clear h0 h1 hfr hou
                    obtain ⟨h1, h2, h3, -⟩ := hP
                    have e65' : a.tmps.getD 65 undef = .int .i64 (((d.write xa (Plain.full xc)).2 : Nat) : Int) := by simpa using h3
                    have e65 : a.eval (.tmp 65) = .int .i64 (((d.write xa (Plain.full xc)).2 : Nat) : Int) := e65'
                    refine late_assign rfl e65 ⟨_, rfl, h1, h2, ?_, fun _ => by simp [Act.put, Array.getD_eq_getD_getElem?, hsz]⟩
                    rw [Array.getD_eq_getD_getElem?] at e65'
                    simp [Act.put, Array.getD_eq_getD_getElem?, e65']
                  | q + 2, hj => cases hj
                case fin =>
                  intro a wp ha hP
                  obtain ⟨h1, h2, h3, h4⟩ := hP
                  have e65 : a.tmps.getD 65 undef = .int .i64 (((d.write xa (Plain.full xc)).2 : Nat) : Int) := by simpa using h3
                  have e10 : a.tmps.getD 10 undef = .int .i64 (((d.write xa (Plain.full xc)).2 : Nat) : Int) := by simpa using h4 rfl
                  have HD := Lib.hid h1
                  have HR := Lib.hid (HR.out.keep h2 (by simp; omega) (by simp; omega) (by simp; omega) (by simp; omega))
                  have HB := Lib.hid (h2.belowB HB.out (by omega) (by simp; omega))
                  have HBO := Lib.hid (h2.blk HBO.out (by simp; omega))
                  have zp := h2.size
                  have hbd : Below wp.heap.size wp wp.drew := (Below.refl _ _).drew
                  have HO1p := Lib.hid (fun (W : World) (hW : Below wp.heap.size wp W) => run_loadI W ⟨bo, 1, none⟩ xa ((stay7 HBO.out hW).cell 1))
                  have HO2p := Lib.hid (fun (W : World) (hW : Below wp.heap.size wp W) => run_loadU8 W ⟨bo, 2, none⟩ (xc.toNat : Int) ((stay7 HBO.out hW).cell 2))
                  clear h1 h2 h3 h4 HO1 HO2
                  simp only [List.foldl_cons, List.foldl_nil, e65, e10] at ha
                  clear e65 e10
                  generalize a.tmps.getD 59 undef = v59 at ha
                  generalize a.tmps.getD 60 undef = v60 at ha
                  generalize a.tmps.getD 61 undef = v61 at ha
                  generalize a.tmps.getD 62 undef = v62 at ha
                  generalize a.tmps.getD 63 undef = v63 at ha
                  generalize a.tmps.getD 64 undef = v64 at ha
                  simp only [Act.put, List.setIfInBounds_toArray, List.set_cons_succ, List.set_cons_zero] at ha
                  subst ha
                  go_wp2
                  refine wp_late (by kernel_rfl) 201 [(66, [7]), (67, [9]), (68, [67]), (69, [9]), (70, [69]), (71, [70]), (1006, [66, 68, 71]), (1007, [72])]
                    [Fact.is (.pointer (some ⟨gr, 0, none⟩)), Fact.is (.pointer (some ⟨bo, 1, none⟩)), Fact.is (.int .i64 xa), Fact.is (.pointer (some ⟨bo, 2, none⟩)), Fact.is (.int .u8 (xc.toNat : Int)), Fact.fl xc, default, default]
                    [1, 1, 1, 1, 1, 1, 2, 2] [6, 7] [72, 11] [66, 67, 68, 69, 70, 71, 72, 11] (WrQ bk bw bl gr (d.write xa (Plain.full xc)) wp)
                    (by kernel_rfl) (by kernel_rfl) rfl rfl ⟨?s0, ?s1, ?s2, ?s3, ?s4, ?s5, trivial⟩ ?late ?fin
                  case s0 =>
                    intro ρ W hb hc hf hr
                    obtain ⟨r7, -⟩ := hr
                    have e7 : ρ (.tmp 7) = .pointer (some ⟨gr, 0, none⟩) := r7
                    clear r7
                    refine under_none rfl ?_
                    exact ⟨e7, Below.refl _ _⟩
                  case s1 =>
                    intro ρ W hb hc hf hr
                    obtain ⟨r9, -⟩ := hr
                    have e9 : ρ (.tmp 9) = .pointer (some ⟨bo, 0, none⟩) := r9
                    clear r9
                    refine under_none rfl ?_
                    exact soft_field e9 rfl (fun W => by go_simp)
                  case s2 =>
                    intro ρ W hb hc hf hr
                    obtain ⟨r67, -⟩ := hr
                    have e67 : ρ (.tmp 67) = .pointer (some ⟨bo, 1, none⟩) := r67
                    clear r67
                    refine under_none rfl ?_
                    exact soft_load e67 (HO1p.out W (hbd.trans (hb.mono (by simp)))) rfl
                  case s3 =>
                    intro ρ W hb hc hf hr
                    obtain ⟨r9, -⟩ := hr
                    have e9 : ρ (.tmp 9) = .pointer (some ⟨bo, 0, none⟩) := r9
                    clear r9
                    refine under_none rfl ?_
                    exact soft_field e9 rfl (fun W => by go_simp)
                  case s4 =>
                    intro ρ W hb hc hf hr
                    obtain ⟨r69, -⟩ := hr
                    have e69 : ρ (.tmp 69) = .pointer (some ⟨bo, 2, none⟩) := r69
                    clear r69
                    refine under_none rfl ?_
                    exact soft_load e69 (HO2p.out W (hbd.trans (hb.mono (by simp)))) rfl
                  case s5 =>
                    intro ρ W hb hc hf hr
                    obtain ⟨r70, -⟩ := hr
                    have e70 : ρ (.tmp 70) = .int .u8 (xc.toNat : Int) := r70
                    clear r70
                    refine under_none rfl ?_
                    exact soft_fl hf e70 rfl
                  case late =>
                    intro p j o hj ho a W hsz h0 h1 hfr hou
                    match p, hj with
                    | 0, hj =>
                      obtain rfl : 6 = j := Option.some.inj hj
                      obtain rfl := Option.some.inj ho
                      clear hj ho
                      obtain ⟨hb, hhard⟩ := h0 rfl
                      have e66 : a.eval (.tmp 66) = .pointer (some ⟨gr, 0, none⟩) := hhard 66 0 rfl rfl
                      have e68 : a.eval (.tmp 68) = .int .i64 xa := hhard 68 2 rfl rfl
                      have r71 : (Fact.fl xc).φ (a.tmps.getD 71 undef) W := hhard 71 5 rfl rfl
                      clear h0 h1 hhard hfr hou
                      refine late_rwrite (x := .tmp 66) (y := .tmp 68) (z := .tmp 71) rfl e66 e68 r71 (hbd.trans (hb.mono (by simp))) (by omega) HR.out fun w' h1 h2 => ⟨_, rfl, h1, h2, by simp [Act.put, Array.getD_eq_getD_getElem?, hsz], fun h => absurd h (by omega)⟩
                    | 1, hj =>
                      obtain rfl : 7 = j := Option.some.inj hj
                      obtain rfl := Option.some.inj ho
                      clear hj ho
                      have hP := h1 (by omega)
                      clear h0 h1 hfr hou
                      obtain ⟨h1, h2, h3, -⟩ := hP
                      have e72' : a.tmps.getD 72 undef = .int .i64 (((d.write xa (Plain.full xc)).2 : Nat) : Int) := by simpa using h3
                      have e72 : a.eval (.tmp 72) = .int .i64 (((d.write xa (Plain.full xc)).2 : Nat) : Int) := e72'
                      refine late_assign rfl e72 ⟨_, rfl, h1, h2, ?_, fun _ => by simp [Act.put, Array.getD_eq_getD_getElem?, hsz]⟩
                      rw [Array.getD_eq_getD_getElem?] at e72'
                      simp [Act.put, Array.getD_eq_getD_getElem?, e72']
                    | q + 2, hj => cases hj
                  case fin =>
                    intro a w6 ha hP
                    obtain ⟨h1, h2, h3, h4⟩ := hP
                    have e72 : a.tmps.getD 72 undef = .int .i64 (((d.write xa (Plain.full xc)).2 : Nat) : Int) := by simpa using h3
                    have e11 : a.tmps.getD 11 undef = .int .i64 (((d.write xa (Plain.full xc)).2 : Nat) : Int) := by simpa using h4 rfl
                    have HR := Lib.hid h1
                    have HD := Lib.hid (HD.out.keep h2 (by simp; omega) (by simp; omega) (by simp; omega))
                    have HB := Lib.hid (h2.belowB HB.out (by omega) (by simp; omega))
                    have z6 := h2.size
                    clear h1 h2 h3 h4 HO1p HO2p
                    simp only [List.foldl_cons, List.foldl_nil, e72, e11] at ha
                    clear e72 e11
                    generalize a.tmps.getD 66 undef = v66 at ha
                    generalize a.tmps.getD 67 undef = v67 at ha
                    generalize a.tmps.getD 68 undef = v68 at ha
                    generalize a.tmps.getD 69 undef = v69 at ha
                    generalize a.tmps.getD 70 undef = v70 at ha
                    generalize a.tmps.getD 71 undef = v71 at ha
                    simp only [Act.put, List.setIfInBounds_toArray, List.set_cons_succ, List.set_cons_zero] at ha
                    subst ha
                    have HDO := Lib.hid (show (d.write xa (Plain.full xc)).1.done ≤ k + 1 from Nat.le_trans (d.write_done _ _) (by omega))
                    have HN1 := Lib.hid (show (d.write xa (Plain.full xc)).1.n = N from (d.write_n _ _).trans HDN.out)
                    obtain ⟨D1, hD1⟩ : ∃ D, (d.write xa (Plain.full xc)).1 = D := ⟨_, rfl⟩
                    rw [hD1] at HD HR HDO HN1
                    clear hD1
                    have HL1 := Lib.hid (loose_any w6 g D1 HD.out)
                    have zt := HB.out.size
                    go_wp2_with fail
                    refine HL1.out.mono ?_
                    rintro e y1 ⟨v, rfl, hown1, hb1⟩
                    obtain ⟨A1, cp1, rfl, _, _, hn1, hL1, _⟩ := own_off hown1
                    have zy1 := hb1.size
                    have HB := Lib.hid (HB.out.trans (hb1.mono (by omega)))
                    have HD := Lib.hid (HD.out.below hb1)
                    have HR := Lib.hid (HR.out.below hb1)
                    have HA1 := Lib.hid hL1
                    clear hown1 hb1 hL1 hn1 HL1
                    have HL2 := Lib.hid (rloose_any y1 bk bw bl gr D1 HR.out)
                    go_wp2_with fail
                    refine HL2.out.mono ?_
                    rintro e y2 ⟨v, rfl, hown1, hb1⟩
                    obtain ⟨A2, cp2, rfl, _, _, hn1, hL1, _⟩ := own_off hown1
                    have zy2 := hb1.size
                    have HB := Lib.hid (HB.out.trans (hb1.mono (by omega)))
                    have HD := Lib.hid (HD.out.below hb1)
                    have HR := Lib.hid (HR.out.below hb1)
                    have hll := D1.loose_len
                    rw [HN1.out] at hll
                    have HSM := Lib.hid (sameInts_any A1 A2 D1.loose.length D1.loose.length cp1 cp2 D1.loose D1.loose true (decide_eq_true rfl) y2 rfl rfl (by omega) (by omega) (HA1.out.below hb1) hL1)
                    clear hown1 hb1 hL1 hn1 HL2 HA1
                    go_wp2_with fail
                    refine HSM.out.mono ?_
                    rintro e y3 ⟨rfl, hb1⟩
                    have HB := Lib.hid (HB.out.trans (hb1.mono (by omega)))
                    have HD := Lib.hid (HD.out.below hb1)
                    have HR := Lib.hid (HR.out.below hb1)
                    clear hb1 HSM
                    have HW1 := Lib.hid (down_any y3 g D1 HD.out)
                    have HW2 := Lib.hid (rdown_any HR.out)
                    have HE1 := Lib.hid (done_any y3 g D1 HD.out)
                    have HE2 := Lib.hid (rdone_any HR.out)
                    go_wp2_with fail
                    refine HW1.out.mono ?_
                    rintro e w' ⟨rfl, rfl⟩
                    go_wp2_with fail
                    refine HW2.out.mono ?_
                    rintro e w' ⟨rfl, rfl⟩
                    have tb : (D1.down != D1.down) = false := by simp
                    go_wp2_with fail
                    refine HE1.out.mono ?_
                    rintro e w' ⟨rfl, rfl⟩
                    go_wp2_with fail
                    refine HE2.out.mono ?_
                    rintro e w' ⟨rfl, rfl⟩
                    go_wp2
                    go_roundw
                    case rel => exact ⟨k + 1, by go_num, by omega, ⟨D1, HD.out, HR.out, HDO.out, HN1.out⟩, HB.out⟩
                    case measure => simp [RowKit.intOf]; omega
    · obtain rfl : n = k := by omega
      go_wp2
      go_loopw [16] (fun s wr => ∃ i : Nat, s = .int .i64 (i : Int) ∧ i ≤ N ∧ IsDev wr g d ∧ IsRef wr bk bw bl gr d ∧ Below w.heap.size w wr) (fun s _ => N - (RowKit.intOf s).toNat)
      case atStart => exact ⟨0, rfl, Nat.zero_le _, HD.out, HR.out, HB.out⟩
      case round =>
        clear HD HR HB
        obtain ⟨i, rfl, hi, hd, hr, hB⟩ := hrel
        have HD := Lib.hid hd
        have HR := Lib.hid hr
        have HB := Lib.hid hB
        have zr := hB.size
        have HSZ := Lib.hid (show Calls Try.prog 31 #[.pointer (some ⟨g + 2, 0, none⟩)] wr fun e w' => e = .returned (.int .i64 (N : Int)) ∧ wr = w' from by
          have := size_any wr g d hd
          rwa [HDN.out] at this)
        have HRZ := Lib.hid (show Calls Try.prog 32 #[.pointer (some ⟨gr, 0, none⟩)] wr fun e w' => e = .returned (.int .i64 (N : Int)) ∧ wr = w' from by
          have := rsize_any hr
          rwa [HDN.out] at this)
        clear hd hr hB
        go_wp2_with fail
        refine HSZ.out.mono ?_
        rintro e w' ⟨rfl, rfl⟩
        by_cases hiN : i < N
        · have t9 : decide ((i : Int) < (N : Int)) = true := decide_eq_true (by omega)
          have HRD := Lib.hid (read_any wr g d (i : Int) HD.out)
          go_wp2_with fail
          refine HRD.out.mono ?_
          intro e w5 hg
          obtain ⟨A5, cp5, rfl, l5, hB5⟩ := hg.text
          have z5 := hB5.size
          have HB := Lib.hid (HB.out.trans (hB5.mono (by omega)))
          have HD := Lib.hid (HD.out.below hB5)
          have HR := Lib.hid (HR.out.below hB5)
          have HL5 := Lib.hid l5
          clear hg l5 hB5 HRD
          have HRR := Lib.hid (rread_any w5 bk bw bl gr d (i : Int) HR.out)
          go_wp2_with fail
          refine HRR.out.mono ?_
          rintro e w6 ⟨A6, cp6, rfl, l6, hB6⟩
          have z6 := hB6.size
          have HB := Lib.hid (HB.out.trans (hB6.mono (by omega)))
          have HD := Lib.hid (HD.out.below hB6)
          have HR := Lib.hid (HR.out.below hB6)
          obtain ⟨X, hX⟩ : ∃ X, (d.read (i : Int)).1 = X := ⟨_, rfl⟩
          obtain ⟨er, her⟩ : ∃ er, (d.read (i : Int)).2 = er := ⟨_, rfl⟩
          have HL5 := Lib.hid (HL5.out.below hB6)
          rw [hX] at HL5 l6 ⊢
          rw [her]
          obtain ⟨S, hS⟩ : ∃ S, str X = S := ⟨_, rfl⟩
          obtain ⟨xn, hxn⟩ : ∃ xn, X.length = xn := ⟨_, rfl⟩
          have hcva := conv_lies (c := cp5) HL5.out hxn
          have hcvb := conv_lies (c := cp6) l6 hxn
          rw [hS] at hcva hcvb
          rw [hxn]
          have hbq := str_beq S
          clear l6 hB6 hX her hS hxn HRR HL5
          go_wp2
          go_roundw
          case rel => exact ⟨i + 1, by go_num, by omega, HD.out, HR.out, HB.out⟩
          case measure => simp [RowKit.intOf]; omega
        · have t9 : decide ((i : Int) < (N : Int)) = false := decide_eq_false (by omega)
          go_wp2_with fail
          refine HSZ.out.mono ?_
          rintro e w' ⟨rfl, rfl⟩
          go_wp2_with fail
          refine HRZ.out.mono ?_
          rintro e w' ⟨rfl, rfl⟩
          go_wp2
          go_returns
          exact ⟨rfl, HB.out⟩


set_option maxRecDepth 100000 in
theorem lifted (os : Os) (started : os.Started) (H : Type) (enc : TypeId × Value → H) :
    ReturnsInHanded {} Try.checked os 3 .any (Rows.devPlaysSpec.pre6 enc Try.prog Try.f3 Rows.devPlaysRow.domain false) (Rows.devPlaysSpec.post enc Try.prog Try.f3 false true false false) := by
  refine returnsInHanded_of_change (C := Try.checked) own started (by kernel_rfl) Try.func3
    (ChangeSpec.witness6 (enc := enc) (C := Try.checked) false ⟨#[], #[.int .i64 0, .slice none 0 0], []⟩ 8 (by kernel_rfl) (by kernel_rfl) (by kernel_rfl) (by kernel_rfl)) ?_
  intro W base args ds gs before hval0 hW hcnd _
  have hval : ∀ (j : Nat) t v, Try.f3.params[j]? = some t → args[j]? = some v → Value.okWide Try.prog W .any base t v := hval0
  have hfin := fun W' => law_post (enc := enc) (P := Try.prog) (f := Try.f3) (s := Rows.devPlaysSpec) (tb := 4) (W := W) (W' := W') (args := args) (ds := ds) (gs := gs) (before := before) laidOut rfl (by kernel_rfl) Try.underlying4 (by kernel_rfl) (fun xs h => by rw [Try.params3] at h; match xs, h with | [_, _], _ => rfl) hW
  have hlt : ∀ x ∈ before, x.block < W.heap.size := fun x hx => hW.lt x hx
  obtain ⟨p, q, hA0, hV, rfl, hfz, hnd⟩ := hW
  have hA : DataW.TrodAll enc Try.prog W 0 (fun _ => true) true Try.f3.params.toList args.toList ds p := hA0
  rw [Try.params3] at hA hval
  obtain ⟨v0, vs0, d0, ds0, p0, q0, hargs, rfl, rfl, h0, r0⟩ := trodAll_cons hA
  obtain ⟨v1, vs1, d1, ds1, p1, q1, rfl, rfl, rfl, h1, r1⟩ := trodAll_cons r0
  obtain ⟨rfl, rfl, rfl⟩ := trodAll_nil r1
  obtain rfl : args = #[v0, v1] := by cases args; simp_all
  obtain ⟨a0, rfl, rfl, rfl, w0⟩ := open_int Try.underlying3 (hval 0 3 v0 rfl rfl) h0
  obtain ⟨A1, cap1, l1, rfl, hl1, hm1, hB1, hQ1⟩ := open_oqs (hval 1 22 v1 rfl rfl) h1 (fun x hx => hlt x (by simp [hx]))
  refine (walk W a0 (bounds_i64 w0) A1 cap1 l1 hl1 hm1 hB1 hQ1).mono fun e W' ⟨he, hg⟩ => ?_
  subst he
  exact ⟨_, rfl, hfin W' hg⟩

theorem proved : Rows.DevPlaysSaid :=
  OpenClaim.holds_of_wide 3 Try.f3 rfl rfl rfl rfl rfl rfl rfl ⟨rfl, rfl, rfl, rfl, rfl⟩ rfl rfl rfl rfl rfl (by kernel_rfl) Try.func3 (by kernel_rfl)
    (of_decide_eq_true (by kernel_rfl)) (by unfold Func.isWrapper; first | (rw [if_pos (by decide +kernel)]; kernel_rfl) | (rw [if_neg (by decide +kernel)]; exact ⟨rfl, rfl⟩))
    (fun os started H enc _ => lifted os started H enc)
#print axioms proved
end Go.Proofs.Ytldecmodhppjpaa.devPlays
