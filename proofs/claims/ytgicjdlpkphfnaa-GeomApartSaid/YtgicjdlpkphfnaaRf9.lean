/-
  Rf9: Layer 9, the document's answer (turntableref09): its put and number. Assumed: that the bytes lie in memory.
  Rr9: Layer 9, the document's answer: its Right: what it answers, of any table. Assumed: that the extents lie in memory.
  Rb9: Layer 9, the document's answer: its Free and Last: what they answer, of any table. Assumed: that the extents lie in memory.
-/
import Derived.Test.YtgicjdlpkphfnaaL9S
import Derived.Test.YtgicjdlpkphfnaaRf8
import Derived.BigQuiet

namespace Go.Proofs.Ytgicjdlpkphfnaa
open Go.RowKit
set_option maxRecDepth 100000

end Go.Proofs.Ytgicjdlpkphfnaa

namespace Go.Proofs.Ytgicjdlpkphfnaa
open Go.RowKit
set_option maxRecDepth 100000

/-- the first ones are so, and apart -/
def ok9 (xs : List Tb.Ext) : Bool := xs.all Tb.okE && Tb.apart xs
theorem ok9_snoc (xs : List Tb.Ext) (i : Nat) (hi : i < xs.length) : ok9 (xs.take (i + 1)) = (ok9 (xs.take i) && (Tb.okE xs[i] && (decide (xs[i].q = 0) || !(xs.take i).any fun x => decide (x.q = xs[i].q)))) := by
  unfold ok9
  rw [apart_snoc xs i hi, List.take_succ_eq_append_getElem hi, List.all_append]
  simp only [List.all_cons, List.all_nil, Bool.and_true]
  cases (xs.take i).all Tb.okE <;> cases Tb.okE xs[i] <;> cases Tb.apart (xs.take i) <;> simp
theorem ok9_take {xs : List Tb.Ext} (i : Nat) (h : ok9 (xs.take i) = false) : ok9 xs = false := by
  unfold ok9 at h ⊢
  rw [Bool.and_eq_false_iff] at h ⊢
  rcases h with h | h
  · left
    rw [List.all_eq_false] at h ⊢
    obtain ⟨x, hx, h⟩ := h
    exact ⟨x, List.mem_of_mem_take hx, h⟩
  · exact .inr (apart_take i h)
theorem right_ok9 (g o : Int) (xs : List Tb.Ext) (n : Nat) (hn : xs.length = n) : Tb.right ⟨g, o, xs⟩ = (((((decide (1 ≤ g) && decide (g ≤ 2147483648)) && decide (4 ≤ n)) && decide (n ≤ 8)) && ok9 xs) && Tb.opOk ⟨g, o, xs⟩) := by
  subst hn
  unfold Tb.right ok9
  simp only [Bool.and_assoc]

set_option maxHeartbeats 8000000 in
theorem rright9_any (g o : Int) (A : Option Addr) (cap n : Nat) (xs : List Tb.Ext) (w : World) (hn : xs.length = n) (hA : Lies w A (flatX xs)) :
    Calls Try.prog 22 #[tabV g o A n cap] w fun e w' => e = .returned (.bool (Tb.right ⟨g, o, xs⟩)) ∧ Below w.heap.size w w' := by
  have HRT := Lib.hid (right_ok9 g o xs n hn)
  have HOUT := Lib.hid (fun (h1 : o ≠ -1) (h2 : ¬ (0 ≤ o ∧ o < (n : Int))) => opOk_out (g := g) (xs := xs) h1 (by rw [hn]; exact h2))
  have HX0 := Lib.hid (Blk.new w #[.int .i64 g, .int .i64 o, .slice A n cap] 31)
  have HB0 := Lib.hid ((Below.refl w.heap.size w).alloc (Nat.le_refl _) (.cells #[.int .i64 g, .int .i64 o, .slice A n cap] 31))
  have HA0 := Lib.hid (hA.below HB0.out)
  have HN := Lib.hid hn
  clear hA hn
  by_cases c0 : g < 1
  · have hd0 : decide (g < 1) = true := decide_eq_true (by omega)
    have HF := Lib.hid (show Tb.right ⟨g, o, xs⟩ = false by rw [HRT.out, decide_eq_false (show ¬ 1 ≤ g by omega)]; rfl)
    clear c0 HRT HOUT
    go_enter Try.func22, Try.ntmps22
    go_wp2
    go_ret
    exact ⟨by rw [HF.out]; rfl, HB0.out⟩
  have hd0 : decide (g < 1) = false := decide_eq_false (by omega)
  by_cases c1 : 2147483648 < g
  · have hd1 : decide ((2147483648 : Int) < g) = true := decide_eq_true (by omega)
    have HF := Lib.hid (show Tb.right ⟨g, o, xs⟩ = false by rw [HRT.out, decide_eq_false (show ¬ g ≤ 2147483648 by omega)]; simp)
    clear c0 c1 HRT HOUT
    go_enter Try.func22, Try.ntmps22
    go_wp2
    go_ret
    exact ⟨by rw [HF.out]; rfl, HB0.out⟩
  have hd1 : decide ((2147483648 : Int) < g) = false := decide_eq_false (by omega)
  by_cases c2 : n < 4
  · have hd2 : decide ((n : Int) < 4) = true := decide_eq_true (by omega)
    have HF := Lib.hid (show Tb.right ⟨g, o, xs⟩ = false by rw [HRT.out, decide_eq_false (show ¬ 4 ≤ n by omega)]; simp)
    clear c0 c1 c2 HRT HOUT
    go_enter Try.func22, Try.ntmps22
    go_wp2
    go_ret
    exact ⟨by rw [HF.out]; rfl, HB0.out⟩
  have hd2 : decide ((n : Int) < 4) = false := decide_eq_false (by omega)
  by_cases c3 : 8 < n
  · have hd3 : decide ((8 : Int) < (n : Int)) = true := decide_eq_true (by omega)
    have HF := Lib.hid (show Tb.right ⟨g, o, xs⟩ = false by rw [HRT.out, decide_eq_false (show ¬ n ≤ 8 by omega)]; simp)
    clear c0 c1 c2 c3 HRT HOUT
    go_enter Try.func22, Try.ntmps22
    go_wp2
    go_ret
    exact ⟨by rw [HF.out]; rfl, HB0.out⟩
  have hd3 : decide ((8 : Int) < (n : Int)) = false := decide_eq_false (by omega)
  by_cases c4 : o < -1
  · have hd4 : decide (o < -1) = true := decide_eq_true (by omega)
    have HF := Lib.hid (show Tb.right ⟨g, o, xs⟩ = false by rw [HRT.out, HOUT.out (by omega) (by omega)]; simp)
    clear c0 c1 c2 c3 c4 HRT HOUT
    go_enter Try.func22, Try.ntmps22
    go_wp2
    go_ret
    exact ⟨by rw [HF.out]; rfl, HB0.out⟩
  have hd4 : decide (o < -1) = false := decide_eq_false (by omega)
  by_cases c5 : (n : Int) ≤ o
  · have hd5 : decide ((n : Int) ≤ o) = true := decide_eq_true (by omega)
    have HF := Lib.hid (show Tb.right ⟨g, o, xs⟩ = false by rw [HRT.out, HOUT.out (by omega) (by omega)]; simp)
    clear c0 c1 c2 c3 c4 c5 HRT HOUT
    go_enter Try.func22, Try.ntmps22
    go_wp2
    go_ret
    exact ⟨by rw [HF.out]; rfl, HB0.out⟩
  have hd5 : decide ((n : Int) ≤ o) = false := decide_eq_false (by omega)
  have HR1 := Lib.hid (show Tb.right ⟨g, o, xs⟩ = (ok9 xs && Tb.opOk ⟨g, o, xs⟩) by
    rw [HRT.out, decide_eq_true (show 1 ≤ g by omega), decide_eq_true (show g ≤ 2147483648 by omega), decide_eq_true (show 4 ≤ n by omega), decide_eq_true (show n ≤ 8 by omega)]
    simp)
  have hn8 : n ≤ 8 := by omega
  have ho1 : -1 ≤ o := by omega
  have ho2 : o < (n : Int) := by omega
  clear c0 c1 c2 c3 c4 c5 HRT HOUT
  go_enter Try.func22, Try.ntmps22
  go_wp2_with fail
  generalize w.alloc (.cells #[.int .i64 g, .int .i64 o, .slice A n cap] 31) = w0 at *
  clear hd0 hd1 hd2 hd3 hd4 hd5
  go_loopw [4] (fun vi wr => ∃ i : Nat, vi = .int .i64 i ∧ i ≤ n ∧ ok9 (xs.take i) = true ∧ Below w0.heap.size w0 wr) (fun vi _ => n - (intOf vi).toNat)
  case atStart => exact ⟨0, rfl, by omega, rfl, Below.refl _ _⟩
  case round =>
    obtain ⟨i, rfl, hi, hyes, hbr⟩ := hrel
    have HYES := Lib.hid hyes
    clear hyes
    have HXR := Lib.hid (HX0.out.below hbr (Nat.le_refl _))
    have z2 : wr.cell? ⟨w.heap.size, 2, none⟩ = some (.slice A n cap) := HXR.out.cell 2
    by_cases hin : i < n
    · have hil : i < xs.length := by have := HN.out; omega
      obtain ⟨ad, rfl, hadb, hcx⟩ := at_ext HA0.out i hil
      obtain ⟨x0, x1⟩ := hcx wr hbr
      have HS := Lib.hid (ok9_snoc xs i hil)
      rw [HYES.out, Bool.true_and] at HS
      have HBAD := Lib.hid (show ok9 (xs.take (i + 1)) = false → Tb.right ⟨g, o, xs⟩ = false from fun h => by rw [HR1.out, ok9_take (i + 1) h]; rfl)
      obtain ⟨ANY, hANY⟩ : ∃ f : Nat → Bool, ∀ k, f k = (xs.take k).any fun y => decide (y.q = xs[i].q) := ⟨_, fun _ => rfl⟩
      rw [← hANY i] at HS
      have HANY0 := Lib.hid (show ANY 0 = false by rw [hANY]; rfl)
      have HANYS := Lib.hid (show ∀ k (hk : k < xs.length), ANY (k + 1) = (ANY k || decide (xs[k].q = xs[i].q)) from fun k hk => by rw [hANY, hANY, List.take_succ_eq_append_getElem hk, List.any_append]; simp)
      have HANYM := Lib.hid (show ∀ k, k ≤ i → ANY k = true → ANY i = true from fun k hk h => by
        rw [hANY, List.any_eq_true] at h ⊢
        obtain ⟨y, hy, h⟩ := h
        exact ⟨y, (List.take_sublist_take_left hk).subset hy, h⟩)
      have HOKE := Lib.hid (@Tb.okE_iff xs[i])
      have HIN := Lib.hid (show i + 1 ≤ n by omega)
      clear hANY hcx
      generalize xs[i] = x at *
      obtain ⟨xq, xl⟩ := x
      have HOK2 := Lib.hid (show Tb.okE ⟨xq, xl⟩ = true ↔ 0 ≤ xq ∧ xq ≤ 2147483648 ∧ 0 ≤ xl ∧ xl ≤ 3776 ∧ (xq = 0 → xl = 0) from HOKE.out)
      have y0 : wr.cell? (ad.add (i * 2)) = some (.int .i64 xq) := x0
      have y1 : wr.cell? ⟨(ad.add (i * 2)).block, (ad.add (i * 2)).off + 1, none⟩ = some (.int .i64 xl) := x1
      clear x0 x1
      have HBX1 := Lib.hid (hbr.alloc hbr.size (.cells #[.int .i64 xq, .int .i64 xl] 44))
      have HEX1 := Lib.hid (Blk.new wr #[.int .i64 xq, .int .i64 xl] 44)
      have HFIN := Lib.hid (fun (W : World) (hW : Below w0.heap.size w0 W) => show Below w.heap.size w W from HB0.out.trans (hW.mono HB0.out.size))
      by_cases c0 : xq < 0
      · have hd0 : decide (xq < 0) = true := decide_eq_true c0
        have HF := Lib.hid (HBAD.out (by rw [HS.out, show Tb.okE ⟨xq, xl⟩ = false by rw [Bool.eq_false_iff]; intro h; have := HOK2.out.1 h; omega]; rfl))
        clear c0
        go_wp2
        go_ret
        exact ⟨by rw [HF.out]; rfl, HFIN.out _ HBX1.out⟩
      have hd0 : decide (xq < 0) = false := decide_eq_false c0
      by_cases c1 : 2147483648 < xq
      · have hd1 : decide ((2147483648 : Int) < xq) = true := decide_eq_true c1
        have HF := Lib.hid (HBAD.out (by rw [HS.out, show Tb.okE ⟨xq, xl⟩ = false by rw [Bool.eq_false_iff]; intro h; have := HOK2.out.1 h; omega]; rfl))
        clear c0 c1
        go_wp2
        go_ret
        exact ⟨by rw [HF.out]; rfl, HFIN.out _ HBX1.out⟩
      have hd1 : decide ((2147483648 : Int) < xq) = false := decide_eq_false c1
      by_cases c2 : xl < 0
      · have hd2 : decide (xl < 0) = true := decide_eq_true c2
        have HF := Lib.hid (HBAD.out (by rw [HS.out, show Tb.okE ⟨xq, xl⟩ = false by rw [Bool.eq_false_iff]; intro h; have := HOK2.out.1 h; omega]; rfl))
        clear c0 c1 c2
        go_wp2
        go_ret
        exact ⟨by rw [HF.out]; rfl, HFIN.out _ HBX1.out⟩
      have hd2 : decide (xl < 0) = false := decide_eq_false c2
      by_cases c3 : 3776 < xl
      · have hd3 : decide ((3776 : Int) < xl) = true := decide_eq_true c3
        have HF := Lib.hid (HBAD.out (by rw [HS.out, show Tb.okE ⟨xq, xl⟩ = false by rw [Bool.eq_false_iff]; intro h; have := HOK2.out.1 h; omega]; rfl))
        clear c0 c1 c2 c3
        go_wp2
        go_ret
        exact ⟨by rw [HF.out]; rfl, HFIN.out _ HBX1.out⟩
      have hd3 : decide ((3776 : Int) < xl) = false := decide_eq_false c3
      by_cases c4 : xq = 0 ∧ xl ≠ 0
      · have hq1 : (xq == 0) = true := by simp [c4.1]
        have hl1 : (xl != 0) = true := by simp [c4.2]
        have HF := Lib.hid (HBAD.out (by rw [HS.out, show Tb.okE ⟨xq, xl⟩ = false by rw [Bool.eq_false_iff]; intro h; have := (HOK2.out.1 h).2.2.2.2 c4.1; exact c4.2 this]; rfl))
        clear c0 c1 c2 c3 c4
        go_wp2
        go_ret
        exact ⟨by rw [HF.out]; rfl, HFIN.out _ HBX1.out⟩
      have hoke : Tb.okE ⟨xq, xl⟩ = true := HOK2.out.2 ⟨by omega, by omega, by omega, by omega, fun h => by
        cases Int.decEq xl 0 with
        | isTrue h2 => exact h2
        | isFalse h2 => exact absurd ⟨h, h2⟩ c4⟩
      rw [hoke, Bool.true_and] at HS
      clear hoke
      by_cases hq : xq = 0
      · have hl0 : xl = 0 := by
          cases Int.decEq xl 0 with
          | isTrue h2 => exact h2
          | isFalse h2 => exact absurd ⟨hq, h2⟩ c4
        have hq1 : (xq == 0) = true := by simp [hq]
        have hq2 : (xq != 0) = false := by simp [hq]
        have hl1 : (xl != 0) = false := by simp [hl0]
        have HT := Lib.hid (show ok9 (xs.take (i + 1)) = true by rw [HS.out]; simp [hq])
        clear c0 c1 c2 c3 c4 hq hl0
        go_wp2_with fail
        generalize wr.heap.size = ge at *
        clear y0 y1 z2 hd0 hd1 hd2 hd3 hl1 hq1
        go_loopw [6] (fun vk wq => ∃ k : Nat, vk = .int .i64 k ∧ k ≤ i ∧ Blk wq ge #[.int .i64 xq, .int .i64 xl] 44 ∧ Below w0.heap.size w0 wq) (fun vk _ => i - (intOf vk).toNat)
        case atStart => exact ⟨0, rfl, by omega, HEX1.out, HBX1.out⟩
        case round =>
          clear hbr
          obtain ⟨k, rfl, hk, hex, hbq⟩ := hrel
          have HE := Lib.hid hex
          have HBQ := Lib.hid hbq

          have e0 : wr.cell? ⟨ge, 0, none⟩ = some (.int .i64 xq) := hex.cell 0
          have z2 : wr.cell? ⟨w.heap.size, 2, none⟩ = some (.slice (some ad) n cap) := (HX0.out.below hbq (Nat.le_refl _)).cell 2
          clear hex
          by_cases hki : k < i
          · have HKI := Lib.hid (show k + 1 ≤ i by omega)
            clear z2
            go_wp2_with fail
            go_quiet (fail)
            go_wp2
            go_roundw
            case rel => exact ⟨k + 1, by go_num, HKI.out, HE.out, below_many HBQ.out _⟩
            case measure => have := HKI.out; first | omega | (simp [intOf]; omega)
          · obtain rfl : k = i := by omega

            clear z2 e0
            go_wp2
            go_roundw
            case rel => exact ⟨k + 1, by go_num, HIN.out, HT.out, HBQ.out⟩
            case measure => have := HIN.out; first | omega | (simp [intOf]; omega)
      · have hq1 : (xq == 0) = false := by simp [hq]
        have hq2 : (xq != 0) = true := by simp [hq]
        clear c0 c1 c2 c3 c4
        go_wp2_with fail
        generalize wr.heap.size = ge at *
        clear y0 y1 z2 hd0 hd1 hd2 hd3 hq1
        go_loopw [6] (fun vk wq => ∃ k : Nat, vk = .int .i64 k ∧ k ≤ i ∧ Blk wq ge #[.int .i64 xq, .int .i64 xl] 44 ∧ Below w0.heap.size w0 wq ∧ ANY k = false) (fun vk _ => i - (intOf vk).toNat)
        case atStart => exact ⟨0, rfl, by omega, HEX1.out, HBX1.out, HANY0.out⟩
        case round =>
          clear hbr
          obtain ⟨k, rfl, hk, hex, hbq, hany⟩ := hrel
          have HE := Lib.hid hex
          have HBQ := Lib.hid hbq
          have HAK := Lib.hid hany
          have e0 : wr.cell? ⟨ge, 0, none⟩ = some (.int .i64 xq) := hex.cell 0
          have z2 : wr.cell? ⟨w.heap.size, 2, none⟩ = some (.slice (some ad) n cap) := (HX0.out.below hbq (Nat.le_refl _)).cell 2
          clear hex hany
          by_cases hki : k < i
          · have HKI := Lib.hid (show k + 1 ≤ i by omega)
            have hkl : k < xs.length := by have := HN.out; omega
            obtain ⟨ad', e, -, hck⟩ := at_ext HA0.out k hkl
            injection e with e
            subst e
            have yk := (hck wr hbq).1
            have HAS := Lib.hid (HANYS.out k hkl)
            rw [HAK.out, Bool.false_or] at HAS
            have hkn : k < n := by omega
            clear hck
            generalize xs[k].q = qk at *
            by_cases hqk : qk = xq
            · have hb1 : (qk == xq) = true := by simp [hqk]
              have HF := Lib.hid (HBAD.out (by rw [HS.out, HANYM.out (k + 1) HKI.out (by rw [HAS.out]; simp [hqk])]; simp [hq]))
              clear hqk
              go_wp2_with fail
              go_quiet (fail)
              go_wp2
              go_ret
              exact ⟨by rw [HF.out]; rfl, HFIN.out _ (below_many HBQ.out _)⟩
            · have hb1 : (qk == xq) = false := by simp [hqk]
              have HA1 := Lib.hid (show ANY (k + 1) = false by rw [HAS.out]; simp [hqk])
              clear hqk
              go_wp2_with fail
              go_quiet (fail)
              go_wp2
              go_roundw
              case rel => exact ⟨k + 1, by go_num, HKI.out, HE.out, below_many HBQ.out _, HA1.out⟩
              case measure => have := HKI.out; first | omega | (simp [intOf]; omega)
          · obtain rfl : k = i := by omega
            have HT := Lib.hid (show ok9 (xs.take (k + 1)) = true by rw [HS.out, HAK.out]; simp)
            clear z2 e0
            go_wp2
            go_roundw
            case rel => exact ⟨k + 1, by go_num, HIN.out, HT.out, HBQ.out⟩
            case measure => have := HIN.out; first | omega | (simp [intOf]; omega)
    · obtain rfl : i = n := by omega
      have HOK9 := Lib.hid (show ok9 xs = true by have := HYES.out; rwa [← HN.out, List.take_length] at this)
      have HR2 := Lib.hid (show Tb.right ⟨g, o, xs⟩ = Tb.opOk ⟨g, o, xs⟩ by rw [HR1.out, HOK9.out, Bool.true_and])
      have HBZ := Lib.hid (HB0.out.trans (hbr.mono HB0.out.size))
      have z1 : wr.cell? ⟨w.heap.size, 1, none⟩ = some (.int .i64 o) := HXR.out.cell 1
      by_cases ho : o < 0
      · have hd6 : decide (o < 0) = true := decide_eq_true ho
        have HF := Lib.hid (show Tb.right ⟨g, o, xs⟩ = true by rw [HR2.out]; unfold Tb.opOk; simp only; rw [decide_eq_true (show o = -1 by omega)]; rfl)
        clear ho
        go_wp2
        go_ret
        exact ⟨by rw [HF.out]; rfl, HBZ.out⟩
      · obtain ⟨k, rfl⟩ := Int.eq_ofNat_of_zero_le (show 0 ≤ o by omega)
        have hkl : k < xs.length := by have := HN.out; omega
        have hkn : k < i := by omega
        obtain ⟨ad, rfl, -, hck⟩ := at_ext HA0.out k hkl
        obtain ⟨q0, q1⟩ := hck wr hbr
        have HV := Lib.hid (HR2.out.trans (opOk_at (g := g) k hkl rfl))
        clear hck ho ho1 ho2
        generalize xs[k] = x at *
        obtain ⟨xq, xl⟩ := x
        have y0 : wr.cell? (ad.add (k * 2)) = some (.int .i64 xq) := q0
        have y1 : wr.cell? ⟨(ad.add (k * 2)).block, (ad.add (k * 2)).off + 1, none⟩ = some (.int .i64 xl) := q1
        have hd6 : decide ((k : Int) < 0) = false := decide_eq_false (by omega)
        clear q0 q1
        by_cases hq : xq = 0
        · have hqb : (xq != 0) = false := by simp [hq]
          have HF := Lib.hid (show Tb.right ⟨g, (k : Int), xs⟩ = false by rw [HV.out]; simp [hq])
          clear hq
          go_wp2
          go_ret
          exact ⟨by rw [HF.out]; rfl, HBZ.out⟩
        · have hqb : (xq != 0) = true := by simp [hq]
          by_cases hl : xl = 0
          · have hlb : (xl == 0) = true := by simp [hl]
            have HF := Lib.hid (show Tb.right ⟨g, (k : Int), xs⟩ = true by rw [HV.out]; simp [hq, hl])
            clear hq hl
            go_wp2
            go_ret
            exact ⟨by rw [HF.out]; rfl, HBZ.out⟩
          · have hlb : (xl == 0) = false := by simp [hl]
            have HF := Lib.hid (show Tb.right ⟨g, (k : Int), xs⟩ = false by rw [HV.out]; simp [hq, hl])
            clear hq hl
            go_wp2
            go_ret
            exact ⟨by rw [HF.out]; rfl, HBZ.out⟩
end Go.Proofs.Ytgicjdlpkphfnaa

namespace Go.Proofs.Ytgicjdlpkphfnaa
open Go.RowKit
set_option maxRecDepth 100000

theorem max_at (a b : Int) (W : World) : (Builtin.max_ #[2, 2] 2 #[.int .i64 a, .int .i64 b]).run Try.prog W = .ok (.int .i64 (max a b)) W := by
  rcases Int.lt_or_le a b with h | h
  · have e : max a b = b := by omega
    rw [e]
    simp [Builtin.max_, Builtin.max2, go_sem]
    omega
  · have e : max a b = a := by omega
    rw [e]
    simp [Builtin.max_, Builtin.max2, go_sem]
    omega
end Go.Proofs.Ytgicjdlpkphfnaa
