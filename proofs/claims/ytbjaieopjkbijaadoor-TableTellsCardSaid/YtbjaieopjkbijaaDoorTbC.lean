/-
  Layer 9: apart, rightOpen, Right: what they answer, of any tables. Assumed: that the extents lie in memory.
-/
import Derived.Test.YtbjaieopjkbijaaDoorTbB

namespace Go.Proofs.YtbjaieopjkbijaaDoor
open Go.RowKit
set_option maxRecDepth 100000

theorem apart_snoc (xs : List Tb.Ext) (i : Nat) (hi : i < xs.length) : Tb.apart (xs.take (i + 1)) = (Tb.apart (xs.take i) && (decide (xs[i].q = 0) || !(xs.take i).any fun x => decide (x.q = xs[i].q))) := by
  rw [List.take_succ_eq_append_getElem hi, Bool.eq_iff_iff]
  unfold Tb.apart
  rw [Bool.and_eq_true, decide_eq_true_eq, decide_eq_true_eq, List.pairwise_append, Bool.or_eq_true, decide_eq_true_eq, Bool.not_eq_true', List.any_eq_false]
  simp only [List.pairwise_singleton, List.mem_singleton, forall_eq, true_and, decide_eq_true_eq]
  constructor
  · rintro ⟨h1, h2⟩
    refine ⟨h1, ?_⟩
    cases Int.decEq xs[i].q 0 with
    | isTrue h => exact .inl h
    | isFalse h => exact .inr fun x hx => h2 x hx h
  · rintro ⟨h1, h2⟩
    refine ⟨h1, fun x hx h0 => ?_⟩
    rcases h2 with h2 | h2
    · exact absurd h2 h0
    · exact h2 x hx
theorem apart_take {xs : List Tb.Ext} (i : Nat) (h : Tb.apart (xs.take i) = false) : Tb.apart xs = false := by
  cases ha : Tb.apart xs with
  | false => rfl
  | true =>
    have h1 : xs.Pairwise fun a b => b.q ≠ 0 → a.q ≠ b.q := of_decide_eq_true ha
    have h2 : Tb.apart (xs.take i) = true := decide_eq_true (List.Pairwise.sublist (List.take_sublist _ _) h1)
    rw [h] at h2; cases h2
theorem slice_to (W : World) (ad : Addr) (n cap i : Nat) (hi : i < n) (hc : n ≤ cap) : (Instr.sliceAt 22 (.slice (some ad) n cap) none (some (.int .i64 (i : Int))) none).run Tryd.prog W = .ok (.slice (some ad) i cap) W := by
  have h3 : ¬ cap < i := by omega
  simp [Instr.sliceAt, Instr.slice, run_underlying Tryd.underlying22, Instr.sliceBounds, Instr.sliceBound, asIntOf, h3, Addr.add]

set_option maxHeartbeats 2000000 in
theorem apart_any (A : Option Addr) (cap n : Nat) (xs : List Tb.Ext) (w : World) (hn : xs.length = n) (hm : n ≤ 8) (hc : n ≤ cap) (hA : Lies w A (flatX xs)) :
    Calls Tryd.prog 33 #[.slice A n cap] w fun e w' => e = .returned (.bool (Tb.apart xs)) ∧ Below w.heap.size w w' := by
  have HA := Lib.hid hA
  have HN := Lib.hid hn
  clear hA hn
  go_enter Tryd.func33, Tryd.ntmps33
  go_wp2_with fail
  go_loopw [8] (fun vi wr => ∃ i : Nat, vi = .int .i64 i ∧ i ≤ n ∧ Tb.apart (xs.take i) = true ∧ Below w.heap.size w wr) (fun vi _ => n - (intOf vi).toNat)
  case atStart => exact ⟨0, rfl, by omega, rfl, Below.refl _ _⟩
  case round =>
    obtain ⟨i, rfl, hi, hyes, hbr⟩ := hrel
    have HYES := Lib.hid hyes
    clear hyes
    by_cases hin : i < n
    · have hil : i < xs.length := by have := HN.out; omega
      obtain ⟨ad, rfl, hadb, hcx⟩ := at_ext HA.out i hil
      obtain ⟨x0, x1⟩ := hcx wr hbr
      have HS := Lib.hid (apart_snoc xs i hil)
      rw [HYES.out] at HS
      have HAT := Lib.hid (fun (h : Tb.apart (xs.take (i + 1)) = false) => apart_take (i + 1) h)
      have HTL := Lib.hid (show (xs.take i).length = i by rw [List.length_take]; omega)
      have HLT := Lib.hid (show Lies w (some ad) (flatX (xs.take i)) by have := HA.out.take (i * 2); rwa [flatX_take] at this)
      have HSL := Lib.hid (fun (W : World) => slice_to W ad n cap i hin hc)
      have HCN := Lib.hid (fun (g : Nat) (W : World) (h1 : Lies W (some ad) (flatX (xs.take i))) (hc : W.cell? ⟨g, 0, none⟩ = some (.int .i64 xs[i].q)) (hg : g < W.heap.size) => contains_same g xs[i].q (some ad) cap i (xs.take i) W HTL.out (by omega) h1 hc hg)
      obtain ⟨AN, hAN⟩ : ∃ AN, Tb.apart (xs.take (i + 1)) = AN := ⟨_, rfl⟩
      rw [hAN] at HS HAT
      have HANE := Lib.hid hAN
      clear hAN
      generalize (xs.take i).any (fun x => decide (x.q = xs[i].q)) = B at *
      clear hcx
      generalize xs[i] = x at *
      obtain ⟨xq, xl⟩ := x
      have y0 : wr.cell? (ad.add (i * 2)) = some (.int .i64 xq) := x0
      have y1 : wr.cell? ⟨(ad.add (i * 2)).block, (ad.add (i * 2)).off + 1, none⟩ = some (.int .i64 xl) := x1
      clear x0 x1
      have HIN := Lib.hid (show i + 1 ≤ n by omega)
      have bx := Blk.new wr #[.int .i64 xq, .int .i64 xl] 39
      have hb1 : Below w.heap.size w (wr.alloc (.cells #[.int .i64 xq, .int .i64 xl] 39)) := hbr.alloc hbr.size _
      have HB1 := Lib.hid hb1
      have HLT1 := Lib.hid (HLT.out.below hb1)
      have HBX := Lib.hid (bx.cell 0)
      have HSZ := Lib.hid bx.lt
      clear hb1 bx
      by_cases hq : xq = 0
      · have hqb : (xq != 0) = false := by simpa using hq
        have HAN := Lib.hid (show AN = true by rw [HS.out]; simp [hq])
        have HTR := Lib.hid (show Tb.apart (xs.take (i + 1)) = true by rw [HANE.out, HAN.out])
        clear hq
        go_wp2
        go_roundw
        case rel => exact ⟨i + 1, by go_num, HIN.out, HTR.out, HB1.out⟩
        case measure => have := HIN.out; simp [intOf]; omega
      · have hqb : (xq != 0) = true := by simpa using hq
        have hsl := HSL.out
        have HAN := Lib.hid (show AN = !B by rw [HS.out]; simp [hq])
        clear hq
        go_wp2_with fail
        refine (HCN.out wr.heap.size _ HLT1.out (HBX.out.trans rfl) HSZ.out).mono ?_
        rintro e w1 ⟨rfl, d1⟩
        have HB2 := Lib.hid (HB1.out.trans (d1.mono HB1.out.size))
        clear d1 hsl
        rcases B with _ | _
        · have HTR := Lib.hid (show Tb.apart (xs.take (i + 1)) = true by rw [HANE.out, HAN.out]; rfl)
          go_wp2
          go_roundw
          case rel => exact ⟨i + 1, by go_num, HIN.out, HTR.out, HB2.out⟩
          case measure => have := HIN.out; simp [intOf]; omega
        · have HFA := Lib.hid (HAT.out HAN.out)
          go_wp2
          go_ret
          exact ⟨by rw [HFA.out]; rfl, HB2.out⟩
    · obtain rfl : i = n := by omega
      have HAL := Lib.hid (show Tb.apart xs = true by have := HYES.out; rwa [← HN.out, List.take_length] at this)
      go_wp2
      go_ret
      exact ⟨by rw [HAL.out]; rfl, hbr⟩

/-- whether the open one may be so, as a program asks -/
theorem opOk_at {g o : Int} {xs : List Tb.Ext} (k : Nat) (hk : k < xs.length) (ho : o = (k : Int)) : Tb.opOk ⟨g, o, xs⟩ = (!decide (xs[k].q = 0) && decide (xs[k].l = 0)) := by
  subst ho
  unfold Tb.opOk
  simp only [Int.toNat_natCast, List.getElem?_eq_getElem hk]
  have e1 : decide ((k : Int) = -1) = false := decide_eq_false (by omega)
  have e2 : decide (0 ≤ (k : Int)) = true := decide_eq_true (by omega)
  rw [e1, e2]
  simp
theorem opOk_out {g o : Int} {xs : List Tb.Ext} (h1 : o ≠ -1) (h2 : ¬ (0 ≤ o ∧ o < (xs.length : Int))) : Tb.opOk ⟨g, o, xs⟩ = false := by
  unfold Tb.opOk
  simp only
  rw [decide_eq_false h1]
  by_cases h3 : 0 ≤ o
  · rw [List.getElem?_eq_none (by omega)]
    simp
  · rw [decide_eq_false h3]; rfl

set_option maxHeartbeats 2000000 in
theorem rightOpen_any (g o : Int) (A : Option Addr) (cap n : Nat) (xs : List Tb.Ext) (w : World) (hn : xs.length = n) (hm : n ≤ 8) (hA : Lies w A (flatX xs)) :
    Calls Tryd.prog 34 #[tabV g o A n cap] w fun e w' => e = .returned (.bool (Tb.opOk ⟨g, o, xs⟩)) ∧ Below w.heap.size w w' := by
  have HA := Lib.hid hA
  have HN := Lib.hid hn
  have HB := Lib.hid ((Below.refl w.heap.size w).alloc (Nat.le_refl _) (.cells #[.int .i64 g, .int .i64 o, .slice A n cap] 24))
  clear hA hn
  by_cases h1 : o = -1
  · have HO := Lib.hid (show Tb.opOk ⟨g, o, xs⟩ = true by unfold Tb.opOk; simp [h1])
    subst h1
    go_enter Tryd.func34, Tryd.ntmps34
    go_wp2
    go_ret
    exact ⟨by rw [HO.out]; rfl, HB.out⟩
  · have hob : (o == -1) = false := by simpa using h1
    by_cases h2 : 0 ≤ o ∧ o < (n : Int)
    · obtain ⟨k, rfl⟩ := Int.eq_ofNat_of_zero_le h2.1
      have hkl : k < xs.length := by have := HN.out; omega
      have HO := Lib.hid (opOk_at (g := g) k hkl rfl)
      obtain ⟨ad, rfl, hadb, hcx⟩ := at_ext HA.out k hkl
      obtain ⟨x0, x1⟩ := hcx _ HB.out
      have HW := Lib.hid (fun (W : World) => withinI_any (k : Int) 0 ((n : Int) - 1) true (decide_eq_true (by omega)) W)
      have hkn : k < n := by omega
      clear hcx h1 h2
      generalize Tb.opOk ⟨g, (k : Int), xs⟩ = R at *
      generalize xs[k] = x at *
      obtain ⟨xq, xl⟩ := x
      have y0 : (w.alloc (.cells #[.int .i64 g, .int .i64 (k : Int), .slice (some ad) n cap] 24)).cell? (ad.add (k * 2)) = some (.int .i64 xq) := x0
      have y1 : (w.alloc (.cells #[.int .i64 g, .int .i64 (k : Int), .slice (some ad) n cap] 24)).cell? ⟨(ad.add (k * 2)).block, (ad.add (k * 2)).off + 1, none⟩ = some (.int .i64 xl) := x1
      clear x0 x1
      go_enter Tryd.func34, Tryd.ntmps34
      go_wp2_with fail
      refine (HW.out _).mono ?_
      rintro e w1 ⟨rfl, rfl⟩
      by_cases hq : xq = 0
      · have hqb : (xq != 0) = false := by simpa using hq
        have HZ := Lib.hid (show R = false by rw [HO.out]; simp [hq])
        clear hq
        go_wp2
        go_ret
        exact ⟨by rw [HZ.out]; rfl, HB.out⟩
      · have hqb : (xq != 0) = true := by simpa using hq
        by_cases hl : xl = 0
        · have hlb : (xl == 0) = true := by simpa using hl
          have HZ := Lib.hid (show R = true by rw [HO.out]; simp [hq, hl])
          clear hq hl
          go_wp2
          go_ret
          exact ⟨by rw [HZ.out]; rfl, HB.out⟩
        · have hlb : (xl == 0) = false := by simpa using hl
          have HZ := Lib.hid (show R = false by rw [HO.out]; simp [hq, hl])
          clear hq hl
          go_wp2
          go_ret
          exact ⟨by rw [HZ.out]; rfl, HB.out⟩
    · have HO := Lib.hid (opOk_out (g := g) h1 (by rw [HN.out]; exact h2))
      have HW := Lib.hid (fun (W : World) => withinI_any o 0 ((n : Int) - 1) false (decide_eq_false (by omega)) W)
      clear h1 h2
      go_enter Tryd.func34, Tryd.ntmps34
      go_wp2_with fail
      refine (HW.out _).mono ?_
      rintro e w1 ⟨rfl, rfl⟩
      go_wp2
      go_ret
      exact ⟨by rw [HO.out]; rfl, HB.out⟩
end Go.Proofs.YtbjaieopjkbijaaDoor
