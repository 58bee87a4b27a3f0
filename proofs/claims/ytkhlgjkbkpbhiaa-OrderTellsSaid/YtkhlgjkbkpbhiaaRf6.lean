/-
  Layer 6: turntableref06.Right, First and Cost: what they answer, of any items. Assumed: that the items lie in memory, and that there are at most a thousand.
-/
import Derived.Test.YtkhlgjkbkpbhiaaNum6

namespace Go.Proofs.Ytkhlgjkbkpbhiaa
open Go.RowKit
set_option maxRecDepth 100000

set_option maxHeartbeats 4000000 in
theorem rright_any (x : Plain.It) (w : World) : Calls Try.prog 14 #[itV x] w fun e w' => e = .returned (.bool x.right) ∧ Below w.heap.size w w' := by
  obtain ⟨R, hR⟩ : ∃ R, x.right = R := ⟨_, rfl⟩
  rw [hR]
  have HR := Lib.hid hR
  have hq := Plain.It.right_iff x
  rw [hR] at hq
  obtain ⟨i, c, t, s, p⟩ := x
  simp only [itV] at *
  clear hR
  have HB := Lib.hid ((Below.refl w.heap.size w).alloc (Nat.le_refl _) (.cells #[.int .i64 i, .int .i64 c, .int .i64 t, .int .i64 s, .bool p] 24))
  have HQ := Lib.hid hq
  clear hq HR
  by_cases h0 : 1 ≤ i
  rotate_left
  · obtain rfl : R = false := by
      cases R with
      | false => rfl
      | true => have := HQ.out.1 rfl; omega
    go_enter Try.func14, Try.ntmps14
    go_wp2
    go_ret
    exact ⟨rfl, HB.out⟩
  by_cases h1 : i ≤ 281474976710656
  rotate_left
  · obtain rfl : R = false := by
      cases R with
      | false => rfl
      | true => have := HQ.out.1 rfl; omega
    go_enter Try.func14, Try.ntmps14
    go_wp2
    go_ret
    exact ⟨rfl, HB.out⟩
  by_cases h2 : 0 ≤ c
  rotate_left
  · obtain rfl : R = false := by
      cases R with
      | false => rfl
      | true => have := HQ.out.1 rfl; omega
    go_enter Try.func14, Try.ntmps14
    go_wp2
    go_ret
    exact ⟨rfl, HB.out⟩
  by_cases h3 : c ≤ 7
  rotate_left
  · obtain rfl : R = false := by
      cases R with
      | false => rfl
      | true => have := HQ.out.1 rfl; omega
    go_enter Try.func14, Try.ntmps14
    go_wp2
    go_ret
    exact ⟨rfl, HB.out⟩
  by_cases h4 : 0 ≤ t
  rotate_left
  · obtain rfl : R = false := by
      cases R with
      | false => rfl
      | true => have := HQ.out.1 rfl; omega
    go_enter Try.func14, Try.ntmps14
    go_wp2
    go_ret
    exact ⟨rfl, HB.out⟩
  by_cases h5 : t ≤ 281474976710656
  rotate_left
  · obtain rfl : R = false := by
      cases R with
      | false => rfl
      | true => have := HQ.out.1 rfl; omega
    go_enter Try.func14, Try.ntmps14
    go_wp2
    go_ret
    exact ⟨rfl, HB.out⟩
  by_cases h6 : 0 ≤ s
  rotate_left
  · obtain rfl : R = false := by
      cases R with
      | false => rfl
      | true => have := HQ.out.1 rfl; omega
    go_enter Try.func14, Try.ntmps14
    go_wp2
    go_ret
    exact ⟨rfl, HB.out⟩
  by_cases h7 : s ≤ 1048576
  rotate_left
  · obtain rfl : R = false := by
      cases R with
      | false => rfl
      | true => have := HQ.out.1 rfl; omega
    go_enter Try.func14, Try.ntmps14
    go_wp2
    go_ret
    exact ⟨rfl, HB.out⟩
  obtain rfl : R = true := HQ.out.2 (by omega)
  go_enter Try.func14, Try.ntmps14
  go_wp2
  go_ret
  exact ⟨rfl, HB.out⟩

set_option maxHeartbeats 4000000 in
theorem rfirst_any (x y : Plain.It) (w : World) : Calls Try.prog 16 #[itV x, itV y] w fun e w' => e = .returned (.bool (Plain.ilt x y)) ∧ Below w.heap.size w w' := by
  obtain ⟨R, hR⟩ : ∃ R, Plain.ilt x y = R := ⟨_, rfl⟩
  rw [hR]
  have hq := Plain.ilt_iff x y
  rw [hR] at hq
  obtain ⟨xi, xc, xt, xs, xp⟩ := x
  obtain ⟨yi, yc, yt, ys, yp⟩ := y
  simp only [itV] at *
  clear hR
  have HB := Lib.hid (((Below.refl w.heap.size w).alloc (Nat.le_refl _) (.cells #[.int .i64 xi, .int .i64 xc, .int .i64 xt, .int .i64 xs, .bool xp] 24)).alloc (by simp) (.cells #[.int .i64 yi, .int .i64 yc, .int .i64 yt, .int .i64 ys, .bool yp] 24))
  have HQ := Lib.hid hq
  clear hq
  by_cases h1 : xc = yc
  rotate_left
  · have q : (xc == yc) = false := beq_eq_false_iff_ne.2 h1
    have q2 : (xc != yc) = true := by simp [bne, q]
    by_cases hz : xc < yc
    · obtain rfl : R = true := HQ.out.2 (by omega)
      go_enter Try.func16, Try.ntmps16
      go_wp2
      go_ret
      exact ⟨rfl, HB.out⟩
    · obtain rfl : R = false := by
        cases R with
        | false => rfl
        | true => have := HQ.out.1 rfl; omega
      go_enter Try.func16, Try.ntmps16
      go_wp2
      go_ret
      exact ⟨rfl, HB.out⟩
  subst h1
  by_cases h2 : xt = yt
  rotate_left
  · have q : (xt == yt) = false := beq_eq_false_iff_ne.2 h2
    have q2 : (xt != yt) = true := by simp [bne, q]
    by_cases hz : xt < yt
    · obtain rfl : R = true := HQ.out.2 (by omega)
      go_enter Try.func16, Try.ntmps16
      go_wp2
      go_ret
      exact ⟨rfl, HB.out⟩
    · obtain rfl : R = false := by
        cases R with
        | false => rfl
        | true => have := HQ.out.1 rfl; omega
      go_enter Try.func16, Try.ntmps16
      go_wp2
      go_ret
      exact ⟨rfl, HB.out⟩
  subst h2
  by_cases hz : xi < yi
  · obtain rfl : R = true := HQ.out.2 (by omega)
    go_enter Try.func16, Try.ntmps16
    go_wp2
    go_ret
    exact ⟨rfl, HB.out⟩
  · obtain rfl : R = false := by
      cases R with
      | false => rfl
      | true => have := HQ.out.1 rfl; omega
    go_enter Try.func16, Try.ntmps16
    go_wp2
    go_ret
    exact ⟨rfl, HB.out⟩

set_option maxHeartbeats 4000000 in
theorem rcost_any (A : Option Addr) (n cap : Nat) (l : List Plain.It) (w : World) (hn : l.length = n) (hm : n ≤ 1000) (hA : Lies w A (flatI l)) :
    Calls Try.prog 12 #[.slice A n cap] w fun e w' => e = .returned (.tuple #[.int .i64 (Plain.costs l), .int .i64 (Plain.pins l)]) ∧ Below w.heap.size w w' := by
  have HA := Lib.hid hA
  have HN := Lib.hid hn
  have HE := Lib.hid (show Plain.costs (l.take n) = Plain.costs l ∧ Plain.pins (l.take n) = Plain.pins l by rw [List.take_of_length_le (by omega)]; exact ⟨rfl, rfl⟩)
  generalize Plain.costs l = CL at *
  generalize Plain.pins l = PL at *
  clear hA hn
  go_enter Try.func12, Try.ntmps12
  go_wp2
  go_loopg [4, 5, 6] n (fun kx s4 s5 s10 wr => ∃ (k : Nat) (ca cp : Int), s4 = .int .i64 ca ∧ s5 = .int .i64 cp ∧ s10 = .int .i64 k ∧ k ≤ n ∧ n - k ≤ kx ∧ 0 ≤ cp ∧ cp ≤ ca ∧ ca ≤ 1048576 * k ∧ Aside (Plain.costs (l.take k) = ca ∧ Plain.pins (l.take k) = cp) ∧ Below w.heap.size w wr)
  case atStart => exact ⟨0, 0, 0, rfl, rfl, rfl, Nat.zero_le _, by omega, by omega, by omega, by omega, ⟨rfl, rfl⟩, Below.refl _ _⟩
  case round =>
    obtain ⟨k, ca, cp, rfl, rfl, rfl, hk, hkx, hp0, hpc, hcb, HS, hbr⟩ := hrel
    by_cases hlt : k < n
    · have hltz : (k : Int) < (n : Int) := by omega
      have hkl : k < l.length := by rw [HN.out]; exact hlt
      obtain ⟨ad, rfl, hadb, hc⟩ := at_item HA.out k hkl
      obtain ⟨x0, x1, x2, x3, x4⟩ := hc wr hbr
      have hs1 : Plain.costs (l.take (k + 1)) = ca + if l[k].right then l[k].cost else 0 := by rw [List.take_succ_eq_append_getElem hkl, Plain.costs_snoc, HS.out.1]
      have hs2 : Plain.pins (l.take (k + 1)) = cp + if l[k].right && l[k].pin then l[k].cost else 0 := by rw [List.take_succ_eq_append_getElem hkl, Plain.pins_snoc, HS.out.2]
      have H1 := Lib.hid hs1
      have H2 := Lib.hid hs2
      have HR := Lib.hid (fun (W : World) => rright_any l[k] W)
      have hrb := Plain.It.right_iff l[k]
      obtain ⟨R, hR⟩ : ∃ R, l[k].right = R := ⟨_, rfl⟩
      rw [hR] at H1 H2 HR hrb
      have HCC := Lib.hid hc
      clear hc hs1 hs2 hR HS
      generalize l[k] = x at *
      obtain ⟨xi, xc, xt, xs, xp⟩ := x
      simp only [itV] at *
      have hcost : R = true → 0 ≤ xs ∧ xs ≤ 1048576 := fun h => ⟨(hrb.1 h).2.2.2.1, (hrb.1 h).2.2.2.2⟩
      clear hrb
      go_wp2_with fail
      refine (HR.out _).mono ?_
      rintro e w1 ⟨rfl, d1⟩
      have HB2 := Lib.hid (hbr.trans (d1.mono hbr.size))
      obtain ⟨y0, y1, y2, y3, y4⟩ := HCC.out w1 HB2.out
      clear d1 x0 x1 x2 x3 x4
      rcases R with _ | _
      · go_wp2
        go_roundg (n - (k + 1))
        case measure => omega
        case rel => exact ⟨k + 1, ca, cp, rfl, rfl, by go_num, by omega, Nat.le_refl _, hp0, hpc, by omega, ⟨by rw [H1.out]; simp, by rw [H2.out]; simp⟩, HB2.out⟩
      · have hq := hcost rfl
        have wa : IntKind.i64.wrap (ca + xs) = ca + xs := by rw [IntKind.wrap_i64]; omega
        have wb : IntKind.i64.wrap (cp + xs) = cp + xs := by rw [IntKind.wrap_i64]; omega
        rcases xp with _ | _
        · go_wp2
          go_roundg (n - (k + 1))
          case measure => omega
          case rel => exact ⟨k + 1, ca + xs, cp, by first | rfl | go_num, rfl, by go_num, by omega, Nat.le_refl _, hp0, by omega, by omega, ⟨by rw [H1.out]; simp, by rw [H2.out]; simp⟩, HB2.out⟩
        · go_wp2
          go_roundg (n - (k + 1))
          case measure => omega
          case rel => exact ⟨k + 1, ca + xs, cp + xs, by first | rfl | go_num, by first | rfl | go_num, by go_num, by omega, Nat.le_refl _, by omega, by omega, by omega, ⟨by rw [H1.out]; simp, by rw [H2.out]; simp⟩, HB2.out⟩
    · obtain rfl : k = n := by omega
      have hltz : ¬ (k : Int) < (k : Int) := by omega
      go_wp2
      go_returns
      exact ⟨by rw [← HE.out.1, ← HE.out.2, HS.out.1, HS.out.2]; rfl, hbr⟩

end Go.Proofs.Ytkhlgjkbkpbhiaa
