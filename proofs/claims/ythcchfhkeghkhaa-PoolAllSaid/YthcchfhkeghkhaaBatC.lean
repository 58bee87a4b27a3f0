/-
  BatSm: Layer 4: the laws' Great, and turntableref04.Same: what they answer, of any spans; Great's answer is left open but for what the laws use: where it says no there are no more than 300. Nothing is assumed but that the spans lie in memory.
  BatR: Layer 4: turntableref04's Put: the bytes that it makes, of any spans. Nothing is assumed but that the spans lie in memory.
  BatRG: Layer 4: turntableref04's Get: what it answers, of any bytes. Nothing is assumed but that the bytes lie in memory.
-/
import Derived.Test.YthcchfhkeghkhaaBatB
import Derived.Test.YthcchfhkeghkhaaSpanO
import Derived.Deep.QuietTactic
import Derived.BigQuiet
import Derived.Test.YthcchfhkeghkhaaRef2
import Derived.Test.YthcchfhkeghkhaaRef3
import Derived.Test.YthcchfhkeghkhaaBatGet

namespace Go.Proofs.Ythcchfhkeghkhaa
open Go.RowKit
set_option maxRecDepth 100000

/-- what Great answers, as far as the laws use it -/
def GreatPost (n : Nat) (w : World) (e : Ending) (w' : World) : Prop := ∃ g, e = .returned (.bool g) ∧ (g = false → n ≤ 300) ∧ Below w.heap.size w w'
set_option maxHeartbeats 2000000 in
theorem great_any (A : Option Addr) (n cap : Nat) (l : List Plain.Sp) (w : World) (hn : l.length = n) (hc : n ≤ cap) (hm : cap ≤ maxLen) (hA : Lies w A (flat l)) :
    Calls Try.prog 27 #[.slice A n cap] w (GreatPost n w) := by
  have HN := Lib.hid hn
  have HA := Lib.hid hA
  unfold maxLen at hm
  clear hn hA
  go_enter Try.func27, Try.ntmps27
  go_wp2
  go_loopw [3, 4] (fun m i wr => ∃ (k : Nat) (M : Int), m = .int .i64 M ∧ i = .int .i64 k ∧ k ≤ n ∧ Below w.heap.size w wr) (fun _ i _ => n - (intOf i).toNat)
  case atStart => exact ⟨0, n, rfl, rfl, Nat.zero_le _, Below.refl _ _⟩
  case round =>
    obtain ⟨k, M, rfl, rfl, hk, hbr⟩ := hrel
    by_cases hlt : k < n
    · by_cases hM : M < 9000
      · have hkl : k < l.length := by rw [HN.out]; exact hlt
        obtain ⟨ad, rfl, hadb, hcl⟩ := at_span HA.out k hkl
        have HC := Lib.hid hcl
        clear hcl
        generalize l[k] = x at *
        obtain ⟨xt, xi, xp, xs, xd, xv, xn⟩ := x
        simp only at *
        generalize str xv = XV at *
        generalize str xn = XN at *
        obtain ⟨-, -, -, -, -, x5, x6⟩ := HC.out wr hbr
        have hM2 : decide (M < 9000) = true := by simp [hM]
        go_wp2
        go_region
        go_wp2
        go_roundw
        case rel => exact ⟨k + 1, _, rfl, by go_num, by omega, hbr.drew⟩
        case measure => simp [intOf]; omega
      · have hM3 : decide (9000 ≤ M) = true := by simp; omega
        go_wp2
        go_ret
        exact ⟨true, rfl, (fun h => by cases h), hbr⟩
    · obtain rfl : k = n := by omega
      by_cases hM : M < 9000
      · have hM3 : decide (9000 ≤ M) = false := by simp; omega
        go_wp2
        go_ret
        exact ⟨decide (300 < (k : Int)), rfl, (fun h => by simp at h; omega), hbr⟩
      · have hM3 : decide (9000 ≤ M) = true := by simp; omega
        go_wp2
        go_ret
        exact ⟨true, rfl, (fun h => by cases h), hbr⟩

theorem neq_sp (w : World) (x y : Plain.Sp) :
    (binOp .neq 45 (.agg #[.int .i64 x.t, .int .i64 x.i, .int .i64 x.p, .int .i64 x.s, .int .i64 x.d, .string (str x.sv), .string (str x.nm)]) (.agg #[.int .i64 y.t, .int .i64 y.i, .int .i64 y.p, .int .i64 y.s, .int .i64 y.d, .string (str y.sv), .string (str y.nm)])).run Try.prog w
      = .ok (.bool (!decide (x = y))) w := by
  have h := eq_sp w x y
  rw [run_eql_struct] at h
  rw [run_neq_struct]
  revert h
  generalize (Op.equalIn 10000 45 (.agg #[.int .i64 x.t, .int .i64 x.i, .int .i64 x.p, .int .i64 x.s, .int .i64 x.d, .string (str x.sv), .string (str x.nm)]) (.agg #[.int .i64 y.t, .int .i64 y.i, .int .i64 y.p, .int .i64 y.s, .int .i64 y.d, .string (str y.sv), .string (str y.nm)])).run Try.prog w = r
  cases r with
  | ok b w' =>
    intro h
    simp only [Result.andThen, Result.ok.injEq, Value.bool.injEq] at h ⊢
    rw [h.1, h.2]
    exact ⟨rfl, rfl⟩
  | _ => intro h; simp [Result.andThen] at h

set_option maxHeartbeats 2000000 in
theorem same_any (A B : Option Addr) (n m ca cb : Nat) (a b : List Plain.Sp) (w : World) (hn : a.length = n) (hm : b.length = m) (hca : n ≤ ca) (hcb : m ≤ cb) (_hma : ca ≤ maxLen) (_hmb : cb ≤ maxLen) (hA : Lies w A (flat a)) (hB : Lies w B (flat b)) :
    Calls Try.prog 17 #[.slice A n ca, .slice B m cb] w fun e w' => e = .returned (.bool (decide (a = b))) ∧ Below w.heap.size w w' := by
  unfold maxLen at _hma _hmb
  by_cases hnm : n = m
  rotate_left
  · have HE := Lib.hid (show decide (a = b) = false by rw [decide_eq_false_iff_not]; intro h; subst h; omega)
    clear hn hm hA hB
    go_enter Try.func17, Try.ntmps17
    go_wp2
    go_ret
    exact ⟨by rw [HE.out]; rfl, Below.refl _ _⟩
  subst hnm
  have HNA := Lib.hid hn
  have HNB := Lib.hid hm
  have HA := Lib.hid hA
  have HB := Lib.hid hB
  clear hn hm hA hB
  go_enter Try.func17, Try.ntmps17
  go_wp2
  go_loopw [5] (fun i wr => ∃ k : Nat, i = .int .i64 k ∧ k ≤ n ∧ a.take k = b.take k ∧ Below w.heap.size w wr) (fun i _ => n - (intOf i).toNat)
  case atStart => exact ⟨0, rfl, Nat.zero_le _, by simp, Below.refl _ _⟩
  case round =>
    obtain ⟨k, rfl, hk, htk, hbr⟩ := hrel
    have HTK := Lib.hid htk
    clear htk
    by_cases hlt : k < n
    · have hka : k < a.length := by rw [HNA.out]; exact hlt
      have hkb : k < b.length := by rw [HNB.out]; exact hlt
      obtain ⟨ad, rfl, hadb, hcl⟩ := at_span HA.out k hka
      obtain ⟨bd, rfl, hbdb, hclb⟩ := at_span HB.out k hkb
      obtain ⟨x0, x1, x2, x3, x4, x5, x6⟩ := hcl wr hbr
      obtain ⟨y0, y1, y2, y3, y4, y5, y6⟩ := hclb wr hbr
      have hne := fun W => neq_sp W a[k] b[k]
      have HT1 := Lib.hid (show a[k] = b[k] → a.take (k + 1) = b.take (k + 1) by
        intro h; rw [List.take_succ_eq_append_getElem hka, List.take_succ_eq_append_getElem hkb, HTK.out, h])
      have HT2 := Lib.hid (show a[k] ≠ b[k] → a ≠ b by
        intro h h2; subst h2; exact h rfl)
      clear hcl hclb
      generalize a[k] = x at *
      generalize b[k] = y at *
      obtain ⟨D, hD⟩ : ∃ D, decide (x = y) = D := ⟨_, rfl⟩
      rw [hD] at hne
      have HD := Lib.hid hD
      clear hD
      have HXY := Lib.hid (show D = true → x = y from fun h => by have := HD.out; rw [h] at this; exact of_decide_eq_true this)
      have HXN := Lib.hid (show D = false → x ≠ y from fun h => by have := HD.out; rw [h] at this; exact of_decide_eq_false this)
      obtain ⟨xt, xi, xp, xs, xd, xv, xn⟩ := x
      obtain ⟨yt, yi, yp, ys, yd, yv, yn⟩ := y
      simp only at *
      generalize str xv = XV at *
      generalize str xn = XN at *
      generalize str yv = YV at *
      generalize str yn = YN at *
      clear HD
      rcases D with _ | _
      · have HF := Lib.hid (show decide (a = b) = false by rw [decide_eq_false_iff_not]; exact HT2.out (HXN.out rfl))
        go_wp2
        go_quiet (fail)
        go_wp2
        go_ret
        exact ⟨by rw [HF.out]; rfl, below_many hbr _⟩
      · have HT := Lib.hid (HT1.out (HXY.out rfl))
        go_wp2
        go_quiet (fail)
        go_wp2
        go_roundw
        case rel => exact ⟨k + 1, by go_num, by omega, HT.out, below_many hbr _⟩
        case measure => simp [intOf]; omega
    · obtain rfl : k = n := by omega
      have HF := Lib.hid (show decide (a = b) = true by
        have := HTK.out
        rw [List.take_of_length_le (by rw [HNA.out]; omega), List.take_of_length_le (by rw [HNB.out]; omega)] at this
        simp [this])
      go_wp2
      go_ret
      exact ⟨by rw [HF.out]; rfl, hbr⟩
end Go.Proofs.Ythcchfhkeghkhaa

namespace Go.Proofs.Ythcchfhkeghkhaa
open Go.RowKit
set_option maxRecDepth 100000

end Go.Proofs.Ythcchfhkeghkhaa

namespace Go.Proofs.Ythcchfhkeghkhaa
open Go.RowKit
set_option maxRecDepth 100000

theorem tb_iff (x : List UInt8) (c0 c1 : UInt8) (r : List UInt8) (h : x = c0 :: c1 :: r) : x.take 2 = [84, 66] ↔ (c0.toNat : Int) = 84 ∧ (c1.toNat : Int) = 66 := by
  subst h
  simp only [List.take_succ_cons, List.take_zero, List.cons.injEq, and_true]
  constructor
  · rintro ⟨rfl, rfl⟩; exact ⟨rfl, rfl⟩
  · rintro ⟨h1, h2⟩
    refine ⟨UInt8.toNat_inj.1 ?_, UInt8.toNat_inj.1 ?_⟩
    · show c0.toNat = 84; omega
    · show c1.toNat = 66; omega

end Go.Proofs.Ythcchfhkeghkhaa
