/-
  P1.4, VintOrder: for every two numbers the law returns true: a number that is larger takes no fewer bytes, and one takes a byte for each seven bits that it needs. No condition.
-/
import Derived.Test.YtldophaccbakoaaHead1
import Derived.Test.YtldophaccbakoaaClose
namespace Go.Proofs.Ytldophaccbakoaa.vintOrder
open Go.ChangeShapes Go.WideShapes Go.ChangeAt Go.RowKit

theorem pow_at (k : Nat) (v : Int) (h : (2 : Int) ^ k = v) (h0 : 0 ≤ v) (h1 : v ≤ 4611686018427387904) : wrap64 (2 ^ k) = v := by
  rw [h, IntWalk.wrap64_in _ (by omega)]
theorem edges (x : Nat) (h : x ≤ 281474976710656) : ∃ hi lo : Int, wrap64 (2 ^ (7 * Plain.sz x)) = hi ∧ wrap64 (2 ^ (7 * Plain.sz x - 7)) = lo ∧ (x : Int) < hi ∧ (Plain.sz x = 1 ∨ lo ≤ (x : Int)) := by
  rcases sz_cases x with ⟨h1, e⟩ | ⟨h0, h1, e⟩ | ⟨h0, h1, e⟩ | ⟨h0, h1, e⟩ | ⟨h0, h1, e⟩ | ⟨h0, h1, e⟩ | ⟨h0, e⟩
  · rw [e]; exact ⟨128, 1, pow_at 7 128 (by decide) (by omega) (by omega), pow_at 0 1 (by decide) (by omega) (by omega), by omega, .inl rfl⟩
  · rw [e]; exact ⟨16384, 128, pow_at 14 16384 (by decide) (by omega) (by omega), pow_at 7 128 (by decide) (by omega) (by omega), by omega, .inr (by omega)⟩
  · rw [e]; exact ⟨2097152, 16384, pow_at 21 2097152 (by decide) (by omega) (by omega), pow_at 14 16384 (by decide) (by omega) (by omega), by omega, .inr (by omega)⟩
  · rw [e]; exact ⟨268435456, 2097152, pow_at 28 268435456 (by decide) (by omega) (by omega), pow_at 21 2097152 (by decide) (by omega) (by omega), by omega, .inr (by omega)⟩
  · rw [e]; exact ⟨34359738368, 268435456, pow_at 35 34359738368 (by decide) (by omega) (by omega), pow_at 28 268435456 (by decide) (by omega) (by omega), by omega, .inr (by omega)⟩
  · rw [e]; exact ⟨4398046511104, 34359738368, pow_at 42 4398046511104 (by decide) (by omega) (by omega), pow_at 35 34359738368 (by decide) (by omega) (by omega), by omega, .inr (by omega)⟩
  · rw [e]; exact ⟨562949953421312, 4398046511104, pow_at 49 562949953421312 (by decide) (by omega) (by omega), pow_at 42 4398046511104 (by decide) (by omega) (by omega), by omega, .inr (by omega)⟩

set_option maxHeartbeats 4000000 in
set_option maxRecDepth 100000 in
theorem walk (a b : Int) (w0 : 0 ≤ a ∧ a ≤ 18446744073709551615) (w1 : 0 ≤ b ∧ b ≤ 18446744073709551615) (w : World) :
    Calls Try.prog 7 #[.int .u64 a, .int .u64 b] w fun e w' => e = .returned (.bool true) ∧ Below w.heap.size w w' := by
  obtain ⟨w00, w01⟩ := w0
  obtain ⟨w10, w11⟩ := w1
  go_enter Try.func7, Try.ntmps7
  go_wp2_with fail
  refine (head_any _).mono ?_
  rintro e w1 ⟨rfl, hb⟩
  go_wp2_with fail
  have x0 : 0 ≤ a % 281474976710657 := by omega
  have x1 : a % 281474976710657 ≤ 281474976710656 := by omega
  have y0 : 0 ≤ b % 281474976710657 := by omega
  have y1 : b % 281474976710657 ≤ 281474976710656 := by omega
  generalize a % 281474976710657 = X at *
  generalize b % 281474976710657 = Y at *
  obtain ⟨x, rfl⟩ := Int.eq_ofNat_of_zero_le x0
  obtain ⟨y, rfl⟩ := Int.eq_ofNat_of_zero_le y0
  refine (size_yes x _ (by omega)).mono ?_
  rintro e w' ⟨rfl, rfl⟩
  obtain ⟨hi, lo, e1, e2, hlt, hge⟩ := edges x (by omega)
  have HM := Lib.hid (fun h : x ≤ y => Plain.sz_mono h)
  have h1 := Plain.sz_pos x
  have h7 := Plain.sz_le x
  have HY := Lib.hid (size_yes y w1 (by omega))
  generalize Plain.sz x = n at *
  generalize Plain.sz y = m at *
  clear w00 w01 w10 w11 x0 y0 x1 y1
  have d1 : decide ((n : Int) < 1) = false := by simp; omega
  have d2 : decide ((7 : Int) < (n : Int)) = false := by simp; omega
  have d3 : decide ((x : Int) < hi) = true := by simpa using hlt
  have HG := Lib.hid hge
  clear hge
  by_cases hn1 : n = 1
  · have d4 : ((n : Int) == 1) = true := by rw [beq_iff_eq]; omega
    clear hn1
    by_cases hxy : x ≤ y
    · have hnm := HM.out hxy
      have d5 : decide ((m : Int) < (n : Int)) = false := by simp; omega
      go_wp2_with fail
      refine HY.out.mono ?_
      rintro e w' ⟨rfl, rfl⟩
      go_wp2
      go_ret
      exact ⟨rfl, hb⟩
    · have hxy2 : y < x := by omega
      go_wp2
      go_ret
      exact ⟨rfl, hb⟩
  · have d4 : ((n : Int) == 1) = false := beq_eq_false_iff_ne.2 (by omega)
    have hl : lo ≤ (x : Int) := by rcases HG.out with h | h
                                   · exact absurd h hn1
                                   · exact h
    have d6 : decide (lo ≤ (x : Int)) = true := by simpa using hl
    clear hn1
    by_cases hxy : x ≤ y
    · have hnm := HM.out hxy
      have d5 : decide ((m : Int) < (n : Int)) = false := by simp; omega
      go_wp2_with fail
      refine HY.out.mono ?_
      rintro e w' ⟨rfl, rfl⟩
      go_wp2
      go_ret
      exact ⟨rfl, hb⟩
    · have hxy2 : y < x := by omega
      go_wp2
      go_ret
      exact ⟨rfl, hb⟩

set_option maxRecDepth 100000 in
theorem lifted (os : Os) (started : os.Started) (H : Type) (enc : TypeId × Value → H) :
    ReturnsInHanded {} Try.checked os 7 .any (Rows.vintOrderSpec.pre6 enc Try.prog Try.f7 Rows.vintOrderRow.domain false) (Rows.vintOrderSpec.post enc Try.prog Try.f7 false true false false) := by
  refine returnsInHanded_of_change (C := Try.checked) own started (by kernel_rfl) Try.func7
    (ChangeSpec.witness6 (enc := enc) (C := Try.checked) false ⟨#[], #[.int .u64 0, .int .u64 0], []⟩ 8 (by kernel_rfl) (by kernel_rfl) (by kernel_rfl) (by kernel_rfl)) ?_
  intro W base args ds gs before hval0 hW hcnd _
  have hval : ∀ (j : Nat) t v, Try.f7.params[j]? = some t → args[j]? = some v → Value.okWide Try.prog W .any base t v := hval0
  have hfin := fun W' => law_post (enc := enc) (P := Try.prog) (f := Try.f7) (s := Rows.vintOrderSpec) (tb := 4) (W := W) (W' := W') (args := args) (ds := ds) (gs := gs) (before := before) laidOut rfl (by kernel_rfl) Try.underlying4 (by kernel_rfl) (fun xs h => by rw [Try.params7] at h; match xs, h with | [_, _], _ => rfl) hW
  obtain ⟨p, q, hA0, hV, rfl, hfz, hnd⟩ := hW
  have hA : DataW.TrodAll enc Try.prog W 0 (fun _ => true) true Try.f7.params.toList args.toList ds p := hA0
  rw [Try.params7] at hA hval
  obtain ⟨v0, vs0, d0, ds0, p0, q0, hargs, rfl, rfl, h0, r0⟩ := trodAll_cons hA
  obtain ⟨v1, vs1, d1, ds1, p1, q1, rfl, rfl, rfl, h1, r1⟩ := trodAll_cons r0
  obtain ⟨rfl, rfl, rfl⟩ := trodAll_nil r1
  obtain rfl : args = #[v0, v1] := by cases args; simp_all
  obtain ⟨a0, rfl, rfl, rfl, w0⟩ := open_int Try.underlying34 (hval 0 34 v0 rfl rfl) h0
  obtain ⟨a1, rfl, rfl, rfl, w1⟩ := open_int Try.underlying34 (hval 1 34 v1 rfl rfl) h1
  refine (walk a0 a1 (bounds_u64 w0) (bounds_u64 w1) W).mono fun e W' ⟨he, hg⟩ => ?_
  subst he
  exact ⟨_, rfl, hfin W' hg⟩

theorem proved : Rows.VintOrderSaid :=
  OpenClaim.holds_of_wide 7 Try.f7 rfl rfl rfl rfl rfl rfl rfl ⟨rfl, rfl, rfl, rfl, rfl⟩ rfl rfl rfl rfl rfl (by kernel_rfl) Try.func7 (by kernel_rfl)
    (of_decide_eq_true (by kernel_rfl)) (by unfold Func.isWrapper; first | (rw [if_pos (by decide +kernel)]; kernel_rfl) | (rw [if_neg (by decide +kernel)]; exact ⟨rfl, rfl⟩))
    (fun os started H enc _ => lifted os started H enc)
#print axioms proved
end Go.Proofs.Ytldophaccbakoaa.vintOrder
