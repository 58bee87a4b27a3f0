/-
  P1.3, VintCut: for every number, every text and every place the law returns true: a number's, and a text's, bytes that are cut are ErrShort. No condition.
-/
import Derived.Test.YtldophaccbakoaaHead1
import Derived.Test.YtldophaccbakoaaClose
import Derived.Test.YtldophaccbakoaaVUse
namespace Go.Proofs.Ytldophaccbakoaa.vintCut
open Go.ChangeShapes Go.WideShapes Go.ChangeAt Go.RowKit

set_option maxHeartbeats 1000000 in
set_option maxRecDepth 100000 in
theorem walk (w : World) (a : Int) (ha : 0 ≤ a ∧ a ≤ 18446744073709551615) (s : List UInt8) (hs : s.length ≤ maxLen) (c : Int) (hc : 0 ≤ c ∧ c ≤ 255) :
    Calls Try.prog 6 #[.int .u64 a, .string (str s), .int .u8 c] w fun e w' => e = .returned (.bool true) ∧ Below w.heap.size w w' := by
  obtain ⟨a0, a1⟩ := ha
  obtain ⟨c0, c1⟩ := hc
  obtain ⟨c, rfl⟩ := Int.eq_ofNat_of_zero_le c0
  have HS := Lib.hid hs
  have hsl := str_size s
  unfold maxLen at hs
  go_enter Try.func6, Try.ntmps6
  go_wp2_with fail
  refine (head_any _).mono ?_
  rintro e w1 ⟨rfl, hb1⟩
  go_wp2_with fail
  have x0 : 0 ≤ a % 281474976710657 := by omega
  have x1 : a % 281474976710657 ≤ 281474976710656 := by omega
  generalize a % 281474976710657 = X at *
  clear a0 a1
  obtain ⟨x, rfl⟩ := Int.eq_ofNat_of_zero_le x0
  refine (put_yes none 0 [] x _ (by simp) (by omega) Lies.nil).mono ?_
  rintro e w2 ⟨v, rfl, hown, hb2⟩
  rw [List.nil_append, Plain.enc_length] at hown
  obtain ⟨A, cap, rfl, hnc, hcm, -, hA⟩ := own_form hown
  clear hown
  have hn0 := Plain.sz_pos x
  have hn7 := Plain.sz_le x
  have HG := Lib.hid (fun j => Plain.get_cut x j)
  have HEL := Lib.hid (Plain.enc_length (Plain.sz x) x)
  clear x0 x1
  generalize Plain.enc (Plain.sz x) x = E at *
  generalize Plain.sz x = n at *
  go_wp2_with fail
  refine (putText_any none 0 [] s _ (by simp) Lies.nil HS.out).mono ?_
  rintro e w3 ⟨u, rfl, hown, hb3⟩
  rw [List.nil_append] at hown
  obtain ⟨A2, cap2, rfl, hnc2, hcm2, -, hA2⟩ := own_form hown
  clear hown
  have d1 : ((n : Int) == 0) = false := beq_eq_false_iff_ne.2 (by omega)
  by_cases h32 : 32 < s.length
  · have d2 : decide ((32 : Int) < (s.length : Int)) = true := by simp; omega
    have d3 : decide (0 < n) = true := by simp; omega
    generalize str s = S at *
    generalize s.length = L at *
    subst hsl
    go_wp2
    go_ret
    exact ⟨rfl, hb1.trans ((hb2.mono hb1.size).trans (hb3.mono (Nat.le_trans hb1.size hb2.size)))⟩
  · have HL := Lib.hid (Plain.putText_len s (by omega))
    have HP := Lib.hid (Plain.getText_put s [] (by omega))
    have HC := Lib.hid (fun j => Plain.getText_cut s j (by omega))
    have hA' := (hA.below hb3).take (c % n)
    rw [cells_take] at hA'
    have HEK := Lib.hid (show (E.take (c % n)).length = c % n by rw [List.length_take, HEL.out]; have := Nat.mod_lt c (show 0 < n by omega); omega)
    have HGK := Lib.hid (HG.out (c % n) (Nat.mod_lt c (by omega)))
    have hk := Nat.mod_lt c (show 0 < n by omega)
    have d2 : decide ((32 : Int) < (s.length : Int)) = false := by simp; omega
    generalize Plain.putText s = q at *
    have hq0 : 0 < q.length := by have := HL.out; omega
    have hq1 : q.length ≤ 33 := by have := HL.out; omega
    have d4 : ((q.length : Int) == 0) = false := beq_eq_false_iff_ne.2 (by omega)
    generalize hS : str s = S at *
    have HSS := Lib.hid hS
    clear hS
    generalize s.length = L at *
    subst hsl
    go_wp2_with fail
    refine (get_is A (c % n) cap (E.take (c % n)) _ 0 0 11 HEK.out (by unfold maxLen; omega) hA' (by rw [HGK.out]; rfl) (by rw [HGK.out]; rfl) (by rw [HGK.out]; rfl)).mono ?_
    rintro e w4 ⟨rfl, hb4⟩
    have hk2 := Nat.mod_lt c hq0
    have hA2' := (hA2.below hb4).take (c % q.length)
    rw [cells_take] at hA2'
    have HQK := Lib.hid (show (q.take (c % q.length)).length = c % q.length by rw [List.length_take]; omega)
    have HCK := Lib.hid (HC.out (c % q.length) (by have := HL.out; omega))
    go_wp2_with fail
    refine (getText_is A2 (c % q.length) cap2 (q.take (c % q.length)) _ ⟨#[]⟩ 0 11 HQK.out (by omega) hcm2 hA2' (by rw [HCK.out]; rfl) (by rw [HCK.out]; rfl) (by rw [HCK.out]; rfl)).mono ?_
    rintro e w5 ⟨rfl, hb5⟩
    have HPK := Lib.hid (show Plain.getText q = (s, q.length, 0) by have := HP.out; rw [List.append_nil] at this; rw [this, HL.out])
    have hA2'' := (hA2.below hb4).below hb5
    go_wp2_with fail
    refine (getText_is A2 q.length cap2 q _ S q.length 0 rfl (by omega) hcm2 hA2'' (by rw [HPK.out]; exact HSS.out) (by rw [HPK.out]) (by rw [HPK.out]; rfl)).mono ?_
    rintro e w6 ⟨rfl, hb6⟩
    go_wp2
    go_ret
    refine ⟨rfl, ?_⟩
    have s1 := hb1.size; have s2 := hb2.size; have s3 := hb3.size; have s4 := hb4.size; have s5 := hb5.size
    exact hb1.trans ((hb2.mono (by omega)).trans ((hb3.mono (by omega)).trans ((hb4.mono (by omega)).trans ((hb5.mono (by omega)).trans (hb6.mono (by omega))))))

set_option maxRecDepth 100000 in
theorem lifted (os : Os) (started : os.Started) (H : Type) (enc : TypeId × Value → H) :
    ReturnsInHanded {} Try.checked os 6 .any (Rows.vintCutSpec.pre6 enc Try.prog Try.f6 Rows.vintCutRow.domain false) (Rows.vintCutSpec.post enc Try.prog Try.f6 false true false false) := by
  refine returnsInHanded_of_change (C := Try.checked) own started (by kernel_rfl) Try.func6
    (ChangeSpec.witness6 (enc := enc) (C := Try.checked) false ⟨#[], #[.int .u64 0, .string .empty, .int .u8 0], []⟩ 8 (by kernel_rfl) (by kernel_rfl) (by kernel_rfl) (by kernel_rfl)) ?_
  intro W base args ds gs before hval0 hW hcnd _
  have hval : ∀ (j : Nat) t v, Try.f6.params[j]? = some t → args[j]? = some v → Value.okWide Try.prog W .any base t v := hval0
  have hfin := fun W' => law_post (enc := enc) (P := Try.prog) (f := Try.f6) (s := Rows.vintCutSpec) (tb := 4) (W := W) (W' := W') (args := args) (ds := ds) (gs := gs) (before := before) laidOut rfl (by kernel_rfl) Try.underlying4 (by kernel_rfl) (fun xs h => by rw [Try.params6] at h; match xs, h with | [_, _, _], _ => rfl) hW
  obtain ⟨p, q, hA0, hV, rfl, hfz, hnd⟩ := hW
  have hA : DataW.TrodAll enc Try.prog W 0 (fun _ => true) true Try.f6.params.toList args.toList ds p := hA0
  rw [Try.params6] at hA hval
  obtain ⟨v0, vs0, d0, ds0, p0, q0, hargs, rfl, rfl, h0, r0⟩ := trodAll_cons hA
  obtain ⟨v1, vs1, d1, ds1, p1, q1, rfl, rfl, rfl, h1, r1⟩ := trodAll_cons r0
  obtain ⟨v2, vs2, d2, ds2, p2, q2, rfl, rfl, rfl, h2, r2⟩ := trodAll_cons r1
  obtain ⟨rfl, rfl, rfl⟩ := trodAll_nil r2
  obtain rfl : args = #[v0, v1, v2] := by cases args; simp_all
  obtain ⟨a0, rfl, rfl, rfl, w0⟩ := open_int Try.underlying34 (hval 0 34 v0 rfl rfl) h0
  obtain ⟨s1, rfl, hs1⟩ := open_text (hval 1 9 v1 rfl rfl) h1
  obtain ⟨a2, rfl, rfl, rfl, w2⟩ := open_int Try.underlying5 (hval 2 5 v2 rfl rfl) h2
  refine (walk W a0 (bounds_u64 w0) s1 hs1 a2 (bounds_u8 w2)).mono fun e W' ⟨he, hg⟩ => ?_
  subst he
  exact ⟨_, rfl, hfin W' hg⟩

theorem proved : Rows.VintCutSaid :=
  OpenClaim.holds_of_wide 6 Try.f6 rfl rfl rfl rfl rfl rfl rfl ⟨rfl, rfl, rfl, rfl, rfl⟩ rfl rfl rfl rfl rfl (by kernel_rfl) Try.func6 (by kernel_rfl)
    (of_decide_eq_true (by kernel_rfl)) (by unfold Func.isWrapper; first | (rw [if_pos (by decide +kernel)]; kernel_rfl) | (rw [if_neg (by decide +kernel)]; exact ⟨rfl, rfl⟩))
    (fun os started H enc _ => lifted os started H enc)
#print axioms proved
end Go.Proofs.Ytldophaccbakoaa.vintCut
