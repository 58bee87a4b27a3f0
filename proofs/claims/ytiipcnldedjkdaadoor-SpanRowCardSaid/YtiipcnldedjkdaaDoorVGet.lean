/-
  Layer 1: what vint.Get, vint.text and vint.GetText answer, of any bytes. Nothing is assumed but that the bytes lie in memory.
-/
import Derived.Test.YtiipcnldedjkdaaDoorVNum
namespace Go.Proofs.YtiipcnldedjkdaaDoor
open Go.RowKit
set_option maxRecDepth 100000

theorem get_any (A : Option Addr) (cap : Nat) (bs : List UInt8) (w : World) (hm : bs.length ≤ maxLen) (hA : Lies w A (cells bs)) :
    Calls Tryd.prog 50 #[.slice A bs.length cap] w fun e w' => e = .returned (.tuple #[.int .i64 (Plain.get bs).1, .int .i64 (Plain.get bs).2.1, .int .i64 (Plain.get bs).2.2]) ∧ Below w.heap.size w w' := by
  have hc := Lib.hid (Plain.code_cases bs)
  go_enter Tryd.func50, Tryd.ntmps50
  go_wp2_with fail
  refine (num_walk A cap bs _ hm hA).mono ?_
  rintro e w' ⟨at_, rfl, rfl⟩
  go_wp2_with fail
  refine (errno_any at_ _ _ hc.out).mono ?_
  rintro e w' ⟨rfl, hb⟩
  go_wp2
  go_ret3
  exact ⟨rfl, hb⟩

def TextPost (bs : List UInt8) (w : World) (e : Ending) (w' : World) : Prop :=
  ∃ at_ : Int, e = .returned (.tuple #[.string (str (Plain.getText bs).1), .int .i64 (Plain.getText bs).2.1, errOf at_ (Plain.getText bs).2.2]) ∧ w = w'
theorem tpost_err (bs : List UInt8) (w : World) (at_ : Int) (code : Nat) (h : Plain.getText bs = ([], 0, code)) :
    TextPost bs w (.returned (.tuple #[.string ⟨#[]⟩, .int .i64 0, errOf at_ code])) w := by
  refine ⟨at_, ?_, rfl⟩
  rw [h]
  simp [str]
theorem tpost_ok (bs s : List UInt8) (w : World) (k : Nat) (h : Plain.getText bs = (s, k, 0)) : TextPost bs w (.returned (.tuple #[.string (str s), .int .i64 k, .nilIface])) w := by
  refine ⟨0, ?_, rfl⟩
  rw [h]
  simp [errOf]
theorem errOf_pos (at_ : Int) (code : Nat) (h : code ≠ 0) : errOf at_ code = .iface 110 (.agg #[.int .i64 at_, .iface 27 (.int .i64 code)]) := by simp [errOf, h]

theorem text_walk (A : Option Addr) (cap : Nat) (bs : List UInt8) (w : World) (hm : cap ≤ maxLen) (hl : bs.length ≤ cap) (hA : Lies w A (cells bs)) :
    Calls Tryd.prog 56 #[.slice A bs.length cap] w (TextPost bs w) := by
  have hnum := num_walk A cap bs w (by omega) hA
  have hsm := Plain.get_small bs
  have hcc := Plain.code_cases bs
  unfold maxLen at hm
  have ht : Plain.getText bs = Plain.getText bs := rfl
  conv at ht => rhs; unfold Plain.getText
  unfold NumPost at hnum
  generalize Plain.get bs = g at *
  obtain ⟨x, j, code⟩ := g
  simp only at *
  have HN := Lib.hid hnum
  clear hnum
  by_cases h0 : code = 0
  · subst h0
    simp only [ne_eq, not_true, if_false] at ht
    by_cases h32 : 32 < x
    · rw [if_pos h32] at ht
      have HT := Lib.hid ht
      clear ht hcc
      go_enter Tryd.func56, Tryd.ntmps56
      go_wp2_with fail
      refine HN.out.mono ?_
      rintro e w' ⟨at_, rfl, rfl⟩
      simp only [errOf, if_true]
      go_wp2
      go_ret3
      have := tpost_err bs w (j - 1) 12 HT.out
      rw [errOf_pos _ _ (by omega)] at this
      exact this
    · rw [if_neg h32] at ht
      by_cases hsh : bs.length < j + x
      · rw [if_pos hsh] at ht
        have HT := Lib.hid ht
        clear ht hcc
        go_enter Tryd.func56, Tryd.ntmps56
        go_wp2_with fail
        refine HN.out.mono ?_
        rintro e w' ⟨at_, rfl, rfl⟩
        simp only [errOf, if_true]
        go_wp2
        go_ret3
        have := tpost_err bs w bs.length 11 HT.out
        rw [errOf_pos _ _ (by omega)] at this
        exact this
      · rw [if_neg hsh] at ht
        have HT := Lib.hid ht
        clear ht hcc
        have hcv := conv_cut (P := Tryd.prog) (cap := cap) (j := j) (x := x) hA hl (by omega) 24 5 Tryd.underlying24 Tryd.underlying5 9 Tryd.underlying9
        have HF := Lib.hid (show ∀ e w', e = Ending.returned (.tuple #[.string (str ((bs.drop j).take x)), .int .i64 ((j + x : Nat) : Int), .nilIface]) ∧ w = w' → TextPost bs w e w' from by
          rintro e w' ⟨rfl, rfl⟩; exact tpost_ok bs _ w _ HT.out)
        generalize str ((bs.drop j).take x) = s at *
        by_cases hcj : cap = j
        · obtain rfl : x = 0 := by omega
          subst hcj
          rw [if_pos rfl, Nat.sub_self] at hcv
          go_enter Tryd.func56, Tryd.ntmps56
          go_wp2_with fail
          refine HN.out.mono ?_
          rintro e w' ⟨at_, rfl, rfl⟩
          simp only [errOf, if_true]
          go_wp2
          go_ret3
          exact HF.out _ _ ⟨rfl, rfl⟩
        · rw [if_neg hcj] at hcv
          go_enter Tryd.func56, Tryd.ntmps56
          go_wp2_with fail
          refine HN.out.mono ?_
          rintro e w' ⟨at_, rfl, rfl⟩
          simp only [errOf, if_true]
          go_wp2
          go_ret3
          exact HF.out _ _ ⟨rfl, rfl⟩
  · rw [if_pos h0] at ht
    have HT := Lib.hid ht
    clear ht
    have h0' := Lib.hid h0
    have hcc := Lib.hid hcc
    have HE := fun at_ => Lib.hid (errOf_pos at_ code h0)
    clear h0
    go_enter Tryd.func56, Tryd.ntmps56
    go_wp2_with fail
    refine HN.out.mono ?_
    rintro e w' ⟨at_, rfl, rfl⟩
    rw [(HE at_).out]
    go_wp2
    go_ret3
    have := tpost_err bs w at_ code HT.out
    rw [errOf_pos _ _ h0'.out] at this
    exact this
theorem getText_any (A : Option Addr) (cap : Nat) (bs : List UInt8) (w : World) (hm : cap ≤ maxLen) (hl : bs.length ≤ cap) (hA : Lies w A (cells bs)) :
    Calls Tryd.prog 52 #[.slice A bs.length cap] w fun e w' => e = .returned (.tuple #[.string (str (Plain.getText bs).1), .int .i64 (Plain.getText bs).2.1, .int .i64 (Plain.getText bs).2.2]) ∧ Below w.heap.size w w' := by
  have hc := Lib.hid (Plain.textCode_cases bs)
  go_enter Tryd.func52, Tryd.ntmps52
  go_wp2_with fail
  refine (text_walk A cap bs _ hm hl hA).mono ?_
  rintro e w' ⟨at_, rfl, rfl⟩
  go_wp2_with fail
  refine (errno_any at_ _ _ hc.out).mono ?_
  rintro e w' ⟨rfl, hb⟩
  go_wp2
  go_ret3
  exact ⟨rfl, hb⟩
end Go.Proofs.YtiipcnldedjkdaaDoor
