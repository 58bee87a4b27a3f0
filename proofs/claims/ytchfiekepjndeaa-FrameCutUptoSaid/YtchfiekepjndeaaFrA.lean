/-
  Layer 12: frame.fits, Size and Put, and the document's Size and Put: what they answer, for every argument. Assumed: that the bytes lie in memory.
-/
import Derived.Test.YtchfiekepjndeaaSpanA
import Derived.Test.YtchfiekepjndeaaRef1
import Derived.Test.YtchfiekepjndeaaGen
import Derived.Test.YtchfiekepjndeaaMath12

namespace Go.Proofs.Ytchfiekepjndeaa
open Go.RowKit
set_option maxRecDepth 100000

theorem fits12_any (n : Int) (w : World) : Calls Try.prog 21 #[.int .i64 n] w fun e w' => e = .returned (.bool (Fra.fits n)) ∧ w = w' := by
  by_cases h1 : 1 ≤ n
  · by_cases h2 : n ≤ 3600
    · have HF := Lib.hid ((Fra.fits_iff n).2 ⟨h1, h2⟩)
      go_enter Try.func21, Try.ntmps21
      go_wp2
      go_ret
      exact ⟨by rw [HF.out]; rfl, rfl⟩
    · have HF := Lib.hid (show Fra.fits n = false by rw [Bool.eq_false_iff]; intro h; have := (Fra.fits_iff n).1 h; omega)
      go_enter Try.func21, Try.ntmps21
      go_wp2
      go_ret
      exact ⟨by rw [HF.out]; rfl, rfl⟩
  · have HF := Lib.hid (show Fra.fits n = false by rw [Bool.eq_false_iff]; intro h; have := (Fra.fits_iff n).1 h; omega)
    go_enter Try.func21, Try.ntmps21
    go_wp2
    go_ret
    exact ⟨by rw [HF.out]; rfl, rfl⟩

theorem fsize_any (n : Int) (w : World) : Calls Try.prog 13 #[.int .i64 n] w fun e w' => e = .returned (.int .i64 (Fra.size n)) ∧ w = w' := by
  have HF := Lib.hid (fun r (h : Fra.fits n = r) (W : World) => h ▸ fits12_any n W)
  by_cases h : 1 ≤ n ∧ n ≤ 3600
  · have HS := Lib.hid (size_any n)
    have HV := Lib.hid (show ((Fra.size n : Nat) : Int) = (Plain.size n : Int) + n by unfold Fra.size; rw [if_pos h]; omega)
    have hs := Plain.size_le n
    have ht := (Fra.fits_iff n).2 h
    generalize Plain.size n = q at *
    go_enter Try.func13, Try.ntmps13
    go_wp2_with fail
    refine (HF.out true ht _).mono ?_
    rintro e w' ⟨rfl, rfl⟩
    clear ht
    go_wp2_with fail
    refine (HS.out _).mono ?_
    rintro e w' ⟨rfl, rfl⟩
    go_wp2
    go_ret
    exact ⟨ret_int HV.out.symm, rfl⟩
  · have ht : Fra.fits n = false := by rw [Bool.eq_false_iff]; intro h'; exact h ((Fra.fits_iff n).1 h')
    have HV := Lib.hid (show ((Fra.size n : Nat) : Int) = 0 by unfold Fra.size; rw [if_neg h]; rfl)
    go_enter Try.func13, Try.ntmps13
    go_wp2_with fail
    refine (HF.out false ht _).mono ?_
    rintro e w' ⟨rfl, rfl⟩
    clear ht
    go_wp2
    go_ret
    exact ⟨ret_int HV.out.symm, rfl⟩

theorem made_nil {w w' : World} (h : Below w.heap.size w w') : Made w [] (.returned (.slice none 0 0)) w' := ⟨_, rfl, World.ownsRow_nil _ _ _ _, h⟩

set_option maxHeartbeats 1000000 in
theorem fput_any (A : Option Addr) (n cap : Nat) (bs : List UInt8) (w : World) (hn : bs.length = n) (hA : Lies w A (cells bs)) :
    Calls Try.prog 11 #[.slice A n cap] w (Made w (Fra.put bs)) := by
  have HF := Lib.hid (fun r (h : Fra.fits (n : Int) = r) (W : World) => h ▸ fits12_any (n : Int) W)
  by_cases h : 1 ≤ n ∧ n ≤ 3600
  · have ht := (Fra.fits_iff (n : Int)).2 (by omega)
    have hV : Fra.put bs = Plain.put (n : Int) ++ bs := by unfold Fra.put; rw [hn, if_pos h]
    have hp := put_any none 0 [] (n : Int) w (by simp) Lies.nil
    rw [List.nil_append] at hp
    have hpl := Plain.put_length (n : Int)
    have hps := Plain.size_le (n : Int)
    have HP := Lib.hid hp
    rw [hV]
    clear hp hV
    generalize Plain.put (n : Int) = pb at *
    generalize Plain.size (n : Int) = q at *
    have HA := Lib.hid hA
    have HN := Lib.hid hn
    have HPL := Lib.hid hpl
    clear hA hn hpl
    go_enter Try.func11, Try.ntmps11
    go_wp2_with fail
    refine (HF.out true ht _).mono ?_
    rintro e w' ⟨rfl, rfl⟩
    clear ht
    go_wp2_with fail
    refine HP.out.mono ?_
    rintro e w1 ⟨v, rfl, hown, hb⟩
    obtain ⟨A1, cap1, rfl, hlc, hcm, -, hL⟩ := own_form hown
    rw [HPL.out] at hlc ⊢
    have hb2 : Below w.heap.size w (w1.alloc (.cells #[.slice A1 q cap1, .slice A n cap] 22)) := hb.alloc hb.size _
    have hL2 : Lies (w1.alloc (.cells #[.slice A1 q cap1, .slice A n cap] 22)) A1 (cells pb) := hL.below ((Below.refl _ _).alloc (Nat.le_refl _) _)
    have HL2 := Lib.hid hL2
    have HA2 := Lib.hid (HA.out.below hb2)
    have bx := Blk.new w1 #[.slice A1 q cap1, .slice A n cap] 22
    have HC := Lib.hid (concat2 A1 q cap1 pb A n cap bs w1.heap.size (w1.alloc (.cells #[.slice A1 q cap1, .slice A n cap] 22)) HPL.out HN.out (by omega) (by omega) HL2.out HA2.out (by simp) (bx.cell 0) (bx.cell 1))
    have HB := Lib.hid hb2
    clear hL hL2 hown bx hb2 hb
    go_wp2_with fail
    refine HC.out.mono ?_
    rintro e w3 hM
    obtain ⟨v, rfl, ho, hb3⟩ := hM.up HB.out
    have HO := Lib.hid ho
    have HB3 := Lib.hid hb3
    clear ho hb3 hM
    go_wp2
    go_ret
    exact ⟨_, rfl, HO.out, HB3.out⟩
  · have ht : Fra.fits (n : Int) = false := by rw [Bool.eq_false_iff]; intro h'; have := (Fra.fits_iff (n : Int)).1 h'; omega
    have hV : Fra.put bs = [] := by unfold Fra.put; rw [hn, if_neg h]
    rw [hV]
    go_enter Try.func11, Try.ntmps11
    go_wp2_with fail
    refine (HF.out false ht _).mono ?_
    rintro e w' ⟨rfl, rfl⟩
    clear ht hV
    go_wp2
    go_ret
    exact made_nil (Below.refl _ _)

theorem rsize12_any (n : Int) (w : World) : Calls Try.prog 14 #[.int .i64 n] w fun e w' => e = .returned (.int .i64 (Fra.size n)) ∧ w = w' := by
  by_cases h1 : 1 ≤ n
  · by_cases h2 : n ≤ 3600
    · have HS := Lib.hid (rsize_any n)
      have HV := Lib.hid (show ((Fra.size n : Nat) : Int) = (Plain.size n : Int) + n by unfold Fra.size; rw [if_pos ⟨h1, h2⟩]; omega)
      have hs := Plain.size_le n
      generalize Plain.size n = q at *
      go_enter Try.func14, Try.ntmps14
      go_wp2_with fail
      refine (HS.out _).mono ?_
      rintro e w' ⟨rfl, rfl⟩
      go_wp2
      go_ret
      exact ⟨ret_int HV.out.symm, rfl⟩
    · have HV := Lib.hid (show ((Fra.size n : Nat) : Int) = 0 by unfold Fra.size; rw [if_neg (by omega)]; rfl)
      go_enter Try.func14, Try.ntmps14
      go_wp2
      go_ret
      exact ⟨ret_int HV.out.symm, rfl⟩
  · have HV := Lib.hid (show ((Fra.size n : Nat) : Int) = 0 by unfold Fra.size; rw [if_neg (by omega)]; rfl)
    go_enter Try.func14, Try.ntmps14
    go_wp2
    go_ret
    exact ⟨ret_int HV.out.symm, rfl⟩

set_option maxHeartbeats 1000000 in
theorem rput12_any (A : Option Addr) (n cap : Nat) (bs : List UInt8) (w : World) (hn : bs.length = n) (hA : Lies w A (cells bs)) :
    Calls Try.prog 12 #[.slice A n cap] w (Made w (Fra.put bs)) := by
  obtain ⟨i0, hi, hz0, hz1, hz2⟩ := info_parts infoU8
  have HS := Lib.hid (fun W => rsize12_any (n : Int) W)
  have hfl := Fra.put_length bs
  rw [hn] at hfl
  by_cases h : 1 ≤ n ∧ n ≤ 3600
  · have hV : Fra.put bs = Plain.put (n : Int) ++ bs := by unfold Fra.put; rw [hn, if_pos h]
    have hp := rput_any none 0 [] (n : Int) w (by simp) Lies.nil
    rw [List.nil_append] at hp
    have hpl := Plain.put_length (n : Int)
    have hps := Plain.size_le (n : Int)
    have HP := Lib.hid hp
    have hz : ((Fra.size (n : Int) : Nat) : Int) ≠ 0 := by unfold Fra.size; rw [if_pos (by omega)]; omega
    have HF := Lib.hid (show ∀ (v : Value) (w' : World), w'.ownsRow w.heap.size 5 1 v ((Plain.put (n : Int)).length + n) (cells (Plain.put (n : Int)) ++ cells bs) → Below w.heap.size w w' → Made w (Plain.put (n : Int) ++ bs) (.returned v) w' from
      fun v w' ho hb => ⟨v, rfl, by rw [cells_append, List.length_append, hn]; exact ho, hb⟩)
    rw [hV]
    clear hp hV hfl
    generalize Plain.put (n : Int) ++ bs = out at *
    generalize Plain.put (n : Int) = pb at *
    generalize Plain.size (n : Int) = q at *
    generalize Fra.size (n : Int) = qq at *
    have d0 : ((qq : Int) == 0) = false := by rw [beq_eq_false_iff_ne]; exact hz
    have HA := Lib.hid hA
    have HN := Lib.hid (show (cells bs).length = n by rw [cells_length, hn])
    have HO1 := Lib.hid (cells_one bs)
    have HPL := Lib.hid hpl
    clear hA hn hpl hz
    generalize cells bs = cbs at *
    go_enter Try.func12, Try.ntmps12
    go_wp2_with fail
    refine (HS.out _).mono ?_
    rintro e w' ⟨rfl, rfl⟩
    go_wp2_with fail
    refine HP.out.mono ?_
    rintro e w1 ⟨v, rfl, hown, hb⟩
    have HO := Lib.hid hown
    have HB := Lib.hid hb
    have HLE := Lib.hid (show pb.length + n ≤ 70368744177664 by have := HPL.out; omega)
    clear hown hb
    go_wp2_with (at_builtin; refine wpList_app rfl _ _ 22 rfl w.heap.size 5 i0 (.int .u8 0) Try.underlying22 hi hz0 hz1 hz2 rfl v pb.length (cells pb) rfl HO.out A n cap cbs rfl HN.out (HA.out.below HB.out) HO1.out HLE.out HB.out.size ?_)
    intro v2 w2 ho2 hg2 _
    have hb2 : Below w.heap.size w w2 := HB.out.grown hg2 HB.out.size (fun g hg => (HO.out.lt g hg).1)
    have HO2 := Lib.hid ho2
    clear ho2 hg2
    go_wp2
    go_ret
    exact HF.out _ _ HO2.out hb2
  · have hV : Fra.put bs = [] := by unfold Fra.put; rw [hn, if_neg h]
    have hz : ((Fra.size (n : Int) : Nat) : Int) = 0 := by unfold Fra.size; rw [if_neg (by omega)]; rfl
    rw [hz] at HS
    rw [hV]
    clear hfl hz hV
    go_enter Try.func12, Try.ntmps12
    go_wp2_with fail
    refine (HS.out _).mono ?_
    rintro e w' ⟨rfl, rfl⟩
    go_wp2
    go_ret
    exact made_nil (Below.refl _ _)
end Go.Proofs.Ytchfiekepjndeaa
