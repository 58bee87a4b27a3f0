/-
  Layer 12: frame.fits, Size and Put, and the document's Size and Put: what they answer, for every argument. Assumed: that the bytes lie in memory.
-/
import Derived.Test.YtdfeccmcefcpbaaDoorSpanA
import Derived.Test.YtdfeccmcefcpbaaDoorRef1
import Derived.Test.YtdfeccmcefcpbaaDoorGen
import Derived.Test.YtdfeccmcefcpbaaDoorMath12

namespace Go.Proofs.YtdfeccmcefcpbaaDoor
open Go.RowKit
set_option maxRecDepth 100000

theorem fits12_any (n : Int) (w : World) : Calls Tryd.prog 35 #[.int .i64 n] w fun e w' => e = .returned (.bool (Fra.fits n)) ∧ w = w' := by
  by_cases h1 : 1 ≤ n
  · by_cases h2 : n ≤ 3600
    · have HF := Lib.hid ((Fra.fits_iff n).2 ⟨h1, h2⟩)
      go_enter Tryd.func35, Tryd.ntmps35
      go_wp2
      go_ret
      exact ⟨by rw [HF.out]; rfl, rfl⟩
    · have HF := Lib.hid (show Fra.fits n = false by rw [Bool.eq_false_iff]; intro h; have := (Fra.fits_iff n).1 h; omega)
      go_enter Tryd.func35, Tryd.ntmps35
      go_wp2
      go_ret
      exact ⟨by rw [HF.out]; rfl, rfl⟩
  · have HF := Lib.hid (show Fra.fits n = false by rw [Bool.eq_false_iff]; intro h; have := (Fra.fits_iff n).1 h; omega)
    go_enter Tryd.func35, Tryd.ntmps35
    go_wp2
    go_ret
    exact ⟨by rw [HF.out]; rfl, rfl⟩

theorem fsize_any (n : Int) (w : World) : Calls Tryd.prog 31 #[.int .i64 n] w fun e w' => e = .returned (.int .i64 (Fra.size n)) ∧ w = w' := by
  have HF := Lib.hid (fun r (h : Fra.fits n = r) (W : World) => h ▸ fits12_any n W)
  by_cases h : 1 ≤ n ∧ n ≤ 3600
  · have HS := Lib.hid (size_any n)
    have HV := Lib.hid (show ((Fra.size n : Nat) : Int) = (Plain.size n : Int) + n by unfold Fra.size; rw [if_pos h]; omega)
    have hs := Plain.size_le n
    have ht := (Fra.fits_iff n).2 h
    generalize Plain.size n = q at *
    go_enter Tryd.func31, Tryd.ntmps31
    go_wp2_with fail
    refine (HF.out true ht _).mono ?_
    rintro e w' ⟨rfl, rfl⟩
    clear ht
    go_wp2_with fail
    refine (HS.out _).mono ?_
    rintro e w' ⟨rfl, rfl⟩
    go_wp2
    go_ret
    exact ⟨ret_int HV.out.symm, rfl⟩
  · have ht : Fra.fits n = false := by rw [Bool.eq_false_iff]; intro h'; exact h ((Fra.fits_iff n).1 h')
    have HV := Lib.hid (show ((Fra.size n : Nat) : Int) = 0 by unfold Fra.size; rw [if_neg h]; rfl)
    go_enter Tryd.func31, Tryd.ntmps31
    go_wp2_with fail
    refine (HF.out false ht _).mono ?_
    rintro e w' ⟨rfl, rfl⟩
    clear ht
    go_wp2
    go_ret
    exact ⟨ret_int HV.out.symm, rfl⟩

theorem made_nil {w w' : World} (h : Below w.heap.size w w') : Made w [] (.returned (.slice none 0 0)) w' := ⟨_, rfl, World.ownsRow_nil _ _ _ _, h⟩

set_option maxHeartbeats 1000000 in
theorem fput_any (A : Option Addr) (n cap : Nat) (bs : List UInt8) (w : World) (hn : bs.length = n) (hA : Lies w A (cells bs)) :
    Calls Tryd.prog 21 #[.slice A n cap] w (Made w (Fra.put bs)) := by
  have HF := Lib.hid (fun r (h : Fra.fits (n : Int) = r) (W : World) => h ▸ fits12_any (n : Int) W)
  by_cases h : 1 ≤ n ∧ n ≤ 3600
  · have ht := (Fra.fits_iff (n : Int)).2 (by omega)
    have hV : Fra.put bs = Plain.put (n : Int) ++ bs := by unfold Fra.put; rw [hn, if_pos h]
    have hp := put_any none 0 [] (n : Int) w (by simp) Lies.nil
    rw [List.nil_append] at hp
    have hpl := Plain.put_length (n : Int)
    have hps := Plain.size_le (n : Int)
    have HP := Lib.hid hp
    rw [hV]
    clear hp hV
    generalize Plain.put (n : Int) = pb at *
    generalize Plain.size (n : Int) = q at *
    have HA := Lib.hid hA
    have HN := Lib.hid hn
    have HPL := Lib.hid hpl
    clear hA hn hpl
    go_enter Tryd.func21, Tryd.ntmps21
    go_wp2_with fail
    refine (HF.out true ht _).mono ?_
    rintro e w' ⟨rfl, rfl⟩
    clear ht
    go_wp2_with fail
    refine HP.out.mono ?_
    rintro e w1 ⟨v, rfl, hown, hb⟩
    obtain ⟨A1, cap1, rfl, hlc, hcm, -, hL⟩ := own_form hown
    rw [HPL.out] at hlc ⊢
    have hb2 : Below w.heap.size w (w1.alloc (.cells #[.slice A1 q cap1, .slice A n cap] 25)) := hb.alloc hb.size _
    have hL2 : Lies (w1.alloc (.cells #[.slice A1 q cap1, .slice A n cap] 25)) A1 (cells pb) := hL.below ((Below.refl _ _).alloc (Nat.le_refl _) _)
    have HL2 := Lib.hid hL2
    have HA2 := Lib.hid (HA.out.below hb2)
    have bx := Blk.new w1 #[.slice A1 q cap1, .slice A n cap] 25
    have HC := Lib.hid (concat2 A1 q cap1 pb A n cap bs w1.heap.size (w1.alloc (.cells #[.slice A1 q cap1, .slice A n cap] 25)) HPL.out HN.out (by omega) (by omega) HL2.out HA2.out (by simp) (bx.cell 0) (bx.cell 1))
    have HB := Lib.hid hb2
    clear hL hL2 hown bx hb2 hb
    go_wp2_with fail
    refine HC.out.mono ?_
    rintro e w3 hM
    obtain ⟨v, rfl, ho, hb3⟩ := hM.up HB.out
    have HO := Lib.hid ho
    have HB3 := Lib.hid hb3
    clear ho hb3 hM
    go_wp2
    go_ret
    exact ⟨_, rfl, HO.out, HB3.out⟩
  · have ht : Fra.fits (n : Int) = false := by rw [Bool.eq_false_iff]; intro h'; have := (Fra.fits_iff (n : Int)).1 h'; omega
    have hV : Fra.put bs = [] := by unfold Fra.put; rw [hn, if_neg h]
    rw [hV]
    go_enter Tryd.func21, Tryd.ntmps21
    go_wp2_with fail
    refine (HF.out false ht _).mono ?_
    rintro e w' ⟨rfl, rfl⟩
    clear ht hV
    go_wp2
    go_ret
    exact made_nil (Below.refl _ _)

theorem rsize12_any (n : Int) (w : World) : Calls Tryd.prog 28 #[.int .i64 n] w fun e w' => e = .returned (.int .i64 (Fra.size n)) ∧ w = w' := by
  by_cases h1 : 1 ≤ n
  · by_cases h2 : n ≤ 3600
    · have HS := Lib.hid (rsize_any n)
      have HV := Lib.hid (show ((Fra.size n : Nat) : Int) = (Plain.size n : Int) + n by unfold Fra.size; rw [if_pos ⟨h1, h2⟩]; omega)
      have hs := Plain.size_le n
      generalize Plain.size n = q at *
      go_enter Tryd.func28, Tryd.ntmps28
      go_wp2_with fail
      refine (HS.out _).mono ?_
      rintro e w' ⟨rfl, rfl⟩
      go_wp2
      go_ret
      exact ⟨ret_int HV.out.symm, rfl⟩
    · have HV := Lib.hid (show ((Fra.size n : Nat) : Int) = 0 by unfold Fra.size; rw [if_neg (by omega)]; rfl)
      go_enter Tryd.func28, Tryd.ntmps28
      go_wp2
      go_ret
      exact ⟨ret_int HV.out.symm, rfl⟩
  · have HV := Lib.hid (show ((Fra.size n : Nat) : Int) = 0 by unfold Fra.size; rw [if_neg (by omega)]; rfl)
    go_enter Tryd.func28, Tryd.ntmps28
    go_wp2
    go_ret
    exact ⟨ret_int HV.out.symm, rfl⟩

end Go.Proofs.YtdfeccmcefcpbaaDoor
