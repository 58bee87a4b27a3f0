/-
  Layer 12: frame.first, and the library's Clone of bytes: what they answer. Assumed: that the bytes lie in memory.
-/
import Derived.Test.YtchfiekepjndeaaFrA

namespace Go.Proofs.Ytchfiekepjndeaa
open Go.RowKit
set_option maxRecDepth 100000

/-- the slice of a frame's body -/
def bodyV (ad : Addr) (k m cap : Nat) : Value := .slice (some (ad.add k)) m (cap - k)

set_option maxHeartbeats 2000000 in
theorem first_no (A : Option Addr) (n cap : Nat) (bs : List UInt8) (w : World) (hn : bs.length = n) (hnm : n ≤ maxLen) (hA : Lies w A (cells bs)) (hf : (Fra.first bs).2 = 0) :
    Calls Try.prog 28 #[.slice A n cap] w fun e w' => e = .returned (.tuple #[.slice none 0 0, .int .i64 0]) ∧ Below w.heap.size w w' := by
  have HF := Lib.hid (fun r (x : Int) (h : Fra.fits x = r) (W : World) => h ▸ fits12_any x W)
  have hg := fun X K C => get_is A n cap bs w X K C hn hnm hA
  have hsm := Plain.get_small bs
  have hc := Plain.code_cases bs
  have hno : ¬ ((Plain.get bs).2.2 = 0 ∧ 1 ≤ (Plain.get bs).1 ∧ (Plain.get bs).1 ≤ 3600 ∧ (Plain.get bs).2.1 + (Plain.get bs).1 ≤ n) := by
    intro h
    unfold Fra.first at hf
    rw [hn, if_pos h] at hf
    simp only at hf
    omega
  rw [hn] at hsm
  clear hf hA hn
  generalize Plain.get bs = g at *
  obtain ⟨x, j, code⟩ := g
  simp only at *
  unfold maxLen at hnm
  by_cases h0 : code = 0
  · subst h0
    have HG := Lib.hid (hg x j 0 rfl rfl rfl)
    clear hg
    by_cases h1 : 1 ≤ x ∧ x ≤ 3600
    · have ht := (Fra.fits_iff (x : Int)).2 (by omega)
      have hgt : n - j < x := by omega
      have dgt : decide ((n : Int) - (j : Int) < (x : Int)) = true := by simp; omega
      go_enter Try.func28, Try.ntmps28
      go_wp2_with fail
      refine HG.out.mono ?_
      rintro e w1 ⟨rfl, hb⟩
      have HB := Lib.hid hb
      clear hb
      go_wp2_with fail
      refine (HF.out true (x : Int) ht _).mono ?_
      rintro e w' ⟨rfl, rfl⟩
      clear ht
      go_wp2
      go_returns
      exact ⟨rfl, HB.out⟩
    · have ht : Fra.fits (x : Int) = false := by rw [Bool.eq_false_iff]; intro h'; have := (Fra.fits_iff (x : Int)).1 h'; omega
      go_enter Try.func28, Try.ntmps28
      go_wp2_with fail
      refine HG.out.mono ?_
      rintro e w1 ⟨rfl, hb⟩
      have HB := Lib.hid hb
      clear hb
      go_wp2_with fail
      refine (HF.out false (x : Int) ht _).mono ?_
      rintro e w' ⟨rfl, rfl⟩
      clear ht
      go_wp2
      go_returns
      exact ⟨rfl, HB.out⟩
  · have HG := Lib.hid (hg x j code rfl rfl rfl)
    have d1 : ((code : Int) != 0) = true := by rw [bne_iff_ne]; omega
    clear hg hno hc h0
    go_enter Try.func28, Try.ntmps28
    go_wp2_with fail
    refine HG.out.mono ?_
    rintro e w1 ⟨rfl, hb⟩
    have HB := Lib.hid hb
    clear hb
    go_wp2
    go_returns
    exact ⟨rfl, HB.out⟩

set_option maxHeartbeats 2000000 in
theorem first_yes (ad : Addr) (n cap k m : Nat) (bs : List UInt8) (w : World) (hn : bs.length = n) (hnc : n ≤ cap) (hcm : cap ≤ maxLen) (hA : Lies w (some ad) (cells bs)) (hf : Fra.first bs = (k, m)) (hm : m ≠ 0) :
    Calls Try.prog 28 #[.slice (some ad) n cap] w fun e w' => e = .returned (.tuple #[bodyV ad k m cap, .int .i64 (((k + m : Nat) : Int))]) ∧ Below w.heap.size w w' := by
  have HF := Lib.hid (fun r (x : Int) (h : Fra.fits x = r) (W : World) => h ▸ fits12_any x W)
  have hg := fun X K C => get_is (some ad) n cap bs w X K C hn (by omega) hA
  have hb := Fra.first_back bs (by rw [hf]; exact hm)
  rw [hf] at hb
  have hk1 : 1 ≤ Plain.size m := by
    have := Fra.head_is m hb.2.1
    split at this <;> omega
  have hgv : (Plain.get bs).2.2 = 0 ∧ (Plain.get bs).1 = m ∧ (Plain.get bs).2.1 = k := by
    unfold Fra.first at hf
    split at hf
    · rename_i h
      injection hf with h1 h2
      exact ⟨h.1, h2, h1⟩
    · injection hf with h1 h2
      exact absurd h2.symm hm
  obtain ⟨h1, h2, h3, h4, -⟩ := hb
  simp only at h1 h2 h3 h4
  rw [hn] at h4
  obtain ⟨g1, g2, g3⟩ := hgv
  have HG := Lib.hid (hg m k 0 (by rw [g2]) (by rw [g3]) (by rw [g1]; rfl))
  have hk0 : 1 ≤ k := by omega
  clear hg hf hA hn g1 g2 g3 h3 hk1
  have ht := (Fra.fits_iff (m : Int)).2 (by omega)
  have dgt : decide ((n : Int) - (k : Int) < (m : Int)) = false := by simp; omega
  unfold maxLen at hcm
  go_enter Try.func28, Try.ntmps28
  go_wp2_with fail
  refine HG.out.mono ?_
  rintro e w1 ⟨rfl, hb⟩
  have HB := Lib.hid hb
  clear hb
  go_wp2_with fail
  refine (HF.out true (m : Int) ht _).mono ?_
  rintro e w' ⟨rfl, rfl⟩
  clear ht
  go_wp2
  go_returns
  exact ⟨by simp [bodyV], HB.out⟩

set_option maxHeartbeats 1000000 in
theorem clone12_any (ad : Addr) (n cap : Nat) (bs : List UInt8) (w : World) (hn : bs.length = n) (hm : n ≤ 1000000) (hA : Lies w (some ad) (cells bs)) :
    Calls Try.prog 19 #[.slice (some ad) n cap] w (Made w bs) := by
  obtain ⟨i0, hi, hz0, hz1, hz2⟩ := info_parts infoU8
  have HN := Lib.hid (show (cells bs).length = n by rw [cells_length, hn])
  have HO1 := Lib.hid (cells_one bs)
  have hA' : Lies (w.alloc (.cells #[] 5)) (some ad) (cells bs) := hA.keep (by simp) fun p hp => World.cell?_alloc_lt w _ p hp
  have HA := Lib.hid hA'
  have HF := Lib.hid (show ∀ (v : Value) (w' : World), w'.ownsRow w.heap.size 5 1 v n (cells bs) → Below w.heap.size w w' → Made w bs (.returned v) w' from
      fun v w' ho hb => ⟨v, rfl, by rw [hn]; exact ho, hb⟩)
  clear hA hA' hn
  generalize cells bs = cbs at *
  have he : ∀ W : World, (binOp .eql 22 (.slice (some ad) n cap) (.slice none 0 0)).run Try.prog W = .ok (.bool false) W := fun _ => rfl
  go_enter Try.func19, Try.ntmps19
  go_wp2_with (at_builtin; refine wpList_app rfl _ _ 22 rfl w.heap.size 5 i0 (.int .u8 0) Try.underlying22 hi hz0 hz1 hz2 rfl (.slice (some ⟨w.heap.size, 0, none⟩) 0 0) 0 [] rfl ?a1 (some ad) n cap cbs rfl HN.out HA.out HO1.out ?a4 ?a5 ?a6)
  case a1 => exact World.ownsRow_lit w #[] 0 (Nat.le_refl _) (by unfold maxLen; omega) rfl
  case a4 => omega
  case a5 => simp
  case a6 =>
    intro v1 w1 hown1 hg1 hat1
    have hb1 : Below w.heap.size w w1 := ((Below.refl _ _).alloc (Nat.le_refl _) _).grown hg1 (by simp) (fun g hg => by simp [Value.ownBlock] at hg; omega)
    have HO := Lib.hid (show w1.ownsRow w.heap.size 5 1 v1 n cbs by simpa using hown1)
    clear hown1 hg1 hat1
    go_wp2
    go_ret
    exact HF.out _ _ HO.out hb1
end Go.Proofs.Ytchfiekepjndeaa
