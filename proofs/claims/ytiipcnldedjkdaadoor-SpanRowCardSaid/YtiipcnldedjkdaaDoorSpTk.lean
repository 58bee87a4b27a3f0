/-
  Layer 3: span.takeNumbers and takeTexts: what they put where, and how the reader stands then. Nothing is assumed but that its bytes lie in memory.
-/
import Derived.Test.YtiipcnldedjkdaaDoorSpRd
namespace Go.Proofs.YtiipcnldedjkdaaDoor
open Go.RowKit
set_option maxRecDepth 100000

/-- where the reader is behind k numbers, and its error -/
def runN (b : List UInt8) : Nat → Nat × Nat
  | 0 => (0, 0)
  | k + 1 => (Plain.stepN b (runN b k).1 (runN b k).2).2
def valN (b : List UInt8) (k : Nat) : Nat := (Plain.stepN b (runN b k).1 (runN b k).2).1
/-- and behind k texts, which stand behind five numbers -/
def runT (b : List UInt8) : Nat → Nat × Nat
  | 0 => runN b 5
  | k + 1 => (Plain.stepT b (runT b k).1 (runT b k).2).2
def valT (b : List UInt8) (k : Nat) : List UInt8 := (Plain.stepT b (runT b k).1 (runT b k).2).1
theorem runN_le (b : List UInt8) (k : Nat) : (runN b k).1 ≤ b.length := by
  induction k with
  | zero => simp [runN]
  | succ k ih => exact (Plain.stepN_le b _ _ ih).1
theorem runT_le (b : List UInt8) (k : Nat) : (runT b k).1 ≤ b.length := by
  induction k with
  | zero => exact runN_le b 5
  | succ k ih => exact (Plain.stepT_le b _ _ ih).1
theorem valN_le (b : List UInt8) (k : Nat) : valN b k ≤ 281474976710656 := (Plain.stepN_le b _ _ (runN_le b k)).2
theorem valT_le (b : List UInt8) (k : Nat) : (valT b k).length ≤ 32 := (Plain.stepT_le b _ _ (runT_le b k)).2
theorem parts_is (b : List UInt8) : Plain.parts b = (⟨valN b 0, valN b 1, valN b 2, valN b 3, valN b 4, valT b 0, valT b 1⟩, runT b 2) := by
  simp only [Plain.parts, valN, valT, runN, runT]

/-- the span's cells behind k numbers -/
def spN (b : List UInt8) (k : Nat) : Array Value :=
  #[.int .i64 (if 0 < k then valN b 0 else 0 : Nat), .int .i64 (if 1 < k then valN b 1 else 0 : Nat), .int .i64 (if 2 < k then valN b 2 else 0 : Nat), .int .i64 (if 3 < k then valN b 3 else 0 : Nat), .int .i64 (if 4 < k then valN b 4 else 0 : Nat), .string ⟨#[]⟩, .string ⟨#[]⟩]
theorem spN_set (b : List UInt8) (k : Nat) (h : k < 5) : (spN b k).setIfInBounds k (.int .i64 (valN b k)) = spN b (k + 1) := by
  obtain rfl | rfl | rfl | rfl | rfl : k = 0 ∨ k = 1 ∨ k = 2 ∨ k = 3 ∨ k = 4 := by omega
  all_goals rfl
theorem spN_at (b : List UInt8) (k : Nat) (h : k < 5) : ∃ x : Int, (spN b k)[k]? = some (.int .i64 x) := by
  obtain rfl | rfl | rfl | rfl | rfl : k = 0 ∨ k = 1 ∨ k = 2 ∨ k = 3 ∨ k = 4 := by omega
  all_goals exact ⟨_, rfl⟩
/-- and behind k texts -/
def spT (b : List UInt8) (k : Nat) : Array Value :=
  #[.int .i64 (valN b 0 : Nat), .int .i64 (valN b 1 : Nat), .int .i64 (valN b 2 : Nat), .int .i64 (valN b 3 : Nat), .int .i64 (valN b 4 : Nat), .string (if 0 < k then str (valT b 0) else ⟨#[]⟩), .string (if 1 < k then str (valT b 1) else ⟨#[]⟩)]
theorem spN_spT (b : List UInt8) : spN b 5 = spT b 0 := rfl
theorem spT_set (b : List UInt8) (k : Nat) (h : k < 2) : (spT b k).setIfInBounds (5 + k) (.string (str (valT b k))) = spT b (k + 1) := by
  obtain rfl | rfl : k = 0 ∨ k = 1 := by omega
  all_goals rfl
theorem spT_at (b : List UInt8) (k : Nat) (h : k < 2) : ∃ x, (spT b k)[5 + k]? = some (.string x) := by
  obtain rfl | rfl : k = 0 ∨ k = 1 := by omega
  all_goals exact ⟨_, rfl⟩

theorem takeNumbers_any (w0 w : World) (g q pb : Nat) (A : Option Addr) (n cap : Nat) (bs : List UInt8) (hG : Stand w0 w g A n cap bs) (hgq : g ≠ q) (hq : w0.heap.size ≤ q) (hpg : pb ≠ g) (hpq : pb ≠ q) (hpl : pb < w.heap.size)
    (hp : ∀ k, k < 5 → w.cell? ⟨pb, k, none⟩ = some (.pointer (some ⟨q, k, none⟩))) (h : Rd w g A n cap 0 0 0) (hs : Blk w q (spN bs 0) 23) :
    Calls Tryd.prog 33 #[.pointer (some ⟨g, 0, none⟩), .slice (some ⟨pb, 0, none⟩) 5 5] w fun ev w' => ev = .returned (.tuple #[]) ∧ (∃ at_, Rd w' g A n cap (runN bs 5).1 at_ (runN bs 5).2) ∧ Blk w' q (spN bs 5) 23 ∧ Kept [g, q] w w' := by
  have HG := Lib.hid hG
  have HP := Lib.hid hp
  clear hp hG
  go_enter Tryd.func33, Tryd.ntmps33
  go_wp2
  go_loopw [8] (fun i wr => ∃ (k : Nat) (at_ : Int), i = .int .i64 k ∧ k ≤ 5 ∧ Rd wr g A n cap (runN bs k).1 at_ (runN bs k).2 ∧ Blk wr q (spN bs k) 23 ∧ Kept [g, q] w wr) (fun i _ => 5 - (intOf i).toNat)
  case atStart => exact ⟨0, 0, rfl, Nat.zero_le _, h, hs, Kept.refl _ _⟩
  case round =>
    obtain ⟨k, at_, rfl, hk, hr, hb, hkp⟩ := hrel
    have HR := Lib.hid hr
    have HB := Lib.hid hb
    have HK := Lib.hid hkp
    clear hr hb hkp
    by_cases hlt : k < 5
    · have hc : wr.cell? ⟨pb, k, none⟩ = some (.pointer (some ⟨q, k, none⟩)) := (World.cell?_of_block (HK.out.block pb hpl (by simp [hpg, hpq]))).trans (HP.out k hlt)
      have hst : Stand w0 wr g A n cap bs := HG.out.on (HK.out.below HG.out.kept (fun i hi => by
        simp at hi; rcases hi with rfl | rfl
        · exact HG.out.new
        · exact hq))
      have HN := Lib.hid (number_any w0 wr g A n cap _ at_ _ bs hst (by rw [← HG.out.len]; exact runN_le bs k) HR.out)
      have HR1 := Lib.hid (show Plain.stepN bs (runN bs k).1 (runN bs k).2 = (valN bs k, (runN bs (k + 1)).1, (runN bs (k + 1)).2) from rfl)
      rw [HR1.out] at HN
      simp only at HN
      have HSET := Lib.hid (spN_set bs k hlt)
      obtain ⟨x, hx⟩ := spN_at bs k hlt
      have hv := valN_le bs k
      generalize valN bs k = v at *
      have HX := Lib.hid hx
      clear hx hst
      go_wp2_with fail
      refine HN.out.mono ?_
      rintro e w2 ⟨rfl, ⟨at2, r2⟩, k2⟩
      have b2 : Blk w2 q (spN bs k) 23 := k2.blk HB.out (by simp; exact fun h => hgq h.symm)
      have c2 : w2.cell? ⟨q, k, none⟩ = some (.int .i64 x) := (b2.cell k).trans HX.out
      have f2 := b2.frozen k
      have b3 := b2.set k (.int .i64 (v : Int))
      rw [HSET.out] at b3
      have r3 : Rd (w2.setCell ⟨q, k, none⟩ (.int .i64 (v : Int))) g A n cap (runN bs (k + 1)).1 at2 (runN bs (k + 1)).2 := ((Kept.refl [q] w2).setCell (p := ⟨q, k, none⟩) (by simp) _).blk r2 (by simp; exact hgq)
      have k3 : Kept [g, q] w (w2.setCell ⟨q, k, none⟩ (.int .i64 (v : Int))) := (HK.out.trans (k2.mono (by simp))).setCell (by simp) _
      have B3 := Lib.hid b3
      have R3 := Lib.hid r3
      have K3 := Lib.hid k3
      clear b2 b3 r2 r3 k2 k3
      go_wp2
      go_roundw
      case rel => exact ⟨k + 1, at2, by go_num, by omega, R3.out, B3.out, K3.out⟩
      case measure => simp [intOf]; omega
    · obtain rfl : k = 5 := by omega
      go_wp2
      go_returns
      exact ⟨rfl, ⟨at_, HR.out⟩, HB.out, HK.out⟩

theorem takeTexts_any (w0 w : World) (g q pb : Nat) (A : Option Addr) (n cap : Nat) (at0 : Int) (bs : List UInt8) (hG : Stand w0 w g A n cap bs) (hgq : g ≠ q) (hq : w0.heap.size ≤ q) (hpg : pb ≠ g) (hpq : pb ≠ q) (hpl : pb < w.heap.size)
    (hp : ∀ k, k < 2 → w.cell? ⟨pb, k, none⟩ = some (.pointer (some ⟨q, 5 + k, none⟩))) (h : Rd w g A n cap (runN bs 5).1 at0 (runN bs 5).2) (hs : Blk w q (spN bs 5) 23) :
    Calls Tryd.prog 34 #[.pointer (some ⟨g, 0, none⟩), .slice (some ⟨pb, 0, none⟩) 2 2] w fun ev w' => ev = .returned (.tuple #[]) ∧ (∃ at_, Rd w' g A n cap (runT bs 2).1 at_ (runT bs 2).2) ∧ Blk w' q (spT bs 2) 23 ∧ Kept [g, q] w w' := by
  have HG := Lib.hid hG
  have HP := Lib.hid hp
  clear hp hG
  go_enter Tryd.func34, Tryd.ntmps34
  go_wp2
  go_loopw [8] (fun i wr => ∃ (k : Nat) (at_ : Int), i = .int .i64 k ∧ k ≤ 2 ∧ Rd wr g A n cap (runT bs k).1 at_ (runT bs k).2 ∧ Blk wr q (spT bs k) 23 ∧ Kept [g, q] w wr) (fun i _ => 2 - (intOf i).toNat)
  case atStart => exact ⟨0, at0, rfl, Nat.zero_le _, h, hs, Kept.refl _ _⟩
  case round =>
    obtain ⟨k, at_, rfl, hk, hr, hb, hkp⟩ := hrel
    have HR := Lib.hid hr
    have HB := Lib.hid hb
    have HK := Lib.hid hkp
    clear hr hb hkp
    by_cases hlt : k < 2
    · have hc : wr.cell? ⟨pb, k, none⟩ = some (.pointer (some ⟨q, 5 + k, none⟩)) := (World.cell?_of_block (HK.out.block pb hpl (by simp [hpg, hpq]))).trans (HP.out k hlt)
      have hst : Stand w0 wr g A n cap bs := HG.out.on (HK.out.below HG.out.kept (fun i hi => by
        simp at hi; rcases hi with rfl | rfl
        · exact HG.out.new
        · exact hq))
      have HN := Lib.hid (text_any w0 wr g A n cap _ at_ _ bs hst (by rw [← HG.out.len]; exact runT_le bs k) HR.out)
      have HR1 := Lib.hid (show Plain.stepT bs (runT bs k).1 (runT bs k).2 = (valT bs k, (runT bs (k + 1)).1, (runT bs (k + 1)).2) from rfl)
      rw [HR1.out] at HN
      simp only at HN
      have HSET := Lib.hid (spT_set bs k hlt)
      obtain ⟨x, hx⟩ := spT_at bs k hlt
      generalize str (valT bs k) = v at *
      have HX := Lib.hid hx
      clear hx hst
      go_wp2_with fail
      refine HN.out.mono ?_
      rintro e w2 ⟨rfl, ⟨at2, r2⟩, k2⟩
      have b2 : Blk w2 q (spT bs k) 23 := k2.blk HB.out (by simp; exact fun h => hgq h.symm)
      have c2 : w2.cell? ⟨q, 5 + k, none⟩ = some (.string x) := (b2.cell (5 + k)).trans HX.out
      have f2 := b2.frozen (5 + k)
      have b3 := b2.set (5 + k) (.string v)
      rw [HSET.out] at b3
      have r3 : Rd (w2.setCell ⟨q, 5 + k, none⟩ (.string v)) g A n cap (runT bs (k + 1)).1 at2 (runT bs (k + 1)).2 := ((Kept.refl [q] w2).setCell (p := ⟨q, 5 + k, none⟩) (by simp) _).blk r2 (by simp; exact hgq)
      have k3 : Kept [g, q] w (w2.setCell ⟨q, 5 + k, none⟩ (.string v)) := (HK.out.trans (k2.mono (by simp))).setCell (by simp) _
      have B3 := Lib.hid b3
      have R3 := Lib.hid r3
      have K3 := Lib.hid k3
      clear b2 b3 r2 r3 k2 k3
      go_wp2
      go_roundw
      case rel => exact ⟨k + 1, at2, by go_num, by omega, R3.out, B3.out, K3.out⟩
      case measure => simp [intOf]; omega
    · obtain rfl : k = 2 := by omega
      go_wp2
      go_returns
      exact ⟨rfl, ⟨at_, HR.out⟩, HB.out, HK.out⟩
end Go.Proofs.YtiipcnldedjkdaaDoor
