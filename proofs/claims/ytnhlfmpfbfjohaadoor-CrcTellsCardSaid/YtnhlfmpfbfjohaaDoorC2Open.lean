/-
  Layer 2: what bytes.Equal and crc.Open answer, of any bytes; nothing that was there has turned. Assumed: at most 2^40 bytes, that they lie in memory, and that the program's table holds what its text lays there.
-/
import Derived.Test.YtnhlfmpfbfjohaaDoorC2Seal
namespace Go.Proofs.YtnhlfmpfbfjohaaDoor
open Go.RowKit

theorem str_toList (l : List UInt8) : (str l).toList = l := by unfold str; exact ByteArray.toList_mk l
theorem beq_str (a b : List UInt8) : ((str a).toList == (str b).toList) = decide (a = b) := by rw [str_toList, str_toList]; rw [Bool.eq_iff_iff]; simp

theorem equal_walk (A B : Option Addr) (n m ca cb : Nat) (xs ys : List UInt8) (w : World) (hn : xs.length = n) (hm : ys.length = m) (hA : Lies w A (cells xs)) (hB : Lies w B (cells ys)) :
    Calls Tryd.prog 18 #[.slice A n ca, .slice B m cb] w fun e w' => e = .returned (.bool (decide (xs = ys))) ∧ w = w' := by
  subst hn hm
  have h1 := conv_str (P := Tryd.prog) (c := ca) hA 23 5 Tryd.underlying23 Tryd.underlying5 9 Tryd.underlying9
  have h2 := conv_str (P := Tryd.prog) (c := cb) hB 23 5 Tryd.underlying23 Tryd.underlying5 9 Tryd.underlying9
  have HE := Lib.hid (beq_str xs ys)
  generalize str xs = SA at *
  generalize str ys = SB at *
  go_enter Tryd.func18, Tryd.ntmps18
  go_wp2
  go_ret
  refine ⟨?_, rfl⟩
  rw [← HE.out]
  rfl

/-- what Open hands back: memory of its own, in which the whole stands; nothing that was there has turned -/
def Opened (w : World) (bs : List UInt8) (e : Ending) (w' : World) : Prop :=
  Below w.heap.size w w' ∧
  ((Crc.opens bs ∧ ∃ g c, e = .returned (.tuple #[.slice (some ⟨g, 0, none⟩) (bs.length - 4) (bs.length - 4), .bool true]) ∧ w'.ownsRow w.heap.size 5 1 (.slice (some ⟨g, 0, none⟩) bs.length c) bs.length (cells bs)) ∨
   (¬ Crc.opens bs ∧ e = .returned (.tuple #[.slice none 0 0, .bool false])))

theorem open_four (A : Option Addr) (cap n : Nat) (bs : List UInt8) (w : World) (hn : bs.length = n + 4) (hm : n + 4 ≤ 1099511627776) (hc : n + 4 ≤ cap) (hA : Lies w A (cells bs)) (hT : Tab w) :
    Calls Tryd.prog 10 #[.slice A (n + 4) cap] w (Opened w bs) := by
  have HL := Lib.hid (show (bs.take n).length = n by rw [List.length_take]; omega)
  have HSE := Lib.hid (seal_walk A cap (bs.take n) w (by rw [HL.out]; omega) (by have := hA.take n; rwa [cells_take] at this) hT)
  have HO := Lib.hid (show Crc.opens bs ↔ Crc.sealed (bs.take n) = bs from ⟨fun h => by have := h.2; rw [hn, Nat.add_sub_cancel] at this; exact this.symm, fun h => ⟨by omega, by rw [hn, Nat.add_sub_cancel]; exact h.symm⟩⟩)
  have HSL := Lib.hid (show (Crc.sealed (bs.take n)).length = n + 4 by rw [Crc.sealed_length, HL.out])
  rw [HL.out] at HSE
  generalize Crc.sealed (bs.take n) = Z at *
  have HN := Lib.hid hn
  clear hn HL
  go_enter Tryd.func10, Tryd.ntmps10
  go_wp2_with fail
  refine HSE.out.mono ?_
  rintro e w1 ⟨v, rfl, hown, hb⟩
  rw [HSL.out] at hown
  obtain ⟨g, c, rfl, hc1, hc2⟩ : ∃ g c, v = .slice (some ⟨g, 0, none⟩) (n + 4) c ∧ n + 4 ≤ c ∧ c ≤ 9223372036854775807 := by
    rcases hown.2 with ⟨_, h0⟩ | ⟨g, c, cur, h1, _, _, h2, h3, _⟩
    · omega
    · exact ⟨g, c, h1, h2, by unfold maxLen at h3; omega⟩
  have HOW := Lib.hid hown
  clear hown
  go_wp2_with fail
  refine (equal_walk _ A (n + 4) (n + 4) c cap Z bs w1 HSL.out HN.out (Lies.own HOW.out) (hA.below hb)).mono ?_
  rintro e w' ⟨rfl, rfl⟩
  by_cases h : Z = bs
  · have hd : decide (Z = bs) = true := by simp [h]
    rw [hd]
    go_wp2
    go_ret2
    refine ⟨hb, .inl ⟨HO.out.2 h, g, c, ?_, ?_⟩⟩
    · rw [HN.out]; rfl
    · rw [HN.out, ← h]; exact HOW.out
  · have hd : decide (Z = bs) = false := by simp [h]
    rw [hd]
    go_wp2
    go_ret2
    exact ⟨hb, .inr ⟨fun e => h (HO.out.1 e), rfl⟩⟩

theorem open_walk (A : Option Addr) (cap n : Nat) (bs : List UInt8) (w : World) (hn : bs.length = n) (hm : n ≤ 1099511627776) (hc : n ≤ cap) (hA : Lies w A (cells bs)) (hT : Tab w) :
    Calls Tryd.prog 10 #[.slice A n cap] w (Opened w bs) := by
  by_cases h4 : n < 4
  · have HN := Lib.hid (show ¬ Crc.opens bs from fun h => by have := h.1; omega)
    clear hn
    go_enter Tryd.func10, Tryd.ntmps10
    go_wp2
    go_ret2
    exact ⟨Below.refl _ _, .inr ⟨HN.out, rfl⟩⟩
  · obtain ⟨m, rfl⟩ : ∃ m, n = m + 4 := ⟨n - 4, by omega⟩
    exact open_four A cap m bs w hn hm hc hA hT
end Go.Proofs.YtnhlfmpfbfjohaaDoor
