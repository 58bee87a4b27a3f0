/-
  Layer 2: the laws' live question (turntablelaw02.head) answers true, and turns nothing that was there. Assumed: that the program's table holds what its text lays there.
-/
import Derived.Test.YtnhlfmpfbfjohaaDoorC2Open
import Derived.Test.YtnhlfmpfbfjohaaDoorSoftV
import Derived.Lib.SmallJoins
namespace Go.Proofs.YtnhlfmpfbfjohaaDoor
open Go.RowKit

theorem Tab.alloc {w : World} (h : Tab w) (o : Obj) : Tab (w.alloc o) := h.below ((Below.refl w.heap.size w).alloc (Nat.le_refl _) o) (Nat.le_refl _)
/-- Seal, once more, with the answer's form -/
theorem seal_is (A : Option Addr) (cap n : Nat) (bs : List UInt8) (w : World) (hn : bs.length = n) (hm : n ≤ 1099511627776) (hA : Lies w A (cells bs)) (hT : Tab w) :
    Calls Tryd.prog 16 #[.slice A n cap] w fun e w' => ∃ g c, e = .returned (.slice (some ⟨g, 0, none⟩) (n + 4) c) ∧ n + 4 ≤ c ∧ c ≤ maxLen ∧ w'.ownsRow w.heap.size 5 1 (.slice (some ⟨g, 0, none⟩) (n + 4) c) (n + 4) (cells (Crc.sealed bs)) ∧ Below w.heap.size w w' := by
  subst hn
  refine (seal_walk A cap bs w hm hA hT).mono ?_
  rintro e w' ⟨v, rfl, ho, hb⟩
  rw [Crc.sealed_length] at ho
  rcases ho.2 with ⟨_, h0⟩ | ⟨g, c, cur, rfl, _, _, h2, h3, _⟩
  · omega
  · exact ⟨g, c, rfl, h2, h3, ho, hb⟩
theorem of_is (A : Option Addr) (cap n : Nat) (bs : List UInt8) (x : Int) (w : World) (hn : bs.length = n) (hm : n ≤ 1099511627776) (hx : ((Crc.of bs).toNat : Int) = x) (hA : Lies w A (cells bs)) (hT : Tab w) :
    Calls Tryd.prog 12 #[.slice A n cap] w fun e w' => e = .returned (.int .u32 x) ∧ w = w' := by
  subst hn hx
  exact of_walk A cap bs w (by unfold maxLen; omega) hA hT
theorem more_is (s : Nat) (hs : s < 4294967296) (A : Option Addr) (cap n : Nat) (bs : List UInt8) (x : Int) (w : World) (hn : bs.length = n) (hm : n ≤ 1099511627776) (hx : ((Crc.more (BitVec.ofNat 32 s) bs).toNat : Int) = x) (hA : Lies w A (cells bs)) (hT : Tab w) :
    Calls Tryd.prog 14 #[.int .u32 (s : Int), .slice A n cap] w fun e w' => e = .returned (.int .u32 x) ∧ w = w' := by
  subst hn hx
  exact more_walk s hs A cap bs w (by unfold maxLen; omega) hA hT
/-- a sum as a number -/
theorem ofNat_of (x : BitVec 32) : BitVec.ofNat 32 x.toNat = x := by rw [BitVec.ofNat_toNat, BitVec.setWidth_eq]
theorem open_yes (A : Option Addr) (cap n : Nat) (bs : List UInt8) (w : World) (hn : bs.length = n + 4) (hm : n + 4 ≤ 1099511627776) (hc : n + 4 ≤ cap) (hA : Lies w A (cells bs)) (hT : Tab w) (ho : Crc.opens bs) :
    Calls Tryd.prog 10 #[.slice A (n + 4) cap] w fun e w' => ∃ g c, e = .returned (.tuple #[.slice (some ⟨g, 0, none⟩) n n, .bool true]) ∧ w'.ownsRow w.heap.size 5 1 (.slice (some ⟨g, 0, none⟩) (n + 4) c) (n + 4) (cells bs) ∧ Below w.heap.size w w' := by
  refine (open_four A cap n bs w hn hm hc hA hT).mono ?_
  rintro e w' ⟨hb, h⟩
  rcases h with ⟨_, g, c, rfl, hw⟩ | ⟨h, _⟩
  · rw [hn] at hw
    exact ⟨g, c, by rw [hn, Nat.add_sub_cancel], hw, hb⟩
  · exact absurd ho h
theorem open_no (A : Option Addr) (cap n : Nat) (bs : List UInt8) (w : World) (hn : bs.length = n) (hm : n ≤ 1099511627776) (hc : n ≤ cap) (hA : Lies w A (cells bs)) (hT : Tab w) (ho : ¬ Crc.opens bs) :
    Calls Tryd.prog 10 #[.slice A n cap] w fun e w' => e = .returned (.tuple #[.slice none 0 0, .bool false]) ∧ Below w.heap.size w w' := by
  refine (open_walk A cap n bs w hn hm hc hA hT).mono ?_
  rintro e w' ⟨hb, h⟩
  rcases h with ⟨h, _⟩ | ⟨_, rfl⟩
  · exact absurd h ho
  · exact ⟨rfl, hb⟩

theorem lies_lit (w : World) (cs : Array Value) (fr : Nat × Nat) (bs : List UInt8) (h : cells bs = cs.toList) : Lies (w.alloc (.cells cs 5 fr)) (some ⟨w.heap.size, 0, none⟩) (cells bs) := by
  rw [h]; exact .inr ⟨_, rfl, by simp, World.news_of_block (heap_alloc_new w _)⟩
theorem conv_own {w : World} {g n c B : Nat} {bs : List UInt8} (h : w.ownsRow B 5 1 (.slice (some ⟨g, 0, none⟩) n c) n (cells bs)) : (convert 23 9 (.slice (some ⟨g, 0, none⟩) n c)).run Tryd.prog w = .ok (.string (str bs)) w :=
  own_str h _ Tryd.underlying23 Tryd.underlying5 _ Tryd.underlying9
/-- string(x), x what Open handed back -/
theorem conv_open {w : World} {g n c B : Nat} {bs : List UInt8} (h : w.ownsRow B 5 1 (.slice (some ⟨g, 0, none⟩) (n + 4) c) (n + 4) (cells bs)) : (convert 23 9 (.slice (some ⟨g, 0, none⟩) n n)).run Tryd.prog w = .ok (.string (str (bs.take n))) w :=
  conv_take (Lies.own h) n n (by have := h.1; rw [cells_length] at this; omega)

/-- make([]byte, n) -/
theorem make_bytes (u : World) (n : Nat) (h : n ≤ 1099511627776) : (Instr.makeSlice 23 (.int .i64 (n : Int)) (.int .i64 (n : Int))).run Tryd.prog u =
      .ok (.slice (some ⟨u.heap.size, 0, none⟩) n n) (u.alloc (.cells (List.replicate n (.int .u8 0)).toArray 5)) := by
  obtain ⟨i0, hi, hz0, hz1, hz2⟩ := info_parts infoU8
  have h := run_make (P := Tryd.prog) u 23 5 i0 (.int .u8 0) Tryd.underlying23 hi hz0 .i64 .i64 (n : Int) (n : Int) (by omega) (by omega) (by rw [hz2]; omega) (by omega)
  rw [Int.toNat_natCast] at h
  rw [← toList_madeCells_one]
  simpa [hz1, Value.cells] using h
def digits : List UInt8 := [49, 50, 51, 52, 53, 54, 55, 56, 57]

set_option maxRecDepth 100000 in
theorem head_any (w : World) (hT : Tab w) : Calls Tryd.prog 9 #[] w fun e w' => e = .returned (.bool true) ∧ Below w.heap.size w w' := by
  have E1 := Lib.hid (show Crc.sealed digits = [49, 50, 51, 52, 53, 54, 55, 56, 57, 131, 146, 6, 227] by decide +kernel)
  have HT := Lib.hid hT
  clear hT
  have cs := fun (W : World) (C : Array Value) (n c : Nat) => Lib.run_convert_bytes_const (P := Tryd.prog) W 23 5 C n c Tryd.underlying23 Tryd.underlying5
  go_enter Tryd.func9, Tryd.ntmps9
  go_wp2_with fail
  refine (seal_is _ _ 9 digits _ rfl (by omega) (lies_lit _ _ _ _ rfl) (HT.out.alloc _)).mono ?_
  rintro e w1 ⟨g1, c1, rfl, hc1, hc1m, ho1, b1⟩
  have b1w : Below w.heap.size w w1 := ((Below.refl _ _).alloc (Nat.le_refl _) _).trans (b1.mono (by simp))
  have T1 := Lib.hid (HT.out.below b1w (Nat.le_refl _))
  have HO1 := Lib.hid ho1
  clear ho1 b1
  go_wp2_with fail
  refine (open_yes _ _ 9 (Crc.sealed digits) _ (Crc.sealed_length _) (by omega) hc1 (Lies.own HO1.out) T1.out (Crc.opens_sealed _).1).mono ?_
  rintro e w2 ⟨g2, c2, rfl, ho2, b2⟩
  have T2 := Lib.hid (T1.out.below b2 (Nat.le_refl _))
  have HO2 := Lib.hid ho2
  clear ho2
  go_wp2_with fail
  refine (open_no _ _ 3 [0, 0, 0] _ rfl (by omega) (by omega) (lies_lit _ _ _ _ rfl) (T2.out.alloc _) (by decide +kernel)).mono ?_
  rintro e w3 ⟨rfl, b3⟩
  have b3w : Below w2.heap.size w2 w3 := ((Below.refl _ _).alloc (Nat.le_refl _) _).trans (b3.mono (by simp))
  have T3 := Lib.hid (T2.out.below b3w (Nat.le_refl _))
  clear b3
  go_wp2_with fail
  refine (open_no _ _ 4 [1, 0, 0, 0] _ rfl (by omega) (by omega) (lies_lit _ _ _ _ rfl) (T3.out.alloc _) (by decide +kernel)).mono ?_
  rintro e w4 ⟨rfl, b4⟩
  have b4w : Below w3.heap.size w3 w4 := ((Below.refl _ _).alloc (Nat.le_refl _) _).trans (b4.mono (by simp))
  have T4 := Lib.hid (T3.out.below b4w (Nat.le_refl _))
  clear b4
  have hmk : (Instr.makeSlice 23 (.int .i64 4) (.int .i64 4)).run Tryd.prog w4 = .ok (.slice (some ⟨w4.heap.size, 0, none⟩) 4 4) (w4.alloc (.cells #[.int .u8 0, .int .u8 0, .int .u8 0, .int .u8 0] 5)) := make_bytes w4 4 (by omega)
  go_wp2_with fail
  refine (open_yes _ _ 0 [0, 0, 0, 0] _ rfl (by omega) (by omega) (lies_lit _ _ _ _ rfl) (T4.out.alloc _) (by decide +kernel)).mono ?_
  rintro e w5 ⟨g5, c5, rfl, ho5, b5⟩
  have b5w : Below w4.heap.size w4 w5 := ((Below.refl _ _).alloc (Nat.le_refl _) _).trans (b5.mono (by simp))
  have T5 := Lib.hid (T4.out.below b5w (Nat.le_refl _))
  clear b5 ho5
  go_wp2_with fail
  refine (of_is _ _ 9 digits 3808858755 _ rfl (by omega) (by decide +kernel) (lies_lit _ _ _ _ rfl) (T5.out.alloc _)).mono ?_
  rintro e w6 ⟨rfl, hw6⟩
  have b6 : Below w5.heap.size w5 w6 := hw6 ▸ ((Below.refl _ _).alloc (Nat.le_refl _) _)
  clear hw6
  have s1 := b2.size; have s2 := b3w.size; have s3 := b4w.size; have s4 := b5w.size
  have b26 : Below w2.heap.size w2 w6 := b3w.trans ((b4w.mono s2).trans ((b5w.mono (by omega)).trans (b6.mono (by omega))))
  have b16 : Below w1.heap.size w1 w6 := b2.trans (b26.mono s1)
  have hv1 : (convert 23 9 (.slice (some ⟨g1, 0, none⟩) 13 c1)).run Tryd.prog w6 = .ok (.string ⟨#[49, 50, 51, 52, 53, 54, 55, 56, 57, 131, 146, 6, 227]⟩) w6 := by
    have := conv_own (own_keep HO1.out b16)
    rw [E1.out] at this
    exact this
  have hv2 : (convert 23 9 (.slice (some ⟨g2, 0, none⟩) 9 9)).run Tryd.prog w6 = .ok (.string ⟨#[49, 50, 51, 52, 53, 54, 55, 56, 57]⟩) w6 := by
    have := conv_open (n := 9) (own_keep HO2.out b26)
    rw [E1.out] at this
    exact this
  have HM := Lib.hid (more_walk 7 (by omega) none 0 [] w6 (by unfold maxLen; simp) Lies.nil (T5.out.below b6 (Nat.le_refl _)))
  rw [show ((Crc.more (BitVec.ofNat 32 7) []).toNat : Int) = 7 from by rw [Crc.more_nil]; rfl] at HM
  have HB := Lib.hid (b1w.trans (b16.mono b1w.size))
  clear b1w b2 b3w b4w b5w b6 s1 s2 s3 s4 b26 b16 hmk hc1m
  go_wp2_with fail
  refine HM.out.mono ?_
  rintro e w' ⟨rfl, rfl⟩
  go_wp2
  go_ret
  exact ⟨rfl, HB.out⟩
end Go.Proofs.YtnhlfmpfbfjohaaDoor
