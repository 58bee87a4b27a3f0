/-
  TbU: Layer 9: table.told: the table that bytes would be of. Assumed: that the bytes lie in memory.
  TbG: Layer 9: bytes.Equal, and table.Get: what it answers, of any bytes. Assumed: that the bytes lie in memory, and that the program's table holds what its text lays there.
-/
import Derived.Test.YtgicjdlpkphfnaaTabP

namespace Go.Proofs.Ytgicjdlpkphfnaa
open Go.RowKit
set_option maxRecDepth 100000

theorem flatX_set (q l : Int) : ∀ (xs : List Tb.Ext) (i : Nat), i < xs.length → ((flatX xs).set (i * 2) (.int .i64 q)).set (i * 2 + 1) (.int .i64 l) = flatX (xs.set i ⟨q, l⟩)
  | [], _, h => by simp at h
  | x :: xs, 0, _ => rfl
  | x :: xs, i + 1, h => by
    have ih := flatX_set q l xs i (by simpa using h)
    have e : flatX (x :: xs) = .int .i64 x.q :: .int .i64 x.l :: flatX xs := rfl
    have e2 : flatX ((x :: xs).set (i + 1) ⟨q, l⟩) = .int .i64 x.q :: .int .i64 x.l :: flatX (xs.set i ⟨q, l⟩) := rfl
    rw [e, e2, ← ih, show (i + 1) * 2 = i * 2 + 1 + 1 by omega]
    rfl
/-- the first ones filled -/
def filled (f : Nat → Tb.Ext) (i n : Nat) : List Tb.Ext := (List.range n).map fun j => if j < i then f j else ⟨0, 0⟩
theorem filled_length (f : Nat → Tb.Ext) (i n : Nat) : (filled f i n).length = n := by simp [filled]
theorem filled_zero (f : Nat → Tb.Ext) (n : Nat) : filled f 0 n = List.replicate n ⟨0, 0⟩ := by
  unfold filled
  apply List.ext_getElem
  · simp
  · intro j h1 h2
    simp
theorem filled_all (f : Nat → Tb.Ext) (n : Nat) : filled f n n = (List.range n).map f := by
  unfold filled
  apply List.map_congr_left
  intro j hj
  rw [if_pos (List.mem_range.1 hj)]
theorem filled_set (f : Nat → Tb.Ext) (i n : Nat) : (filled f i n).set i (f i) = filled f (i + 1) n := by
  unfold filled
  apply List.ext_getElem
  · simp
  · intro j h1 h2
    rw [List.getElem_set]
    simp only [List.getElem_map, List.getElem_range]
    by_cases h : i = j
    · subst h; simp
    · rw [if_neg h]
      by_cases h3 : j < i
      · rw [if_pos h3, if_pos (by omega)]
      · rw [if_neg h3, if_neg (by omega)]
theorem infoEx : (Try.prog.info? 44).map (fun i => (i.zero, i.size, i.bytes)) = some (some (.agg #[.int .i64 0, .int .i64 0]), 2, 16) := by kernel_rfl
theorem made_exts (n : Nat) (hn : n ≤ 8) : madeCells #[.int .i64 0, .int .i64 0] (n * 2) = (flatX (List.replicate n ⟨0, 0⟩)).toArray := by
  obtain rfl | rfl | rfl | rfl | rfl | rfl | rfl | rfl | rfl : n = 0 ∨ n = 1 ∨ n = 2 ∨ n = 3 ∨ n = 4 ∨ n = 5 ∨ n = 6 ∨ n = 7 ∨ n = 8 := by omega
  all_goals kernel_rfl
theorem make_exts (w : World) (n : Nat) (hn : n ≤ 8) : (Instr.makeSlice 29 (.int .i64 (n : Int)) (.int .i64 (n : Int))).run Try.prog w = .ok (.slice (some ⟨w.heap.size, 0, none⟩) n n) (w.alloc (.cells (flatX (List.replicate n ⟨0, 0⟩)).toArray 44)) := by
  obtain ⟨i0, hi, hz0, hz1, hz2⟩ := info_parts infoEx
  have h := run_make (P := Try.prog) w 29 44 i0 (.agg #[.int .i64 0, .int .i64 0]) Try.underlying29 hi hz0 .i64 .i64 (n : Int) (n : Int) (by omega) (by omega) (by rw [hz2]; omega) (by omega)
  rw [Int.toNat_natCast] at h
  rw [← made_exts n hn]
  simpa [hz1, Value.cells] using h
theorem num_one (bs : List UInt8) (k : Nat) (hk : k < bs.length) : Tb.num ((bs.drop k).take 1) = (bs.getD k 0).toNat := by
  rw [List.drop_eq_getElem_cons hk, List.take_succ_cons, List.take_zero, Tb.num, Tb.num, List.getD_eq_getElem?_getD, List.getElem?_eq_getElem hk]
  rfl
theorem Blk.stored3 {W : World} {s : Nat} {a b c : Value} {t : TypeId} (h : Blk W s #[a, b, c] t) (x y z : Value) : Blk (((W.setCell ⟨s, 0, none⟩ x).setCell ⟨s, 1, none⟩ y).setCell ⟨s, 2, none⟩ z) s #[x, y, z] t := ((h.set 0 x).set 1 y).set 2 z
theorem Blk.three {W : World} {s : Nat} {a b c : Value} {t : TypeId} (h : Blk W s #[a, b, c] t) : W.cell? ⟨s, 0, none⟩ = some a ∧ W.cell? ⟨s, 1, none⟩ = some b ∧ W.cell? ⟨s, 2, none⟩ = some c := ⟨h.cell 0, h.cell 1, h.cell 2⟩
theorem Kept.stored3 {W W0 : World} {S : List Nat} (h : Kept S W0 W) {s : Nat} (hs : s ∈ S) (x y z : Value) : Kept S W0 (((W.setCell ⟨s, 0, none⟩ x).setCell ⟨s, 1, none⟩ y).setCell ⟨s, 2, none⟩ z) := ((h.setCell (p := ⟨s, 0, none⟩) hs x).setCell (p := ⟨s, 1, none⟩) hs y).setCell (p := ⟨s, 2, none⟩) hs z
def toldIs (bs : List UInt8) : Tb.T := if (bs.getD 4 0).toNat ≤ 8 then Tb.toldT bs else Tb.T.zero

end Go.Proofs.Ytgicjdlpkphfnaa

namespace Go.Proofs.Ytgicjdlpkphfnaa
open Go.RowKit
set_option maxRecDepth 100000

theorem okIs {s : List UInt8} (hs : s.length = 64) : decide (Tb.put (toldIs (s.drop 1)) = s) = Tb.ok s ∧ (Tb.ok s = true → toldIs (s.drop 1) = Tb.got s) := by
  have h1 : Tb.ok s = true → toldIs (s.drop 1) = Tb.told s := fun h => by
    unfold toldIs Tb.told
    rw [if_pos (Tb.ok_many h)]
  refine ⟨?_, fun h => by unfold Tb.got; rw [if_pos h, h1 h]⟩
  rw [Bool.eq_iff_iff, decide_eq_true_eq]
  constructor
  · intro h
    by_cases h8 : ((s.drop 1).getD 4 0).toNat ≤ 8
    · have e : toldIs (s.drop 1) = Tb.told s := by unfold toldIs Tb.told; rw [if_pos h8]
      rw [e] at h
      exact Tb.ok_iff.2 ⟨hs, h⟩
    · have e : toldIs (s.drop 1) = Tb.T.zero := by unfold toldIs; rw [if_neg h8]
      rw [e, Tb.put_no Tb.zero_wrong] at h
      rw [← h] at hs; cases hs
  · intro h
    rw [h1 h]
    exact (Tb.ok_iff.1 h).2

/-- what Get hands back: the table, or a zero one -/
def Gives9B (w : World) (s : List UInt8) (e : Ending) (w' : World) : Prop :=
  ∃ A m c, e = .returned (.tuple #[tabV (Tb.got s).gen (Tb.got s).opn A m c, .bool (Tb.ok s)]) ∧ (Tb.got s).xs.length = m ∧ m ≤ c ∧ Lies w' A (flatX (Tb.got s).xs) ∧ Below w.heap.size w w'
/-- .. in memory that was made meanwhile -/
def Gives9A (w : World) (s : List UInt8) (e : Ending) (w' : World) : Prop :=
  ∃ A m c, e = .returned (.tuple #[tabV (Tb.got s).gen (Tb.got s).opn A m c, .bool (Tb.ok s)]) ∧ (Tb.got s).xs.length = m ∧ m ≤ c ∧ Lies w' A (flatX (Tb.got s).xs) ∧ Below w.heap.size w w' ∧ ∀ ad, A = some ad → w.heap.size ≤ ad.block
theorem Gives9A.weak {w : World} {s : List UInt8} {e : Ending} {w' : World} (h : Gives9A w s e w') : Gives9B w s e w' := by
  obtain ⟨A, m, c, h1, h2, h3, h4, h5, -⟩ := h
  exact ⟨A, m, c, h1, h2, h3, h4, h5⟩

end Go.Proofs.Ytgicjdlpkphfnaa
