/-
  CeA: Layer 8: what cell's small functions answer: Right, Room, the parts of a sector, and a number's four bytes. Nothing is assumed.
  CeB: Layer 8: what a sector's sum should be, and the sector that is made of bytes. Assumed: that the bytes lie in memory, and that the program's table holds what its text lays there.
  CeC: Layer 8: what cell.Put and cell.Get answer, of any numbers and bytes. Assumed: that the bytes lie in memory, and that the program's table holds what its text lays there.
-/
import Derived.Test.YtgicjdlpkphfnaaMath8
import Derived.Test.YtgicjdlpkphfnaaSec
import Derived.Test.YtgicjdlpkphfnaaRef2
import Derived.Stop.BytesEq
import Derived.BigRegion

namespace Go.Proofs.Ytgicjdlpkphfnaa
open Go.RowKit
set_option maxRecDepth 100000

/-- where a sector's bytes begin -/
def partAt (g n : Nat) : Addr := ⟨g, if n = 0 then 0 else 1, none⟩
theorem cells_sum4 (n : Nat) (hn : n < 4294967296) : cells (Crc.sumBytes (BitVec.ofNat 32 n)) = [.int .u8 ((n : Int) % 256), .int .u8 ((n : Int) / 256 % 256), .int .u8 ((n : Int) / 65536 % 256), .int .u8 ((n : Int) / 16777216)] := by
  have e0 : (BitVec.ofNat 32 n).toNat = n := by rw [BitVec.toNat_ofNat, Nat.mod_eq_of_lt hn]
  simp only [cells, Crc.sumBytes, List.map_cons, List.map_nil, BitVec.toNat_ushiftRight, Nat.shiftRight_eq_div_pow, e0, UInt8.toNat_ofNat']
  simp only [List.cons.injEq, Value.int.injEq, true_and, and_true]
  omega

theorem Blk.here {w : World} {g : Nat} {cs : Array Value} {t : TypeId} (h : Blk w g cs t) (i : Nat) (hi : i < cs.size) : ∃ v, w.cell? ⟨g, i, none⟩ = some v := ⟨_, (h.cell i).trans (Array.getElem?_eq_getElem hi)⟩
end Go.Proofs.Ytgicjdlpkphfnaa

namespace Go.Proofs.Ytgicjdlpkphfnaa
open Go.RowKit
set_option maxRecDepth 100000

theorem set_take (cs : List Value) (o : Nat) (v : Value) (r : List Value) (h : o + 1 + r.length ≤ cs.length) : (cs.set o v).take (o + 1) ++ r ++ (cs.set o v).drop (o + 1 + r.length) = cs.take o ++ v :: r ++ cs.drop (o + 1 + r.length) := by
  rw [List.drop_set_of_lt (by omega), List.take_succ_eq_append_getElem (by rw [List.length_set]; omega), List.take_set_of_le (Nat.le_refl _), List.getElem_set_self]
  simp
/-- what is stored one behind the other -/
theorem Blk.patch {g : Nat} {t : TypeId} : ∀ (vs : List Value) (o : Nat) {w : World} {cs : List Value}, Blk w g cs.toArray t → o + vs.length ≤ cs.length → Blk (w.setCells g o vs) g (cs.take o ++ vs ++ cs.drop (o + vs.length)).toArray t
  | [], o, w, cs, h, _ => by simpa [World.setCells] using h
  | v :: r, o, w, cs, h, hl => by
    have h1 := h.set o v
    have e : cs.toArray.setIfInBounds o v = (cs.set o v).toArray := by simp
    rw [e] at h1
    have h2 := Blk.patch r (o + 1) h1 (by rw [List.length_set]; simp at hl; omega)
    rw [set_take cs o v r (by simp at hl; omega)] at h2
    have e2 : o + (v :: r).length = o + 1 + r.length := by simp; omega
    rw [e2]
    exact h2
theorem Blk.lieAt {w : World} {g : Nat} {xs : List UInt8} {t : TypeId} (h : Blk w g (cells xs).toArray t) (o : Nat) : Lies w (some ⟨g, o, none⟩) (cells (xs.drop o)) := by
  refine .inr ⟨_, rfl, h.lt, fun j u hu => ?_⟩
  rw [Addr.add_mid, h.cell]
  rw [← cells_drop, List.getElem?_drop] at hu
  simpa using hu
theorem Blk.at_ {w : World} {g : Nat} {xs : List UInt8} {t : TypeId} (h : Blk w g (cells xs).toArray t) (i : Nat) (hi : i < xs.length) : w.cell? ⟨g, i, none⟩ = some (.int .u8 (xs[i].toNat : Int)) := by
  rw [h.cell]; simp [cells, hi]

theorem Blk.below {w w' : World} {g b : Nat} {cs : Array Value} {t : TypeId} (h : Blk w g cs t) (hb : Below b w w') (hs : w.heap.size ≤ b) : Blk w' g cs t := (hb.block g (Nat.lt_of_lt_of_le h.lt hs)).trans h
/-- a sector that is filled up to its sum -/
def Ce.full (bs : List UInt8) : List UInt8 := Ce.body bs ++ [0, 0, 0, 0]
theorem Ce.full_length (bs : List UInt8) (h : bs.length ≤ 59) : (Ce.full bs).length = 64 := by simp [Ce.full, Ce.body_length bs h]
theorem Ce.full_take (bs : List UInt8) (h : bs.length ≤ 59) : (Ce.full bs).take 60 = Ce.body bs := List.take_left' (Ce.body_length bs h)
theorem Ce.full_drop (bs : List UInt8) (h : bs.length ≤ 59) : (Ce.full bs).drop (60 + 4) = [] := List.drop_of_length_le (by rw [Ce.full_length bs h]; omega)
def Ce.begun (n : Nat) : List UInt8 := UInt8.ofNat n :: List.replicate 63 0
theorem Ce.begun_length (n : Nat) : (Ce.begun n).length = 64 := by simp [Ce.begun]
theorem splice_full (bs : List UInt8) (h : bs.length ≤ 59) : splice (cells (Ce.begun bs.length)) 1 (cells bs) = cells (Ce.full bs) := by
  unfold splice Ce.full Ce.body Ce.begun
  rw [cells_length, cells_take, cells_drop, ← cells_append, ← cells_append]
  congr 1
  rw [show 1 + bs.length = bs.length + 1 by omega, List.drop_succ_cons, List.drop_replicate, show 63 - bs.length = (59 - bs.length) + 4 by omega, ← List.replicate_append_replicate]
  simp [List.replicate]

end Go.Proofs.Ytgicjdlpkphfnaa

namespace Go.Proofs.Ytgicjdlpkphfnaa
open Go.RowKit
set_option maxRecDepth 100000

/-- what Get hands back: bytes of its own, or none -/
def GivesG (w : World) (ok : Bool) (b : List UInt8) (e : Ending) (w' : World) : Prop :=
  Below w.heap.size w w' ∧ ((ok = true ∧ ∃ g k, k = b.length ∧ e = .returned (.tuple #[.slice (some (partAt g k)) k k, .bool true]) ∧ w.heap.size ≤ g ∧ Lies w' (some (partAt g k)) (cells b)) ∨ (ok = false ∧ e = .returned (.tuple #[.slice none 0 0, .bool false])))

theorem Blk.liesAll {w : World} {g : Nat} {xs : List UInt8} {t : TypeId} (h : Blk w g (cells xs).toArray t) : Lies w (some ⟨g, 0, none⟩) (cells xs) := by
  have := h.lieAt 0
  rwa [List.drop_zero] at this
theorem min_at (n k r : Nat) (h : min n k = r) (W : World) : (Builtin.min_ #[3, 3] 3 #[.int .i64 (n : Int), .int .i64 (k : Int)]).run Try.prog W = .ok (.int .i64 (r : Int)) W := by
  subst h
  rcases Nat.lt_or_ge k n with h | h
  · have e : min n k = k := by omega
    rw [e]
    have h1 : (k : Int) < (n : Int) := by omega
    simp [Builtin.min_, Builtin.min2, go_sem]
    omega
  · have e : min n k = n := by omega
    rw [e]
    have h1 : ¬ (k : Int) < (n : Int) := by omega
    simp [Builtin.min_, Builtin.min2, go_sem]
    omega

end Go.Proofs.Ytgicjdlpkphfnaa
