/-
  TbP: Layer 9: numbers put as bytes, the lowest first: table.put, at int64 and at int: what it answers, of numbers that are not negative. Assumed: that the numbers lie in memory, and that the bytes lie in memory of one's own.
  TbQ: Layer 9: table.Put: what it answers, of any table. Assumed: that the extents lie in memory, and that the program's table holds what its text lays there.
  TbT: Layer 9: numbers taken from bytes, the lowest first: table.take, at int64 and at int, one number and two. Assumed: that the bytes, and what the numbers are put into, lie in memory.
-/
import Derived.Test.YtgicjdlpkphfnaaTabA

namespace Go.Proofs.Ytgicjdlpkphfnaa
open Go.RowKit
set_option maxRecDepth 100000

def nums9 (ns : List Nat) : List Value := ns.map fun (n : Nat) => Value.int .i64 (n : Int)
/-- a slice does not lie in this memory of one's own -/
def Off9 (v : Value) (A : Option Addr) : Prop := ∀ g ad, v.ownBlock = some g → A = some ad → ad.block ≠ g
theorem Off9.next {v v' : Value} {A : Option Addr} {s : Nat} (h : Off9 v A) (hv : v'.ownBlock = v.ownBlock ∨ v'.ownBlock = some s) (hA : ∀ ad, A = some ad → ad.block < s) : Off9 v' A := fun g ad hg ha => by
  rcases hv with hv | hv
  · exact h g ad (hv ▸ hg) ha
  · rw [hv] at hg
    injection hg with hg
    have := hA ad ha
    omega
theorem Lies.grownOff {w w' : World} {v : Value} {A : Option Addr} {xs : List Value} (h : Lies w A xs) (hg : w.grownBy w' v.ownBlock) (ho : Off9 v A) : Lies w' A xs := by
  rcases h with h | ⟨ad, rfl, hb, hc⟩
  · exact .inl h
  · refine .inr ⟨ad, rfl, Nat.lt_of_lt_of_le hb hg.size, fun j u hu => ?_⟩
    have e : w'.heap[(ad.add j).block]? = w.heap[(ad.add j).block]? := by
      rw [addr_block]
      exact hg.block _ hb fun e => ho _ _ e.symm rfl rfl
    exact (World.cell?_of_block e).trans (hc j u hu)
/-- memory of one's own that has grown: what else there was is as it was -/
def Grew (w : World) (v : Value) (w' : World) (v' : Value) : Prop := w.heap.size ≤ w'.heap.size ∧ (∀ u, u < w.heap.size → v.ownBlock ≠ some u → w'.heap[u]? = w.heap[u]?) ∧ (v'.ownBlock = v.ownBlock ∨ ∃ s, w.heap.size ≤ s ∧ v'.ownBlock = some s)
theorem Grew.refl (w : World) (v : Value) : Grew w v w v := ⟨Nat.le_refl _, fun _ _ _ => rfl, .inl rfl⟩
theorem Grew.alloc {w w' : World} {v v' : Value} (h : Grew w v w' v') (o : Obj) : Grew w v (w'.alloc o) v' := by
  refine ⟨by have := h.1; simp; omega, fun u hu hn => ?_, h.2.2⟩
  rw [heap_alloc_old w' o (Nat.lt_of_lt_of_le hu h.1)]
  exact h.2.1 u hu hn
theorem Grew.step {w w' w2 : World} {v v' v2 : Value} (h : Grew w v w' v') (hg : w'.grownBy w2 v'.ownBlock) (hat : v2.ownBlock = v'.ownBlock ∨ v2.ownBlock = some w'.heap.size) : Grew w v w2 v2 := by
  obtain ⟨h1, h2, h3⟩ := h
  refine ⟨Nat.le_trans h1 hg.size, fun u hu hn => ?_, ?_⟩
  · refine (hg.block u (Nat.lt_of_lt_of_le hu h1) (fun e => ?_)).trans (h2 u hu hn)
    rcases h3 with h3 | ⟨s, hs, h3⟩
    · exact hn (h3 ▸ e.symm)
    · rw [h3] at e; injection e with e; omega
  · rcases hat with hat | hat
    · rw [hat]; exact h3
    · exact .inr ⟨_, h1, hat⟩
theorem Grew.blk {w w' : World} {v v' : Value} (h : Grew w v w' v') {g : Nat} {cs : Array Value} {t : TypeId} (hb : Blk w g cs t) (hn : v.ownBlock ≠ some g) : Blk w' g cs t := (h.2.1 g hb.lt hn).trans hb
theorem Off9.fresh {w : World} {B n : Nat} {e : TypeId} {v : Value} {xs : List Value} (h : w.ownsRow B e 1 v n xs) : Off9 v (some ⟨w.heap.size, 0, none⟩) := fun g ad hg ha => by
  have := (h.lt g hg).2
  injection ha with ha
  subst ha
  show w.heap.size ≠ g
  omega
theorem byte_z (x i : Nat) : (x : Int) / 2 ^ (8 * i) % 256 = ((UInt8.ofNat (x / 256 ^ i)).toNat : Int) := by
  rw [UInt8.toNat_ofNat', show (256 : Nat) ^ i = 2 ^ (8 * i) by rw [Nat.pow_mul]]
  push_cast
  rfl
theorem le_snoc : ∀ (i n : Nat), Tb.le (i + 1) n = Tb.le i n ++ [UInt8.ofNat (n / 256 ^ i)]
  | 0, n => by simp [Tb.le]
  | i + 1, n => by
    rw [Tb.le, le_snoc i, Tb.le, List.cons_append, Nat.div_div_eq_div_mul, show (256 : Nat) ^ (i + 1) = 256 * 256 ^ i by rw [Nat.pow_succ, Nat.mul_comm]]

end Go.Proofs.Ytgicjdlpkphfnaa

namespace Go.Proofs.Ytgicjdlpkphfnaa
open Go.RowKit
set_option maxRecDepth 100000

/-- a table's bytes up to its extents -/
def front (gn n o : Nat) : List UInt8 := Tb.le 4 gn ++ (Tb.le 1 n ++ Tb.le 1 o)
theorem bytes_front (gn n o : Nat) (xs : List Tb.Ext) (hn : xs.length = n) (t : Tb.T) (ht : t = ⟨(gn : Int), (o : Int) - 1, xs⟩) : Tb.bytes t = front gn n o ++ Tb.flatE xs := by
  subst ht
  unfold Tb.bytes front
  have e : ((o : Int) - 1 + 1).toNat = o := by omega
  simp only [Int.toNat_natCast, hn, e, Tb.le, List.append_assoc]
  rfl

end Go.Proofs.Ytgicjdlpkphfnaa

namespace Go.Proofs.Ytgicjdlpkphfnaa
open Go.RowKit
set_option maxRecDepth 100000

theorem or9_i64 (a b : Nat) (ha : a < 4611686018427387904) (hb : b < 4611686018427387904) : bits .or .i64 (a : Int) (b : Int) = ((a ||| b : Nat) : Int) := by
  have hx : a ||| b < 2 ^ 62 := Nat.or_lt_two_pow (by omega) (by omega)
  have e : ∀ c : Nat, c < 4611686018427387904 → (BitVec.ofInt 64 (c : Int)).toNat = c := fun c hc => by
    rw [BitVec.ofInt_natCast, BitVec.toNat_ofNat]; exact Nat.mod_eq_of_lt (by omega)
  show IntKind.i64.wrap ((BitVec.ofInt 64 (a : Int) ||| BitVec.ofInt 64 (b : Int)).toNat : Int) = _
  rw [BitVec.toNat_or, e a ha, e b hb, IntKind.wrap_i64]
  omega
/-- one more byte joins the ones below it -/
theorem join8 (acc c k : Nat) (hk : k < 4) (ha : acc < 256 ^ k) (hc : c < 256) : bits .or .i64 (acc : Int) (wrap64 ((c : Int) * 2 ^ (8 * k))) = ((acc + c * 256 ^ k : Nat) : Int) := by
  have p8 : (2 : Nat) ^ (8 * k) = 256 ^ k := by rw [Nat.pow_mul]
  have e : ((c : Int) * 2 ^ (8 * k)) = ((c * 256 ^ k : Nat) : Int) := by
    rw [← p8, Int.natCast_mul, Int.natCast_pow]; rfl
  have hp : 256 ^ k ≤ 16777216 := by
    have : 256 ^ k ≤ 256 ^ 3 := Nat.pow_le_pow_right (by omega) (by omega)
    omega
  have hcp : c * 256 ^ k ≤ 255 * 16777216 := Nat.mul_le_mul (by omega) hp
  have hj : c * 256 ^ k ||| acc = c * 256 ^ k + acc := by
    have h := Nat.two_pow_add_eq_or_of_lt (i := 8 * k) (b := acc) (by rw [p8]; exact ha) c
    rw [p8, Nat.mul_comm] at h
    exact h.symm
  rw [e, IntWalk.wrap64_in _ (by omega), or9_i64 _ _ (by omega) (by omega), Nat.or_comm, hj, Nat.add_comm]
theorem num_snoc : ∀ (l : List UInt8) (c : UInt8), Tb.num (l ++ [c]) = Tb.num l + c.toNat * 256 ^ l.length
  | [], c => by simp [Tb.num]
  | b :: r, c => by
    rw [List.cons_append, Tb.num, num_snoc r c, Tb.num, List.length_cons, Nat.mul_add, Nat.pow_succ, ← Nat.add_assoc]
    congr 1
    rw [Nat.mul_comm 256, Nat.mul_assoc]

end Go.Proofs.Ytgicjdlpkphfnaa
