/-
  Layer 7's laws: what a hurt turns, and arrays of eight of anything. Nothing is assumed.
-/
import Derived.Test.YtldecmodhppjpaaLw8

namespace Go.Proofs.Ytldecmodhppjpaa.Plain
/-- what turns lies near -/
theorem turn_near (s : List UInt8) (a : Int) (bits m : Nat) (h : (turn s a bits).getD m 0 ≠ s.getD m 0) : a ≤ 8 * m + 7 ∧ 8 * m - 31 ≤ a := by
  rcases Int.lt_or_le a 0 with ha | ha
  · exfalso; apply h; unfold turn; rw [if_pos ha]
  · obtain ⟨p, rfl⟩ := Int.eq_ofNat_of_zero_le ha
    rcases Classical.em (∃ j, j < 32 ∧ (p + j) / 8 = m) with ⟨j, hj, he⟩ | hne
    · omega
    · exfalso
      apply h
      unfold turn
      rw [if_neg (by omega)]
      exact tr_far s p bits m 32 fun j hj he => hne ⟨j, hj, he⟩
/-- is it that sector's hurt? -/
def Dv.mine (d : Dv) (h : Hu) (i : Nat) : Bool := decide (0 ≤ h.which ∧ h.which < d.loose.length ∧ d.loose.getD h.which.toNat 0 = i)
theorem bk_all (d : Dv) (h : d.Ok) (keep : List Bool) (hk : ∀ j, j < d.loose.length → keep.getD j false = true) : d.bk keep d.loose.length = d.sec := funext fun i => boot_all d h keep hk i
/-- one hurt, of what is kept whole -/
theorem boot_place (d : Dv) (h : d.Ok) (keep : List Bool) (hk : ∀ j, j < d.loose.length → keep.getD j false = true) (u : Hu) (i : Nat) : (d.boot keep [u]).sec i = if d.mine u i = true then turn (d.sec i) u.at_ u.bits else d.sec i := by
  show d.hurt1 keep (d.bk keep d.loose.length) u i = _
  rw [bk_all d h keep hk]
  unfold Dv.hurt1 Dv.hits Dv.mine
  by_cases h1 : 0 ≤ u.which ∧ u.which < d.loose.length
  · rw [hk u.which.toNat (by omega), decide_eq_true h1]
    simp only [Bool.and_true, if_true]
    unfold upd
    by_cases h2 : i = d.loose.getD u.which.toNat 0
    · rw [if_pos h2, if_pos (by simpa using ⟨h1.1, h1.2, h2.symm⟩), ← h2]
    · rw [if_neg h2, if_neg (by simpa using fun _ _ h => h2 h.symm)]
  · rw [decide_eq_false h1, if_neg (by simp), if_neg (by simpa using fun h2 h3 => absurd ⟨h2, h3⟩ h1)]
theorem free_loose {d : Dv} (h8 : d.n = 8) (j : Nat) (hj : j < d.loose.length) : [true, true, true, true, true, true, true, true].getD j false = true := by
  have h1 := d.loose_len
  have : j = 0 ∨ j = 1 ∨ j = 2 ∨ j = 3 ∨ j = 4 ∨ j = 5 ∨ j = 6 ∨ j = 7 := by omega
  rcases this with rfl | rfl | rfl | rfl | rfl | rfl | rfl | rfl <;> rfl
end Go.Proofs.Ytldecmodhppjpaa.Plain

namespace Go.Proofs.Ytldecmodhppjpaa
open Go.RowKit
set_option maxRecDepth 100000

/-- eight of anything, by place -/
def RowV (w : World) (q : Nat) (t : TypeId) (V : Nat → Value) : Prop := ∃ cs, Blk w q cs t ∧ cs.size = 8 ∧ ∀ i, i < 8 → cs[i]? = some (V i)
theorem RowV.cell {w : World} {q : Nat} {t : TypeId} {V : Nat → Value} (h : RowV w q t V) {i : Nat} (hi : i < 8) : w.cell? ⟨q, i, none⟩ = some (V i) := by
  obtain ⟨cs, h1, h2, h3⟩ := h
  rw [h1.cell]; exact h3 i hi
theorem RowV.frozen {w : World} {q : Nat} {t : TypeId} {V : Nat → Value} (h : RowV w q t V) (i : Nat) : w.frozen? ⟨q, i, none⟩ = false := by
  obtain ⟨cs, h1, h2, h3⟩ := h
  exact h1.frozen i
theorem RowV.lt {w : World} {q : Nat} {t : TypeId} {V : Nat → Value} (h : RowV w q t V) : q < w.heap.size := by
  obtain ⟨cs, h1, h2, h3⟩ := h
  exact h1.lt
theorem RowV.kept {w w' : World} {q : Nat} {t : TypeId} {V : Nat → Value} {S : List Nat} (h : RowV w q t V) (k : Kept S w w') (hq : q ∉ S) : RowV w' q t V := by
  obtain ⟨cs, h1, h2, h3⟩ := h
  exact ⟨cs, k.blk h1 hq, h2, h3⟩
theorem RowV.below {w w' : World} {q : Nat} {t : TypeId} {V : Nat → Value} (h : RowV w q t V) (k : Below w.heap.size w w') : RowV w' q t V := h.kept (Kept.of k []) (by simp)
theorem RowV.set {w : World} {q : Nat} {t : TypeId} {V : Nat → Value} (h : RowV w q t V) {i : Nat} (hi : i < 8) (v : Value) : RowV (w.setCell ⟨q, i, none⟩ v) q t (Plain.upd V i v) := by
  obtain ⟨cs, h1, h2, h3⟩ := h
  refine ⟨_, h1.set i _, by simpa using h2, fun j hj => ?_⟩
  unfold Plain.upd
  by_cases e : j = i
  · subst e
    rw [if_pos rfl]
    simp [h2, hi]
  · rw [if_neg e, Array.getElem?_setIfInBounds_ne (Ne.symm e)]
    exact h3 j hj
theorem lt8 {i : Nat} (h : i < 8) : i = 0 ∨ i = 1 ∨ i = 2 ∨ i = 3 ∨ i = 4 ∨ i = 5 ∨ i = 6 ∨ i = 7 := by omega

theorem run_index8s (W : World) (q m : Nat) (hm : m < 8) : (Instr.indexAt 52 (.pointer (some ⟨q, 0, none⟩)) (.int .i64 (m : Int))).run Try.prog W = .ok (.pointer (some ⟨q, m, none⟩)) W := by
  have h0 : (0 : Int) ≤ (m : Int) := by omega
  have h1 : (m : Int) < 8 := by omega
  have e : (⟨q, 0, none⟩ : Addr).add m = ⟨q, m, none⟩ := by rw [Addr.add_mid, Nat.zero_add]
  go_simp
theorem run_loadS (W : World) (a : Addr) (s : ByteArray) (h : W.cell? a = some (.string s)) : (Instr.loadAt 9 (.pointer (some a))).run Try.prog W = .ok (.string s) W := by
  go_simp
theorem run_storeS (W : World) (a : Addr) (s o : ByteArray) (h : W.cell? a = some (.string o)) (hf : W.frozen? a = false) : (Instr.storeAt 9 (.pointer (some a)) (.string s)).run Try.prog W = .ok () (W.setCell a (.string s)) := by
  go_simp
theorem str_at (b : List UInt8) (i : Nat) (h : i < b.length) : (str b)[i]? = some (b.getD i 0) := by
  have h1 : i < (str b).size := by rw [str_size]; exact h
  rw [getElem?_pos (str b) i h1]
  congr 1
  simp only [List.getD_eq_getElem?_getD, List.getElem?_eq_getElem h, Option.getD_some]
  rfl
theorem run_idxStr (W : World) (b : List UInt8) (i : Nat) (h : i < b.length) : (Instr.index 9 (.string (str b)) (.int .i64 (i : Int))).run Try.prog W = .ok (.int .u8 ((b.getD i 0).toNat : Int)) W := by
  have h2 : i < (str b).size := by rw [str_size]; exact h
  have h1 : (str b)[i] = b.getD i 0 := by
    have := str_at b i h
    rw [getElem?_pos (str b) i h2] at this
    exact Option.some.inj this
  generalize b.getD i 0 = c at *
  go_simp
theorem soft_idxStr {P : Program} {w : World} {ρ : Operand → Value} {o : Oper} {x y : Operand} {t : TypeId} {vx vy u : Value} (hx : ρ x = vx) (hy : ρ y = vy) (hr : (Instr.index t vx vy).run P w = .ok u w) (ho : o.op = .index t x y) : softUpon P w (Fact.is u) ((execOp ρ o).run P w) := by
  have e : (execOp ρ o).run P w = .ok (.value u) w := by
    simp [execOp, ho, hx, hy, hr]
  rw [e]
  exact ⟨rfl, Below.refl _ _⟩
theorem ne_texts (W : World) (s t : ByteArray) (b : Bool) (h : (s.toList == t.toList) = !b) : (binOp .neq 9 (.string s) (.string t)).run Try.prog W = .ok (.bool b) W := by
  rw [binOp_string_neq, h]
  simp
theorem ne_int (W : World) (a b : Int) (r : Bool) (h : (a != b) = r) : (binOp .neq 3 (.int .i64 a) (.int .i64 b)).run Try.prog W = .ok (.bool r) W := by
  subst h; go_simp
theorem eq_int (W : World) (a b : Int) (r : Bool) (h : (a == b) = r) : (binOp .eql 3 (.int .i64 a) (.int .i64 b)).run Try.prog W = .ok (.bool r) W := by
  subst h; go_simp
theorem lss_int (W : World) (a b : Int) (r : Bool) (h : decide (a < b) = r) : (binOp .lss 3 (.int .i64 a) (.int .i64 b)).run Try.prog W = .ok (.bool r) W := by
  subst h; go_simp
theorem gtr_int (W : World) (a b : Int) (r : Bool) (h : decide (b < a) = r) : (binOp .gtr 3 (.int .i64 a) (.int .i64 b)).run Try.prog W = .ok (.bool r) W := by
  subst h; go_simp
theorem ne_u8 (W : World) (a b : UInt8) (r : Bool) (h : (a != b) = r) : (binOp .neq 5 (.int .u8 (a.toNat : Int)) (.int .u8 (b.toNat : Int))).run Try.prog W = .ok (.bool r) W := by
  have e : ((a.toNat : Int) != (b.toNat : Int)) = r := by
    rw [← h]
    by_cases hab : a = b
    · subst hab; simp
    · have : a.toNat ≠ b.toNat := fun hh => hab (UInt8.toNat_inj.1 hh)
      rw [bne_iff_ne (a := a) (b := b) |>.2 hab]
      simp; omega
  subst e; go_simp
theorem mul_int (W : World) (a b : Int) (h : -9223372036854775808 ≤ a * b ∧ a * b ≤ 9223372036854775807) : (binOp .mul 3 (.int .i64 a) (.int .i64 b)).run Try.prog W = .ok (.int .i64 (a * b)) W := by
  have e : IntKind.i64.wrap (a * b) = a * b := by rw [IntKind.wrap_i64]; omega
  go_simp
theorem add_int (W : World) (a b : Int) (h : -9223372036854775808 ≤ a + b ∧ a + b ≤ 9223372036854775807) : (binOp .add 3 (.int .i64 a) (.int .i64 b)).run Try.prog W = .ok (.int .i64 (a + b)) W := by
  have e : IntKind.i64.wrap (a + b) = a + b := by rw [IntKind.wrap_i64]; omega
  go_simp
theorem sub_int (W : World) (a b : Int) (h : -9223372036854775808 ≤ a - b ∧ a - b ≤ 9223372036854775807) : (binOp .sub 3 (.int .i64 a) (.int .i64 b)).run Try.prog W = .ok (.int .i64 (a - b)) W := by
  have e : IntKind.i64.wrap (a - b) = a - b := by rw [IntKind.wrap_i64]; omega
  go_simp
end Go.Proofs.Ytldecmodhppjpaa
