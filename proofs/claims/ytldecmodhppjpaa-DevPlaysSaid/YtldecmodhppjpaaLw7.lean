/-
  Layer 7's laws: calls that write and flush, a device that is not to be cut, and what their statements lean on. Nothing is assumed.
-/
import Derived.Test.YtldecmodhppjpaaOpD

namespace Go.Proofs.Ytldecmodhppjpaa.Plain
/-- a device that is not to be cut -/
structure Free (d : Dv) : Prop where
  ok : d.Ok
  cut : d.cut = false
  down : d.down = false
theorem Free.new (n : Nat) (h1 : 1 ≤ n) (h2 : n ≤ 4096) : Free (Dv.new n) := ⟨Dv.new_ok n h1 h2, rfl, rfl⟩
theorem Free.begin {d : Dv} (h : Free d) : d.begin = ({ d with done := d.done + 1 }, 0) := by
  unfold Dv.begin
  rw [if_neg (by simp [h.down]), if_neg (by simp [h.cut])]
  simp [h.cut]
theorem Free.flush {d : Dv} (h : Free d) : d.flush = ({ d with done := d.done + 1, kept := d.sec, wr := fun _ => none }, 0) := by
  unfold Dv.flush
  rw [h.begin, if_neg (by simp)]
theorem Free.write {d : Dv} (h : Free d) (i : Nat) (b : List UInt8) (hi : i < d.n) (hb : b.length = 64) : d.write i b = ({ d with done := d.done + 1, wr := upd d.wr i (some b) }, 0) := by
  unfold Dv.write
  rw [if_neg, h.begin, if_neg (by simp)]
  · rfl
  · rintro (h1 | h1)
    · rw [(d.has_iff i).2 (by omega)] at h1; cases h1
    · exact h1 hb
theorem Free.flush_free {d : Dv} (h : Free d) : Free d.flush.1 := by
  have := d.flush_ok h.ok
  rw [h.flush] at this ⊢
  exact ⟨this, h.cut, h.down⟩
theorem Free.write_free {d : Dv} (h : Free d) (i : Nat) (b : List UInt8) (hi : i < d.n) (hb : b.length = 64) : Free (d.write i b).1 := by
  have := d.write_ok h.ok i b
  rw [h.write i b hi hb] at this ⊢
  exact ⟨this, h.cut, h.down⟩
theorem Free.read {d : Dv} (h : Free d) (i : Nat) (hi : i < d.n) : d.read i = (d.sec i, 0) := by
  unfold Dv.read
  rw [if_neg, if_neg]
  · rfl
  · simp [h.down]
  · rw [(d.has_iff i).2 (by omega)]; simp
theorem Free.boot {d : Dv} (h : Free d) (keep : List Bool) (hurt : List Hu) : Free (d.boot keep hurt) := ⟨d.boot_ok h.ok keep hurt, rfl, rfl⟩
theorem sec_write {d : Dv} (h : Free d) (i : Nat) (b : List UInt8) (hi : i < d.n) (hb : b.length = 64) (j : Nat) : (d.write i b).1.sec j = if j = i then b else d.sec j := by
  rw [h.write i b hi hb]
  unfold Dv.sec upd
  simp only
  split <;> rfl
theorem sec_flush {d : Dv} (h : Free d) (j : Nat) : d.flush.1.sec j = d.sec j := by
  rw [h.flush]
  rfl
theorem mod8 (a : Int) : ∃ i : Nat, a % 8 = (i : Int) ∧ i < 8 := by
  obtain ⟨i, hi⟩ := Int.eq_ofNat_of_zero_le (Int.emod_nonneg a (by omega : (8 : Int) ≠ 0))
  exact ⟨i, hi, by have := Int.emod_lt_of_pos a (by omega : (0 : Int) < 8); omega⟩
/-- calls that write somewhere -/
structure Free8 (d : Dv) (k : Nat) : Prop where
  free : Free d
  n : d.n = 8
  done : d.done ≤ k
theorem Free8.new : Free8 (Dv.new 8) 0 := ⟨Free.new 8 (by omega) (by omega), rfl, Nat.le_refl _⟩
theorem Free8.flush {d : Dv} {k : Nat} (h : Free8 d k) : Free8 d.flush.1 (k + 1) := ⟨h.free.flush_free, (d.flush_n).trans h.n, Nat.le_trans d.flush_done (by have := h.done; omega)⟩
theorem Free8.write {d : Dv} {k : Nat} (h : Free8 d k) (a : Int) (b : List UInt8) (hb : b.length = 64) : Free8 (d.write (a % 8) b).1 (k + 1) ∧ (d.write (a % 8) b).2 = 0 := by
  obtain ⟨i, hi, hi8⟩ := mod8 a
  rw [hi]
  exact ⟨⟨h.free.write_free i b (by rw [h.n]; exact hi8) hb, (d.write_n _ _).trans h.n, Nat.le_trans (d.write_done _ _) (by have := h.done; omega)⟩, by rw [h.free.write i b (by rw [h.n]; exact hi8) hb]⟩
end Go.Proofs.Ytldecmodhppjpaa.Plain

namespace Go.Proofs.Ytldecmodhppjpaa
open Go.RowKit
set_option maxRecDepth 100000

/-- one call of those that came in, as most laws make it -/
def stepW (d : Plain.Dv) (x : Oq) : Plain.Dv := if x.what = 4 then d.flush.1 else (d.write (x.at_ % 8) (Plain.full x.c)).1
def runW (l : List Oq) (k : Nat) : Plain.Dv := (l.take k).foldl stepW (Plain.Dv.new 8)
theorem runW_succ (l : List Oq) (k : Nat) (hk : k < l.length) : runW l (k + 1) = stepW (runW l k) l[k] := by
  unfold runW
  rw [List.take_succ_eq_append_getElem hk, List.foldl_append]
  rfl
theorem runW_free (l : List Oq) : ∀ k, k ≤ l.length → Plain.Free8 (runW l k) k
  | 0, _ => Plain.Free8.new
  | k + 1, h => by
    have ih := runW_free l k (by omega)
    rw [runW_succ l k (by omega)]
    unfold stepW
    split
    · exact ih.flush
    · exact (ih.write _ _ (Plain.full_length _)).1

theorem and7 (W : World) (a : Int) : (binOp .and 3 (.int .i64 a) (.int .i64 7)).run Try.prog W = .ok (.int .i64 (a % 8)) W := by
  have key : bits .and .i64 a 7 = a % 8 := by
    show IntKind.i64.wrap ((BitVec.ofInt 64 a &&& BitVec.ofInt 64 7).toNat : Int) = a % 8
    have h7 : (BitVec.ofInt 64 7).toNat = 2 ^ 3 - 1 := by decide
    rw [BitVec.toNat_and, h7, Nat.and_two_pow_sub_one_eq_mod, IntKind.wrap_i64, BitVec.toNat_ofInt]
    omega
  go_simp
theorem run_loadI (W : World) (a : Addr) (z : Int) (h : W.cell? a = some (.int .i64 z)) : (Instr.loadAt 3 (.pointer (some a))).run Try.prog W = .ok (.int .i64 z) W := by
  go_simp
/-- a sector of one byte that was just made -/
def Fact.fl (c : UInt8) : Fact := ⟨fun v w => ∃ b, v = .slice (some ⟨b, 0, none⟩) 64 64 ∧ Blk w b (cells (Plain.full c)).toArray 5, fun _ _ _ ⟨b, e, h⟩ hb => ⟨b, e, (Kept.of hb []).blk h (by simp)⟩⟩
theorem soft_fl {w : World} {ρ : Operand → Value} {o : Oper} {x : Operand} {ats : Array TypeId} {c : UInt8} (hf : ∀ f, ρ (.func f) = .func (.func f) #[] #[]) (hx : ρ x = .int .u8 (c.toNat : Int)) (ho : o.op = .call { callee := .value (.func 23), args := #[x], argTypes := ats }) :
    softUpon Try.prog w (Fact.fl c) ((execOp ρ o).run Try.prog w) := by
  refine soft_call1 hf hx (full_any c w) ho (by kernel_rfl) ?_
  rintro e w' ⟨b, rfl, h1, h2, h3⟩
  exact ⟨_, rfl, ⟨b, rfl, h2⟩, h3⟩
/-- a sector of one byte is written, last of all -/
theorem late_write {W W0 : World} {a : Act} {o : Oper} {x y z : Operand} {ats : Array TypeId} {K : Act → World → Prop} {Q : Exit → Act → World → Prop} {g : Nat} {d : Plain.Dv} {i : Int} {c : UInt8}
    (ho : o.op = .call { callee := .value (.func 13), args := #[x, y, z], argTypes := ats }) (hx : a.eval x = .pointer (some ⟨g + 2, 0, none⟩)) (hy : a.eval y = .int .i64 i) (hz : (Fact.fl c).φ (a.eval z) W) (hW : Below W0.heap.size W0 W) (hdone : d.done < 4611686018427387904) (h : IsDev W0 g d)
    (hK : ∀ w', IsDev w' g (d.write i (Plain.full c)).1 → Kept [g + 1, g + 2] W0 w' → K (a.put o.dst (.int .i64 ((d.write i (Plain.full c)).2 : Int))) w') : o.wp Try.prog a W K Q := by
  obtain ⟨b, e, hb⟩ := hz
  refine late_call3 ho hx hy e (by kernel_rfl) (write_full W g d i b c hb hdone (h.below hW)) ?_
  rintro e w' ⟨rfl, h1, h2⟩
  exact ⟨_, rfl, hK w' h1 ((Kept.of hW _).trans h2)⟩
end Go.Proofs.Ytldecmodhppjpaa
