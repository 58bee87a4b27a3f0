/-
  Layer 7's live question: its answer is yes. Nothing is assumed.
-/
import Derived.Test.YtehnhjnkbclnlaaGreatDoorLwA
import Derived.Test.YtehnhjnkbclnlaaGreatDoorDvW

namespace Go.Proofs.YtehnhjnkbclnlaaGreatDoor.Plain
def q0 : Dv := Dv.new 4
def q1 : Dv := (q0.write 1 (full 7)).1
def q2 : Dv := q1.flush.1
def q3 : Dv := (q2.write 1 (full 8)).1
def q4 : Dv := (q3.write 3 (full 9)).1
def q5 : Dv := q4.cutAt 0
def q6 : Dv := (q5.write 2 (full 1)).1
def q7 : Dv := q6.boot [false, true] [⟨1, 510, 7⟩]
def y7 : List UInt8 := full 9 |>.set 63 201
theorem q_err0 : (q0.write 1 (full 7)).2 = 0 := by decide +kernel
theorem q_err1 : q1.flush.2 = 0 := by decide +kernel
theorem q_loose : q4.loose = [1, 3] := by decide +kernel
theorem q_err5 : (q5.write 2 (full 1)).2 = 71 := by decide +kernel
theorem q_down : q6.down = true := by decide +kernel
theorem q_read1 : q7.read 1 = (full 7, 0) := by decide +kernel
theorem q_read3 : q7.read 3 = (y7, 0) := by decide +kernel
theorem q_err7 : (q7.write 0 []).2 = 1 ∧ q7.has 0 = true := by decide +kernel
theorem q_done : q0.done = 0 ∧ q1.done = 1 ∧ q2.done = 2 ∧ q3.done = 3 ∧ q4.done = 4 ∧ q5.done = 4 ∧ q7.done = 4 := by decide +kernel
theorem q_rest : q7.n = 4 ∧ q7.down = false := by decide +kernel
theorem y7_at : y7.length = 64 ∧ y7[62]? = some 9 ∧ y7[63]? = some 201 := by decide +kernel
end Go.Proofs.YtehnhjnkbclnlaaGreatDoor.Plain

namespace Go.Proofs.YtehnhjnkbclnlaaGreatDoor
open Go.RowKit
set_option maxRecDepth 100000

/-- memory of its own is no device's -/
theorem IsDev.apart {w : World} {g b : Nat} {d : Plain.Dv} {cs : Array Value} {t : TypeId} (h : IsDev w g d) (hb : Blk w b cs t) (h1 : t ≠ 69) (h2 : t ≠ 60) : b ∉ [g, g + 1, g + 2] := by
  intro hm
  simp only [List.mem_cons, List.not_mem_nil, or_false] at hm
  unfold Blk at hb
  rcases hm with rfl | rfl | rfl
  · obtain ⟨cs', h3, -⟩ := h.kept
    unfold Blk at h3
    rw [h3] at hb
    injection hb with hb
    injection hb with _ hb
    exact h1 hb.symm
  · obtain ⟨es, clock, h3, -⟩ := h.map
    rw [h3] at hb
    injection hb with hb
    cases hb
  · have h3 := h.box
    unfold Blk at h3
    rw [h3] at hb
    injection hb with hb
    injection hb with _ hb
    exact h2 hb.symm
theorem write_full (w : World) (g : Nat) (d : Plain.Dv) (i : Int) (b : Nat) (c : UInt8) (hb : Blk w b (cells (Plain.full c)).toArray 5) (hdone : d.done < 4611686018427387904) (h : IsDev w g d) :
    Calls Tryz.prog 14 #[.pointer (some ⟨g + 2, 0, none⟩), .int .i64 i, .slice (some ⟨b, 0, none⟩) 64 64] w fun e w' => e = .returned (.int .i64 ((d.write i (Plain.full c)).2 : Int)) ∧ IsDev w' g (d.write i (Plain.full c)).1 ∧ Kept [g + 1, g + 2] w w' := by
  have hl := hb.lies
  rw [List.toList_toArray] at hl
  refine write_any w g d i _ 64 64 (Plain.full c) (Plain.full_length c) hl (.inr fun ad e => ?_) hdone h
  injection e with e
  subst e
  exact h.apart hb (by decide) (by decide)
theorem Kept.belowB {S : List Nat} {B : Nat} {a b c : World} (h : Kept S b c) (hb : Below B a b) (hB : B ≤ b.heap.size) (hS : ∀ k ∈ S, B ≤ k) : Below B a c :=
  hb.trans ⟨h.os, h.tape, h.output, h.size, fun i hi => h.block i (by omega) fun hm => by have := hS i hm; omega⟩
/-- what is handed out reads as text -/
theorem GivesB.text {w w' : World} {bs : List UInt8} {er : Nat} {e : Ending} (h : GivesB w bs er e w') : ∃ A cap, e = .returned (.tuple #[.slice A bs.length cap, .int .i64 (er : Int)]) ∧ Lies w' A (cells bs) ∧ Below w.heap.size w w' := by
  obtain ⟨A, cap, he, h1, h2, h3, h4⟩ := h
  refine ⟨A, cap, he, ?_, h4⟩
  by_cases hn : bs = []
  · subst hn; exact Lies.nil
  · obtain ⟨b, t, cs, rfl, h5, h6, h7⟩ := h3 hn
    have := h6.lies.take bs.length
    rwa [h7] at this
theorem conv_lies {w : World} {A : Option Addr} {bs : List UInt8} {n c : Nat} (h : Lies w A (cells bs)) (hn : bs.length = n) : (convert 32 9 (.slice A n c)).run Tryz.prog w = .ok (.string (str bs)) w := by
  subst hn
  exact conv_str h 32 5 Tryz.underlying32 Tryz.underlying5 9 Tryz.underlying9
theorem str_beq (s : ByteArray) : (s.toList == s.toList) = true := by simp

theorem eq_text (W : World) (s : ByteArray) : (binOp .eql 9 (.string s) (.string s)).run Tryz.prog W = .ok (.bool true) W := by
  have h := str_beq s
  go_simp
theorem run_idxU8 (W : World) (ad : Addr) (n cap k : Nat) (hk : k < n) : (Instr.indexAt 32 (.slice (some ad) n cap) (.int .i64 (k : Int))).run Tryz.prog W = .ok (.pointer (some (ad.add k))) W := by
  go_simp
theorem run_loadU8 (W : World) (a : Addr) (z : Int) (h : W.cell? a = some (.int .u8 z)) : (Instr.loadAt 5 (.pointer (some a))).run Tryz.prog W = .ok (.int .u8 z) W := by
  go_simp
theorem soft_ints2 {w : World} {ρ : Operand → Value} {o : Oper} {a b : Nat} (hc : ∀ v, ρ (.const v) = v) (ho : o.op = .buildSlice 51 2 #[(0, .const (.int .i64 (a : Int))), (1, .const (.int .i64 (b : Int)))]) :
    softUpon Tryz.prog w (Fact.lie 2 (nums [a, b])) ((execOp ρ o).run Tryz.prog w) := by
  have e : (execOp ρ o).run Tryz.prog w = .ok (.value (.slice (some ⟨w.heap.size, 0, none⟩) 2 2)) (w.alloc (.cells #[.int .i64 (a : Int), .int .i64 (b : Int)] 3)) := by
    simp [execOp, ho, hc, go_sem]
  rw [e]
  exact ⟨⟨_, _, rfl, (Blk.new w #[.int .i64 (a : Int), .int .i64 (b : Int)] 3).lies⟩, (Below.refl _ _).alloc (Nat.le_refl _) _⟩
theorem soft_same7 {w : World} {ρ : Operand → Value} {o : Oper} {x y : Operand} {ats : Array TypeId} {A : Option Addr} {n m ca : Nat} {a b : List Nat} {r : Bool} (hf : ∀ f, ρ (.func f) = .func (.func f) #[] #[]) (hx : ρ x = .slice A n ca) (hy : (Fact.lie m (nums b)).φ (ρ y) w)
    (hn : a.length = n) (hm : b.length = m) (hs : n ≤ 1000000 ∧ m ≤ 1000000) (hA : Lies w A (nums a)) (ho : o.op = .call { callee := .value (.func 21), args := #[x, y], argTypes := ats }) (hr : decide (a = b) = r) :
    softUpon Tryz.prog w (Fact.is (.bool r)) ((execOp ρ o).run Tryz.prog w) := by
  obtain ⟨B, c, e, hB⟩ := hy
  exact soft_call2 hf hx e (sameInts_any A B n m ca c a b r hr w hn hm hs.1 hs.2 hA hB) ho (by kernel_rfl) below_is
theorem soft_convL {w : World} {ρ : Operand → Value} {o : Oper} {x : Operand} {n : Nat} {bs : List UInt8} (h : (Fact.lie n (cells bs)).φ (ρ x) w) (hn : bs.length = n) (ho : o.op = .convert 32 9 x) : softUpon Tryz.prog w (Fact.is (.string (str bs))) ((execOp ρ o).run Tryz.prog w) := by
  obtain ⟨A, c, e, hA⟩ := h
  exact soft_conv e (conv_lies hA hn) ho

end Go.Proofs.YtehnhjnkbclnlaaGreatDoor

