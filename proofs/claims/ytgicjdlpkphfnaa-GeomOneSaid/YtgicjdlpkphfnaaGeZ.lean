/-
  Layer 17, the developers' geom: Right, Size, First, Room, Budget, Blank: what they answer, of any use. Nothing is assumed.
-/
import Derived.Test.YtgicjdlpkphfnaaGeC
import Derived.Test.YtgicjdlpkphfnaaGeS
import Derived.Test.YtgicjdlpkphfnaaSoftL
import Derived.BigQuiet
import Derived.BigRegion
import Derived.Deep.CutRange

namespace Go.Proofs.Ytgicjdlpkphfnaa
open Go.ChangeShapes Go.WideShapes Go.ChangeAt Go.RowKit Go.Maps
set_option maxRecDepth 100000

theorem late_put17 {P : Program} {W w' : World} {a : Act} {o : Oper} {x y : Operand} {t : TypeId} {K : Act → World → Prop} {Q : Exit → Act → World → Prop} (ho : o.op = .store t x y) (hr : (Instr.storeAt t (a.eval x) (a.eval y)).run P W = .ok () w') (hK : K (a.put o.dst undef) w') : o.wp P a W K Q := by
  unfold Oper.wp
  simp [execOp, ho, hr, Result.andThen]
  exact hK
theorem soft_min17 {w : World} {ρ : Operand → Value} {o : Oper} {x y : Operand} {ats : Array TypeId} {a b c : Int} (hx : ρ x = .int .i64 a) (hy : ρ y = .int .i64 b) (hab : min a b = c) (ho : o.op = .call { callee := .builtin .min, args := #[x, y], argTypes := ats }) : softUpon Try.prog w (Fact.is (.int .i64 c)) ((execOp ρ o).run Try.prog w) := by
  subst hab
  have e : (execOp ρ o).run Try.prog w = .ok (.value (.int .i64 (min a b))) w := by
    simp only [execOp, ho, resolve, invoke, builtin, Sem.run_bind, Sem.run_pure, Result.andThen_ok, List.map_toArray, List.map_cons, List.map_nil, hx, hy, Lib.run_min_ints]
  rw [e]
  exact ⟨rfl, Below.refl _ _⟩
/-- a block that was just made -/
def Fact.blkAt17 (B : Nat) (cs : Array Value) (t : TypeId) : Fact := ⟨fun v w => ∃ g, v = .pointer (some ⟨g, 0, none⟩) ∧ B ≤ g ∧ Blk w g cs t, fun _ _ _ ⟨g, e, hB, h⟩ hb => ⟨g, e, hB, (hb.block g h.lt).trans h⟩⟩
theorem soft_alloc9 {w : World} {ρ : Operand → Value} {o : Oper} {B : Nat} (hB : B ≤ w.heap.size) (ho : o.op = .alloc 42) : softUpon Try.prog w (Fact.blkAt17 B #[.int .i64 0, .int .i64 0, .int .i64 0, .int .i64 0, .int .i64 0, .int .i64 0, .int .i64 0, .int .i64 0, .int .i64 0] 42) ((execOp ρ o).run Try.prog w) := by
  have e : (execOp ρ o).run Try.prog w = .ok (.value (.pointer (some ⟨w.heap.size, 0, none⟩))) (w.alloc (.cells #[.int .i64 0, .int .i64 0, .int .i64 0, .int .i64 0, .int .i64 0, .int .i64 0, .int .i64 0, .int .i64 0, .int .i64 0] 42)) := by
    simp [execOp, ho]
    go_simp
  rw [e]
  exact ⟨⟨_, rfl, hB, Blk.new _ _ _⟩, (Below.refl _ _).alloc (Nat.le_refl _) _⟩
theorem soft_build3 {w : World} {ρ : Operand → Value} {o : Oper} {x y z : Operand} {a b c : Int} (hx : ρ x = .int .i64 a) (hy : ρ y = .int .i64 b) (hz : ρ z = .int .i64 c) (ho : o.op = .build 40 #[(0, x), (1, y), (2, z)]) : softUpon Try.prog w (Fact.is (.agg #[.int .i64 a, .int .i64 b, .int .i64 c])) ((execOp ρ o).run Try.prog w) := by
  have e : (execOp ρ o).run Try.prog w = .ok (.value (.agg #[.int .i64 a, .int .i64 b, .int .i64 c])) w := by
    simp [execOp, ho, hx, hy, hz]
    go_simp
  rw [e]
  exact ⟨rfl, Below.refl _ _⟩
theorem soft_build9 {w : World} {ρ : Operand → Value} {o : Oper} {x y z : Operand} {a b c d e f p q r : Int} (hx : ρ x = .agg #[.int .i64 a, .int .i64 b, .int .i64 c]) (hy : ρ y = .agg #[.int .i64 d, .int .i64 e, .int .i64 f]) (hz : ρ z = .agg #[.int .i64 p, .int .i64 q, .int .i64 r]) (ho : o.op = .build 42 #[(0, x), (1, y), (2, z)]) : softUpon Try.prog w (Fact.is (.agg #[.int .i64 a, .int .i64 b, .int .i64 c, .int .i64 d, .int .i64 e, .int .i64 f, .int .i64 p, .int .i64 q, .int .i64 r])) ((execOp ρ o).run Try.prog w) := by
  have e : (execOp ρ o).run Try.prog w = .ok (.value (.agg #[.int .i64 a, .int .i64 b, .int .i64 c, .int .i64 d, .int .i64 e, .int .i64 f, .int .i64 p, .int .i64 q, .int .i64 r])) w := by
    simp [execOp, ho, hx, hy, hz]
    go_simp
  rw [e]
  exact ⟨rfl, Below.refl _ _⟩
/-- nine cells of a block -/
theorem Blk.nine {W : World} {k : Nat} {v0 v1 v2 v3 v4 v5 v6 v7 v8 : Value} {t : TypeId} (h : Blk W k #[v0, v1, v2, v3, v4, v5, v6, v7, v8] t) :
    W.cell? ⟨k, 0, none⟩ = some v0 ∧ W.cell? ⟨k, 1, none⟩ = some v1 ∧ W.cell? ⟨k, 2, none⟩ = some v2 ∧ W.cell? ⟨k, 3, none⟩ = some v3 ∧ W.cell? ⟨k, 4, none⟩ = some v4 ∧ W.cell? ⟨k, 5, none⟩ = some v5 ∧ W.cell? ⟨k, 6, none⟩ = some v6 ∧ W.cell? ⟨k, 7, none⟩ = some v7 ∧ W.cell? ⟨k, 8, none⟩ = some v8 :=
  ⟨h.cell 0, h.cell 1, h.cell 2, h.cell 3, h.cell 4, h.cell 5, h.cell 6, h.cell 7, h.cell 8⟩
/-- an array of nine is stored whole -/
theorem run_store9 (W : World) (k : Nat) (u0 u1 u2 u3 u4 u5 u6 u7 u8 v0 v1 v2 v3 v4 v5 v6 v7 v8 : Int) (t : TypeId) (h : Blk W k #[.int .i64 u0, .int .i64 u1, .int .i64 u2, .int .i64 u3, .int .i64 u4, .int .i64 u5, .int .i64 u6, .int .i64 u7, .int .i64 u8] t) :
    ∃ W', (Instr.storeAt 42 (.pointer (some ⟨k, 0, none⟩)) (.agg #[.int .i64 v0, .int .i64 v1, .int .i64 v2, .int .i64 v3, .int .i64 v4, .int .i64 v5, .int .i64 v6, .int .i64 v7, .int .i64 v8])).run Try.prog W = .ok () W' ∧
      Blk W' k #[.int .i64 v0, .int .i64 v1, .int .i64 v2, .int .i64 v3, .int .i64 v4, .int .i64 v5, .int .i64 v6, .int .i64 v7, .int .i64 v8] t ∧ Kept [k] W W' := by
  obtain ⟨q0, q1, q2, q3, q4, q5, q6, q7, q8⟩ := h.nine
  have f0 := h.frozen 0
  have f1 := h.frozen 1
  have f2 := h.frozen 2
  have f3 := h.frozen 3
  have f4 := h.frozen 4
  have f5 := h.frozen 5
  have f6 := h.frozen 6
  have f7 := h.frozen 7
  have f8 := h.frozen 8
  refine ⟨(((((((((W.setCell ⟨k, 0, none⟩ (.int .i64 v0)).setCell ⟨k, 1, none⟩ (.int .i64 v1)).setCell ⟨k, 2, none⟩ (.int .i64 v2)).setCell ⟨k, 3, none⟩ (.int .i64 v3)).setCell ⟨k, 4, none⟩ (.int .i64 v4)).setCell ⟨k, 5, none⟩ (.int .i64 v5)).setCell ⟨k, 6, none⟩ (.int .i64 v6)).setCell ⟨k, 7, none⟩ (.int .i64 v7)).setCell ⟨k, 8, none⟩ (.int .i64 v8)), ?_, ?_, ?_⟩
  · go_simp
  · have := (((((((((h.set 0 (.int .i64 v0)).set 1 (.int .i64 v1)).set 2 (.int .i64 v2)).set 3 (.int .i64 v3)).set 4 (.int .i64 v4)).set 5 (.int .i64 v5)).set 6 (.int .i64 v6)).set 7 (.int .i64 v7)).set 8 (.int .i64 v8))
    simpa using this
  · exact ((((((((((Kept.refl [k] W).setCell (p := ⟨k, 0, none⟩) (by simp) _).setCell (p := ⟨k, 1, none⟩) (by simp) _).setCell (p := ⟨k, 2, none⟩) (by simp) _).setCell (p := ⟨k, 3, none⟩) (by simp) _).setCell (p := ⟨k, 4, none⟩) (by simp) _).setCell (p := ⟨k, 5, none⟩) (by simp) _).setCell (p := ⟨k, 6, none⟩) (by simp) _).setCell (p := ⟨k, 7, none⟩) (by simp) _).setCell (p := ⟨k, 8, none⟩) (by simp) _)
theorem run_load9 (W : World) (k : Nat) (v0 v1 v2 v3 v4 v5 v6 v7 v8 : Int) (t : TypeId) (h : Blk W k #[.int .i64 v0, .int .i64 v1, .int .i64 v2, .int .i64 v3, .int .i64 v4, .int .i64 v5, .int .i64 v6, .int .i64 v7, .int .i64 v8] t) :
    (Instr.loadAt 42 (.pointer (some ⟨k, 0, none⟩))).run Try.prog W = .ok (.agg #[.int .i64 v0, .int .i64 v1, .int .i64 v2, .int .i64 v3, .int .i64 v4, .int .i64 v5, .int .i64 v6, .int .i64 v7, .int .i64 v8]) W := by
  obtain ⟨q0, q1, q2, q3, q4, q5, q6, q7, q8⟩ := h.nine
  go_simp
theorem index9_0 (W : World) (v0 v1 v2 v3 v4 v5 v6 v7 v8 : Int) : (Instr.index 42 (.agg #[.int .i64 v0, .int .i64 v1, .int .i64 v2, .int .i64 v3, .int .i64 v4, .int .i64 v5, .int .i64 v6, .int .i64 v7, .int .i64 v8]) (.int .i64 0)).run Try.prog W = .ok (.agg #[.int .i64 v0, .int .i64 v1, .int .i64 v2]) W := by
  kernel_rfl
theorem index9_1 (W : World) (v0 v1 v2 v3 v4 v5 v6 v7 v8 : Int) : (Instr.index 42 (.agg #[.int .i64 v0, .int .i64 v1, .int .i64 v2, .int .i64 v3, .int .i64 v4, .int .i64 v5, .int .i64 v6, .int .i64 v7, .int .i64 v8]) (.int .i64 1)).run Try.prog W = .ok (.agg #[.int .i64 v3, .int .i64 v4, .int .i64 v5]) W := by
  kernel_rfl
theorem index9_2 (W : World) (v0 v1 v2 v3 v4 v5 v6 v7 v8 : Int) : (Instr.index 42 (.agg #[.int .i64 v0, .int .i64 v1, .int .i64 v2, .int .i64 v3, .int .i64 v4, .int .i64 v5, .int .i64 v6, .int .i64 v7, .int .i64 v8]) (.int .i64 2)).run Try.prog W = .ok (.agg #[.int .i64 v6, .int .i64 v7, .int .i64 v8]) W := by
  kernel_rfl
theorem right_min (g : Ge.G) : Ge.right g = decide (4 ≤ g.E ∧ g.E ≤ 8 ∧ 1 ≤ g.S ∧ g.S ≤ 64 ∧ 64 ≤ g.M ∧ g.M ≤ min (Ge.tapeRoom g.S) 3600) := by
  rw [Ge.right_tape]
  apply decide_eq_decide.2
  omega

set_option maxHeartbeats 4000000 in
theorem right17_any (g : Ge.G) (w : World) : Calls Try.prog 9 #[.agg #[.int .i64 g.E, .int .i64 g.S, .int .i64 g.M]] w fun e w' => e = .returned (.bool (Ge.right g)) ∧ Below w.heap.size w w' := by
  have hb := Blk.new w #[.int .i64 g.E, .int .i64 g.S, .int .i64 g.M] 23
  have hbd : Below w.heap.size w (w.alloc (.cells #[.int .i64 g.E, .int .i64 g.S, .int .i64 g.M] 23)) := (Below.refl _ _).alloc (Nat.le_refl _) _
  have hsz : (w.alloc (.cells #[.int .i64 g.E, .int .i64 g.S, .int .i64 g.M] 23)).heap.size = w.heap.size + 1 := by simp
  obtain ⟨wa, hwa⟩ : ∃ wa, w.alloc (.cells #[.int .i64 g.E, .int .i64 g.S, .int .i64 g.M] 23) = wa := ⟨_, rfl⟩
  rw [hwa] at hb hbd hsz
  have HW := Lib.hid hwa
  have HB := Lib.hid hb
  have HBD := Lib.hid hbd
  have HSZ := Lib.hid hsz
  have HL0 := Lib.hid (fun (W : World) (hW : Below wa.heap.size wa W) => show (Instr.loadAt 3 (.pointer (some ⟨w.heap.size, 0, none⟩))).run Try.prog W = .ok (.int .i64 g.E) W by
    have c := (hb.below hW (Nat.le_refl _)).cell 0
    have c : W.cell? ⟨w.heap.size, 0, none⟩ = some (.int .i64 g.E) := c
    go_simp)
  have HL1 := Lib.hid (fun (W : World) (hW : Below wa.heap.size wa W) => show (Instr.loadAt 3 (.pointer (some ⟨w.heap.size, 1, none⟩))).run Try.prog W = .ok (.int .i64 g.S) W by
    have c := (hb.below hW (Nat.le_refl _)).cell 1
    have c : W.cell? ⟨w.heap.size, 1, none⟩ = some (.int .i64 g.S) := c
    go_simp)
  have HL2 := Lib.hid (fun (W : World) (hW : Below wa.heap.size wa W) => show (Instr.loadAt 3 (.pointer (some ⟨w.heap.size, 2, none⟩))).run Try.prog W = .ok (.int .i64 g.M) W by
    have c := (hb.below hW (Nat.le_refl _)).cell 2
    have c : W.cell? ⟨w.heap.size, 2, none⟩ = some (.int .i64 g.M) := c
    go_simp)
  have HRM := Lib.hid (fun (W : World) => (room11_any g.S W).mono fun e w' h => (⟨h.1, h.2.symm⟩ : e = .returned (.int .i64 (Ge.tapeRoom g.S)) ∧ W = w'))
  have hT := right_min g
  obtain ⟨MM, hMM⟩ : ∃ m, min (Ge.tapeRoom g.S) 3600 = m := ⟨_, rfl⟩
  rw [hMM] at hT
  have HMM := Lib.hid hMM
  have HT := Lib.hid hT
  clear hT hMM hb hbd hsz hwa
  go_enter Try.func9, Try.ntmps9
  go_wp2_with fail
  rw [HW.out]
  have HI1 := Lib.hid (fun (W : World) (h : Below wa.drew.heap.size wa.drew W) => show Below wa.heap.size wa W from (Below.refl _ _).drew.trans (h.mono (by simp)))
  have HI2 := Lib.hid (fun (W : World) (h : Below wa.drew.heap.size wa.drew W) => show w.heap.size + 1 ≤ W.heap.size by have := (HI1.out W h).size; have := HSZ.out; omega)
  refine wp_late (by kernel_rfl) 37 [(6, [1]), (7, [6]), (8, [7]), (9, [1]), (10, [9]), (11, [10]), (12, [1]), (13, [12]), (14, [1]), (15, [14]), (16, [15]), (17, [16]), (18, [13, 17]), (19, [8, 11, 18]), (3, []), (1015, [3, 19])]
    [Fact.is (.pointer (some ⟨w.heap.size, 0, none⟩)), Fact.is (.int .i64 g.E), Fact.is (.agg #[.int .i64 g.E, .int .i64 4, .int .i64 8]), Fact.is (.pointer (some ⟨w.heap.size, 1, none⟩)), Fact.is (.int .i64 g.S), Fact.is (.agg #[.int .i64 g.S, .int .i64 1, .int .i64 64]), Fact.is (.pointer (some ⟨w.heap.size, 2, none⟩)), Fact.is (.int .i64 g.M), Fact.is (.pointer (some ⟨w.heap.size, 1, none⟩)), Fact.is (.int .i64 g.S), Fact.is (.int .i64 (Ge.tapeRoom g.S)), Fact.is (.int .i64 MM), Fact.is (.agg #[.int .i64 g.M, .int .i64 64, .int .i64 MM]), Fact.is (.agg #[.int .i64 g.E, .int .i64 4, .int .i64 8, .int .i64 g.S, .int .i64 1, .int .i64 64, .int .i64 g.M, .int .i64 64, .int .i64 MM]), Fact.blkAt17 (w.heap.size + 1) #[.int .i64 0, .int .i64 0, .int .i64 0, .int .i64 0, .int .i64 0, .int .i64 0, .int .i64 0, .int .i64 0, .int .i64 0] 42, default]
    [1, 1, 1, 1, 1, 1, 1, 1, 1, 1, 1, 1, 1, 1, 1, 2] [15] [3] [6, 7, 8, 9, 10, 11, 12, 13, 14, 15, 16, 17, 18, 19, 3] ((fun p vs w' => p = 1 → ∃ k, vs.getD 0 undef = .pointer (some ⟨k, 0, none⟩) ∧ w.heap.size + 1 ≤ k ∧ Blk w' k #[.int .i64 g.E, .int .i64 4, .int .i64 8, .int .i64 g.S, .int .i64 1, .int .i64 64, .int .i64 g.M, .int .i64 64, .int .i64 MM] 42 ∧ Below w.heap.size w w'))
    (by kernel_rfl) (by kernel_rfl) rfl rfl ⟨?s0, ?s1, ?s2, ?s3, ?s4, ?s5, ?s6, ?s7, ?s8, ?s9, ?s10, ?s11, ?s12, ?s13, ?s14, trivial⟩ ?late ?fin
  case s0 =>
    intro ρ W hb hc hf hr
    obtain ⟨r1, -⟩ := hr
    have e1 : ρ (.tmp 1) = .pointer (some ⟨w.heap.size, 0, none⟩) := r1
    clear r1
    refine under_none rfl ?_
    exact soft_field e1 rfl (fun W => by go_simp)
  case s1 =>
    intro ρ W hb hc hf hr
    obtain ⟨r6, -⟩ := hr
    have e6 : ρ (.tmp 6) = .pointer (some ⟨w.heap.size, 0, none⟩) := r6
    clear r6
    refine under_none rfl ?_
    exact soft_load e6 (HL0.out W (HI1.out W hb)) rfl
  case s2 =>
    intro ρ W hb hc hf hr
    obtain ⟨r7, -⟩ := hr
    have e7 : ρ (.tmp 7) = .int .i64 g.E := r7
    clear r7
    refine under_none rfl ?_
    exact soft_build3 e7 (hc _) (hc _) rfl
  case s3 =>
    intro ρ W hb hc hf hr
    obtain ⟨r1, -⟩ := hr
    have e1 : ρ (.tmp 1) = .pointer (some ⟨w.heap.size, 0, none⟩) := r1
    clear r1
    refine under_none rfl ?_
    exact soft_field e1 rfl (fun W => by go_simp)
  case s4 =>
    intro ρ W hb hc hf hr
    obtain ⟨r9, -⟩ := hr
    have e9 : ρ (.tmp 9) = .pointer (some ⟨w.heap.size, 1, none⟩) := r9
    clear r9
    refine under_none rfl ?_
    exact soft_load e9 (HL1.out W (HI1.out W hb)) rfl
  case s5 =>
    intro ρ W hb hc hf hr
    obtain ⟨r10, -⟩ := hr
    have e10 : ρ (.tmp 10) = .int .i64 g.S := r10
    clear r10
    refine under_none rfl ?_
    exact soft_build3 e10 (hc _) (hc _) rfl
  case s6 =>
    intro ρ W hb hc hf hr
    obtain ⟨r1, -⟩ := hr
    have e1 : ρ (.tmp 1) = .pointer (some ⟨w.heap.size, 0, none⟩) := r1
    clear r1
    refine under_none rfl ?_
    exact soft_field e1 rfl (fun W => by go_simp)
  case s7 =>
    intro ρ W hb hc hf hr
    obtain ⟨r12, -⟩ := hr
    have e12 : ρ (.tmp 12) = .pointer (some ⟨w.heap.size, 2, none⟩) := r12
    clear r12
    refine under_none rfl ?_
    exact soft_load e12 (HL2.out W (HI1.out W hb)) rfl
  case s8 =>
    intro ρ W hb hc hf hr
    obtain ⟨r1, -⟩ := hr
    have e1 : ρ (.tmp 1) = .pointer (some ⟨w.heap.size, 0, none⟩) := r1
    clear r1
    refine under_none rfl ?_
    exact soft_field e1 rfl (fun W => by go_simp)
  case s9 =>
    intro ρ W hb hc hf hr
    obtain ⟨r14, -⟩ := hr
    have e14 : ρ (.tmp 14) = .pointer (some ⟨w.heap.size, 1, none⟩) := r14
    clear r14
    refine under_none rfl ?_
    exact soft_load e14 (HL1.out W (HI1.out W hb)) rfl
  case s10 =>
    intro ρ W hb hc hf hr
    obtain ⟨r15, -⟩ := hr
    have e15 : ρ (.tmp 15) = .int .i64 g.S := r15
    clear r15
    refine under_none rfl ?_
    exact soft_call1 hf e15 (HRM.out W) rfl (by kernel_rfl) same_is
  case s11 =>
    intro ρ W hb hc hf hr
    obtain ⟨r16, -⟩ := hr
    have e16 : ρ (.tmp 16) = .int .i64 (Ge.tapeRoom g.S) := r16
    clear r16
    refine under_none rfl ?_
    exact soft_min17 e16 (hc _) HMM.out rfl
  case s12 =>
    intro ρ W hb hc hf hr
    obtain ⟨r13, r17, -⟩ := hr
    have e13 : ρ (.tmp 13) = .int .i64 g.M := r13
    clear r13
    have e17 : ρ (.tmp 17) = .int .i64 MM := r17
    clear r17
    refine under_none rfl ?_
    exact soft_build3 e13 (hc _) e17 rfl
  case s13 =>
    intro ρ W hb hc hf hr
    obtain ⟨r8, r11, r18, -⟩ := hr
    have e8 : ρ (.tmp 8) = .agg #[.int .i64 g.E, .int .i64 4, .int .i64 8] := r8
    clear r8
    have e11 : ρ (.tmp 11) = .agg #[.int .i64 g.S, .int .i64 1, .int .i64 64] := r11
    clear r11
    have e18 : ρ (.tmp 18) = .agg #[.int .i64 g.M, .int .i64 64, .int .i64 MM] := r18
    clear r18
    refine under_none rfl ?_
    exact soft_build9 e8 e11 e18 rfl
  case s14 =>
    intro ρ W hb hc hf hr
    clear hr
    refine under_none rfl ?_
    exact soft_alloc9 (HI2.out W hb) rfl
  case late =>
    intro p j o hj ho a W hsz h0 h1 hfr hou
    match p, hj with
    | 0, hj =>
      obtain rfl : 15 = j := Option.some.inj hj
      obtain rfl := Option.some.inj ho
      clear hj ho
      obtain ⟨hb, hhard⟩ := h0 rfl
      have r3 : (Fact.blkAt17 (w.heap.size + 1) #[.int .i64 0, .int .i64 0, .int .i64 0, .int .i64 0, .int .i64 0, .int .i64 0, .int .i64 0, .int .i64 0, .int .i64 0] 42).φ (a.tmps.getD 3 undef) W := hhard 3 14 rfl rfl
      have e19 : a.eval (.tmp 19) = .agg #[.int .i64 g.E, .int .i64 4, .int .i64 8, .int .i64 g.S, .int .i64 1, .int .i64 64, .int .i64 g.M, .int .i64 64, .int .i64 MM] := hhard 19 13 rfl rfl
      clear h0 h1 hhard hfr hou
      obtain ⟨k, e3, hBk, hblk⟩ := r3
      have e3' : a.eval (.tmp 3) = .pointer (some ⟨k, 0, none⟩) := e3
      obtain ⟨W', hst, hb', hk'⟩ := run_store9 W k _ _ _ _ _ _ _ _ _ g.E 4 8 g.S 1 64 g.M 64 MM _ hblk
      refine late_put17 (x := .tmp 3) (y := .tmp 19) (w' := W') rfl (by rw [e3', e19]; exact hst) ⟨undef, rfl, fun _ => ⟨k, ?_, hBk, hb', ?_⟩⟩
      · simpa [Act.put, Array.getD_eq_getD_getElem?, hsz] using e3
      · have h1 := HBD.out.trans ((HI1.out W hb).mono HBD.out.size)
        exact Kept.below h1 hk' (by simp; omega)
    | q + 1, hj => cases hj
  case fin =>
    intro a w3 ha hP
    obtain ⟨kb, e3, hkb, hbx, d3⟩ := hP rfl
    have e3 : a.tmps.getD 3 undef = .pointer (some ⟨kb, 0, none⟩) := by simpa using e3
    simp only [List.foldl_cons, List.foldl_nil, e3] at ha
    clear e3
    generalize a.tmps.getD 6 undef = v6 at ha
    generalize a.tmps.getD 7 undef = v7 at ha
    generalize a.tmps.getD 8 undef = v8 at ha
    generalize a.tmps.getD 9 undef = v9 at ha
    generalize a.tmps.getD 10 undef = v10 at ha
    generalize a.tmps.getD 11 undef = v11 at ha
    generalize a.tmps.getD 12 undef = v12 at ha
    generalize a.tmps.getD 13 undef = v13 at ha
    generalize a.tmps.getD 14 undef = v14 at ha
    generalize a.tmps.getD 15 undef = v15 at ha
    generalize a.tmps.getD 16 undef = v16 at ha
    generalize a.tmps.getD 17 undef = v17 at ha
    generalize a.tmps.getD 18 undef = v18 at ha
    generalize a.tmps.getD 19 undef = v19 at ha
    simp only [Act.put, List.setIfInBounds_toArray, List.set_cons_succ, List.set_cons_zero] at ha
    subst ha
    obtain ⟨z0, z1, z2, z3, z4, z5, z6, z7, z8⟩ := hbx.nine
    have HD3 := Lib.hid d3
    have i0 := fun W => index9_0 W g.E 4 8 g.S 1 64 g.M 64 MM
    have i1 := fun W => index9_1 W g.E 4 8 g.S 1 64 g.M 64 MM
    have i2 := fun W => index9_2 W g.E 4 8 g.S 1 64 g.M 64 MM
    clear hbx d3 hkb HL0 HL1 HL2 HRM HI1 HI2 HW HB HBD HSZ HMM
    by_cases q0 : g.E < 4
    · have t0 : decide (g.E < 4) = true := decide_eq_true q0
      have hr := Lib.hid (show Ge.right g = false by rw [HT.out]; exact decide_eq_false fun h => absurd q0 (Int.not_lt.2 h.1))
      clear HT q0
      go_wp2
      refine wp_loop_rounds 4 ?_
      rw [rounds_succ]
      go_wp2
      go_returns
      rw [hr.out]; exact ⟨rfl, HD3.out.alloc HD3.out.size _⟩
    have t0 : decide (g.E < 4) = false := decide_eq_false q0
    by_cases q1 : 8 < g.E
    · have t1 : decide (8 < g.E) = true := decide_eq_true q1
      have hr := Lib.hid (show Ge.right g = false by rw [HT.out]; exact decide_eq_false fun h => absurd q1 (Int.not_lt.2 h.2.1))
      clear HT q1
      go_wp2
      refine wp_loop_rounds 4 ?_
      rw [rounds_succ]
      go_wp2
      go_returns
      rw [hr.out]; exact ⟨rfl, HD3.out.alloc HD3.out.size _⟩
    have t1 : decide (8 < g.E) = false := decide_eq_false q1
    by_cases q2 : g.S < 1
    · have t2 : decide (g.S < 1) = true := decide_eq_true q2
      have hr := Lib.hid (show Ge.right g = false by rw [HT.out]; exact decide_eq_false fun h => absurd q2 (Int.not_lt.2 h.2.2.1))
      clear HT q2
      go_wp2
      refine wp_loop_rounds 4 ?_
      rw [rounds_succ]
      go_wp2
      rw [rounds_succ]
      go_wp2
      go_returns
      rw [hr.out]; exact ⟨rfl, (HD3.out.alloc HD3.out.size _).alloc (by have := HD3.out.size; simp; omega) _⟩
    have t2 : decide (g.S < 1) = false := decide_eq_false q2
    by_cases q3 : 64 < g.S
    · have t3 : decide (64 < g.S) = true := decide_eq_true q3
      have hr := Lib.hid (show Ge.right g = false by rw [HT.out]; exact decide_eq_false fun h => absurd q3 (Int.not_lt.2 h.2.2.2.1))
      clear HT q3
      go_wp2
      refine wp_loop_rounds 4 ?_
      rw [rounds_succ]
      go_wp2
      rw [rounds_succ]
      go_wp2
      go_returns
      rw [hr.out]; exact ⟨rfl, (HD3.out.alloc HD3.out.size _).alloc (by have := HD3.out.size; simp; omega) _⟩
    have t3 : decide (64 < g.S) = false := decide_eq_false q3
    by_cases q4 : g.M < 64
    · have t4 : decide (g.M < 64) = true := decide_eq_true q4
      have hr := Lib.hid (show Ge.right g = false by rw [HT.out]; exact decide_eq_false fun h => absurd q4 (Int.not_lt.2 h.2.2.2.2.1))
      clear HT q4
      go_wp2
      refine wp_loop_rounds 4 ?_
      rw [rounds_succ]
      go_wp2
      rw [rounds_succ]
      go_wp2
      rw [rounds_succ]
      go_wp2
      go_returns
      rw [hr.out]; exact ⟨rfl, ((HD3.out.alloc HD3.out.size _).alloc (by have := HD3.out.size; simp; omega) _).alloc (by have := HD3.out.size; simp; omega) _⟩
    have t4 : decide (g.M < 64) = false := decide_eq_false q4
    by_cases q5 : MM < g.M
    · have t5 : decide (MM < g.M) = true := decide_eq_true q5
      have hr := Lib.hid (show Ge.right g = false by rw [HT.out]; exact decide_eq_false fun h => absurd q5 (Int.not_lt.2 h.2.2.2.2.2))
      clear HT q5
      go_wp2
      refine wp_loop_rounds 4 ?_
      rw [rounds_succ]
      go_wp2
      rw [rounds_succ]
      go_wp2
      rw [rounds_succ]
      go_wp2
      go_returns
      rw [hr.out]; exact ⟨rfl, ((HD3.out.alloc HD3.out.size _).alloc (by have := HD3.out.size; simp; omega) _).alloc (by have := HD3.out.size; simp; omega) _⟩
    have t5 : decide (MM < g.M) = false := decide_eq_false q5
    have hr := Lib.hid (show Ge.right g = true by rw [HT.out]; exact decide_eq_true ⟨Int.not_lt.1 q0, Int.not_lt.1 q1, Int.not_lt.1 q2, Int.not_lt.1 q3, Int.not_lt.1 q4, Int.not_lt.1 q5⟩)
    clear HT q0 q1 q2 q3 q4 q5
    go_wp2
    refine wp_loop_rounds 4 ?_
    rw [rounds_succ]
    go_wp2
    rw [rounds_succ]
    go_wp2
    rw [rounds_succ]
    go_wp2
    rw [rounds_succ]
    go_wp2
    go_returns
    rw [hr.out]; exact ⟨rfl, ((HD3.out.alloc HD3.out.size _).alloc (by have := HD3.out.size; simp; omega) _).alloc (by have := HD3.out.size; simp; omega) _⟩
theorem size17_any (g : Ge.G) (w : World) : Calls Try.prog 11 #[.agg #[.int .i64 g.E, .int .i64 g.S, .int .i64 g.M]] w fun e w' => e = .returned (.int .i64 (Ge.size g)) ∧ Below w.heap.size w w' := by
  have hb := Blk.new w #[.int .i64 g.E, .int .i64 g.S, .int .i64 g.M] 23
  have HB := Lib.hid (show Below w.heap.size w (w.alloc (.cells #[.int .i64 g.E, .int .i64 g.S, .int .i64 g.M] 23)) from (Below.refl _ _).alloc (Nat.le_refl _) _)
  have x0 : (w.alloc (.cells #[.int .i64 g.E, .int .i64 g.S, .int .i64 g.M] 23)).cell? ⟨w.heap.size, 0, none⟩ = some (.int .i64 g.E) := hb.cell 0
  have x1 : (w.alloc (.cells #[.int .i64 g.E, .int .i64 g.S, .int .i64 g.M] 23)).cell? ⟨w.heap.size, 1, none⟩ = some (.int .i64 g.S) := hb.cell 1
  have x2 : (w.alloc (.cells #[.int .i64 g.E, .int .i64 g.S, .int .i64 g.M] 23)).cell? ⟨w.heap.size, 2, none⟩ = some (.int .i64 g.M) := hb.cell 2
  obtain ⟨wa, hwa⟩ : ∃ wa, (w.alloc (.cells #[.int .i64 g.E, .int .i64 g.S, .int .i64 g.M] 23)) = wa := ⟨_, rfl⟩
  rw [hwa] at x0 x1 x2 HB hb
  have HW := Lib.hid hwa
  have HBX := Lib.hid hb
  clear hb hwa
  by_cases hok : g.ok
  rotate_left
  · have hr := Lib.hid (show Ge.size g = 0 by unfold Ge.size; rw [if_neg (by rw [Ge.right_iff]; exact hok)])
    have hrt : Ge.right g = false := decide_eq_false hok
    have HRR := Lib.hid (fun (W : World) => show Calls Try.prog 9 #[.agg #[.int .i64 g.E, .int .i64 g.S, .int .i64 g.M]] W (fun e w' => e = .returned (.bool false) ∧ Below W.heap.size W w') by have := right17_any g W; rwa [hrt] at this)
    clear hok hrt
    go_enter Try.func11, Try.ntmps11
    go_wp2_with fail
    rw [HW.out]
    refine (HRR.out wa).mono ?_
    rintro e w1 ⟨rfl, d1⟩
    have HB1 := Lib.hid (HB.out.trans (d1.mono HB.out.size))
    clear d1
    go_wp2
    go_ret
    rw [hr.out]; exact ⟨rfl, HB1.out⟩
  · have hrt : Ge.right g = true := decide_eq_true hok
    have HRR := Lib.hid (fun (W : World) => show Calls Try.prog 9 #[.agg #[.int .i64 g.E, .int .i64 g.S, .int .i64 g.M]] W (fun e w' => e = .returned (.bool true) ∧ Below W.heap.size W w') by have := right17_any g W; rwa [hrt] at this)
    clear hrt
    have hr := Lib.hid (Ge.size_ok hok)
    have hm := mul17 hok (i := g.E) (by obtain ⟨h, -⟩ := hok; omega) (Int.le_refl _)
    have hw1 := wrap17 (g.E * g.S) (by omega) (by omega)
    have hw2 := wrap17 (2 + g.E * g.S) (by omega) (by omega)
    clear hm hok
    go_enter Try.func11, Try.ntmps11
    go_wp2_with fail
    rw [HW.out]
    refine (HRR.out wa).mono ?_
    rintro e w1 ⟨rfl, d1⟩
    have HB1 := Lib.hid (HB.out.trans (d1.mono HB.out.size))
    have z0 : w1.cell? ⟨w.heap.size, 0, none⟩ = some (.int .i64 g.E) := ((Kept.of d1 []).blk HBX.out (by simp)).cell 0
    have z1 : w1.cell? ⟨w.heap.size, 1, none⟩ = some (.int .i64 g.S) := ((Kept.of d1 []).blk HBX.out (by simp)).cell 1
    clear d1 x0 x1 x2
    go_wp2
    go_ret
    rw [hr.out]; exact ⟨rfl, HB1.out⟩

theorem room17_any (g : Ge.G) (w : World) : Calls Try.prog 15 #[.agg #[.int .i64 g.E, .int .i64 g.S, .int .i64 g.M]] w fun e w' => e = .returned (.int .i64 (Ge.room g)) ∧ Below w.heap.size w w' := by
  have hb := Blk.new w #[.int .i64 g.E, .int .i64 g.S, .int .i64 g.M] 23
  have HB := Lib.hid (show Below w.heap.size w (w.alloc (.cells #[.int .i64 g.E, .int .i64 g.S, .int .i64 g.M] 23)) from (Below.refl _ _).alloc (Nat.le_refl _) _)
  have x0 : (w.alloc (.cells #[.int .i64 g.E, .int .i64 g.S, .int .i64 g.M] 23)).cell? ⟨w.heap.size, 0, none⟩ = some (.int .i64 g.E) := hb.cell 0
  have x1 : (w.alloc (.cells #[.int .i64 g.E, .int .i64 g.S, .int .i64 g.M] 23)).cell? ⟨w.heap.size, 1, none⟩ = some (.int .i64 g.S) := hb.cell 1
  have x2 : (w.alloc (.cells #[.int .i64 g.E, .int .i64 g.S, .int .i64 g.M] 23)).cell? ⟨w.heap.size, 2, none⟩ = some (.int .i64 g.M) := hb.cell 2
  obtain ⟨wa, hwa⟩ : ∃ wa, (w.alloc (.cells #[.int .i64 g.E, .int .i64 g.S, .int .i64 g.M] 23)) = wa := ⟨_, rfl⟩
  rw [hwa] at x0 x1 x2 HB hb
  have HW := Lib.hid hwa
  have HBX := Lib.hid hb
  clear hb hwa
  by_cases hok : g.ok
  rotate_left
  · have hr := Lib.hid (show Ge.room g = 0 by unfold Ge.room; rw [if_neg (by rw [Ge.right_iff]; exact hok)])
    have hrt : Ge.right g = false := decide_eq_false hok
    have HRR := Lib.hid (fun (W : World) => show Calls Try.prog 9 #[.agg #[.int .i64 g.E, .int .i64 g.S, .int .i64 g.M]] W (fun e w' => e = .returned (.bool false) ∧ Below W.heap.size W w') by have := right17_any g W; rwa [hrt] at this)
    clear hok hrt
    go_enter Try.func15, Try.ntmps15
    go_wp2_with fail
    rw [HW.out]
    refine (HRR.out wa).mono ?_
    rintro e w1 ⟨rfl, d1⟩
    have HB1 := Lib.hid (HB.out.trans (d1.mono HB.out.size))
    clear d1
    go_wp2
    go_ret
    rw [hr.out]; exact ⟨rfl, HB1.out⟩
  · have hrt : Ge.right g = true := decide_eq_true hok
    have HRR := Lib.hid (fun (W : World) => show Calls Try.prog 9 #[.agg #[.int .i64 g.E, .int .i64 g.S, .int .i64 g.M]] W (fun e w' => e = .returned (.bool true) ∧ Below W.heap.size W w') by have := right17_any g W; rwa [hrt] at this)
    clear hrt
    have hr := Lib.hid (show Ge.room g = Ge.tapeRoom g.S by rw [Ge.room_ok hok, Ge.room_tape hok])
    clear hok
    go_enter Try.func15, Try.ntmps15
    go_wp2_with fail
    rw [HW.out]
    refine (HRR.out wa).mono ?_
    rintro e w1 ⟨rfl, d1⟩
    have HB1 := Lib.hid (HB.out.trans (d1.mono HB.out.size))
    have z0 : w1.cell? ⟨w.heap.size, 0, none⟩ = some (.int .i64 g.E) := ((Kept.of d1 []).blk HBX.out (by simp)).cell 0
    have z1 : w1.cell? ⟨w.heap.size, 1, none⟩ = some (.int .i64 g.S) := ((Kept.of d1 []).blk HBX.out (by simp)).cell 1
    clear d1 x0 x1 x2
    go_wp2_with fail
    refine (room11_any g.S w1).mono ?_
    rintro e w2 ⟨rfl, rfl⟩
    go_wp2
    go_ret
    rw [hr.out]; exact ⟨rfl, HB1.out⟩

theorem first17_any (g : Ge.G) (i : Int) (w : World) : Calls Try.prog 13 #[.agg #[.int .i64 g.E, .int .i64 g.S, .int .i64 g.M], .int .i64 i] w fun e w' => e = .returned (.int .i64 (Ge.first g i)) ∧ Below w.heap.size w w' := by
  have hb := Blk.new w #[.int .i64 g.E, .int .i64 g.S, .int .i64 g.M] 23
  have HB := Lib.hid (show Below w.heap.size w (w.alloc (.cells #[.int .i64 g.E, .int .i64 g.S, .int .i64 g.M] 23)) from (Below.refl _ _).alloc (Nat.le_refl _) _)
  have x0 : (w.alloc (.cells #[.int .i64 g.E, .int .i64 g.S, .int .i64 g.M] 23)).cell? ⟨w.heap.size, 0, none⟩ = some (.int .i64 g.E) := hb.cell 0
  have x1 : (w.alloc (.cells #[.int .i64 g.E, .int .i64 g.S, .int .i64 g.M] 23)).cell? ⟨w.heap.size, 1, none⟩ = some (.int .i64 g.S) := hb.cell 1
  have x2 : (w.alloc (.cells #[.int .i64 g.E, .int .i64 g.S, .int .i64 g.M] 23)).cell? ⟨w.heap.size, 2, none⟩ = some (.int .i64 g.M) := hb.cell 2
  obtain ⟨wa, hwa⟩ : ∃ wa, (w.alloc (.cells #[.int .i64 g.E, .int .i64 g.S, .int .i64 g.M] 23)) = wa := ⟨_, rfl⟩
  rw [hwa] at x0 x1 x2 HB hb
  have HW := Lib.hid hwa
  have HBX := Lib.hid hb
  clear hb hwa
  by_cases hok : g.ok
  rotate_left
  · have hr := Lib.hid (show Ge.first g i = 0 by unfold Ge.first; rw [if_neg (by rw [Ge.right_iff]; exact fun h => hok h.1)])
    have hrt : Ge.right g = false := decide_eq_false hok
    have HRR := Lib.hid (fun (W : World) => show Calls Try.prog 9 #[.agg #[.int .i64 g.E, .int .i64 g.S, .int .i64 g.M]] W (fun e w' => e = .returned (.bool false) ∧ Below W.heap.size W w') by have := right17_any g W; rwa [hrt] at this)
    clear hok hrt
    go_enter Try.func13, Try.ntmps13
    go_wp2_with fail
    rw [HW.out]
    refine (HRR.out wa).mono ?_
    rintro e w1 ⟨rfl, d1⟩
    have HB1 := Lib.hid (HB.out.trans (d1.mono HB.out.size))
    clear d1
    go_wp2
    go_ret
    rw [hr.out]; exact ⟨rfl, HB1.out⟩
  · have hrt : Ge.right g = true := decide_eq_true hok
    have HRR := Lib.hid (fun (W : World) => show Calls Try.prog 9 #[.agg #[.int .i64 g.E, .int .i64 g.S, .int .i64 g.M]] W (fun e w' => e = .returned (.bool true) ∧ Below W.heap.size W w') by have := right17_any g W; rwa [hrt] at this)
    clear hrt
    by_cases h0 : i < 0
    · have hr := Lib.hid (show Ge.first g i = 0 by unfold Ge.first; rw [if_neg (by omega)])
      clear hok
      go_enter Try.func13, Try.ntmps13
      go_wp2_with fail
      rw [HW.out]
      refine (HRR.out wa).mono ?_
      rintro e w1 ⟨rfl, d1⟩
      have HB1 := Lib.hid (HB.out.trans (d1.mono HB.out.size))
      have z0 : w1.cell? ⟨w.heap.size, 0, none⟩ = some (.int .i64 g.E) := ((Kept.of d1 []).blk HBX.out (by simp)).cell 0
      have z1 : w1.cell? ⟨w.heap.size, 1, none⟩ = some (.int .i64 g.S) := ((Kept.of d1 []).blk HBX.out (by simp)).cell 1
      clear d1 x0 x1 x2
      go_wp2
      go_ret
      rw [hr.out]; exact ⟨rfl, HB1.out⟩
    · by_cases h1 : g.E ≤ i
      · have hr := Lib.hid (show Ge.first g i = 0 by unfold Ge.first; rw [if_neg (by omega)])
        clear hok
        go_enter Try.func13, Try.ntmps13
        go_wp2_with fail
        rw [HW.out]
        refine (HRR.out wa).mono ?_
        rintro e w1 ⟨rfl, d1⟩
        have HB1 := Lib.hid (HB.out.trans (d1.mono HB.out.size))
        have z0 : w1.cell? ⟨w.heap.size, 0, none⟩ = some (.int .i64 g.E) := ((Kept.of d1 []).blk HBX.out (by simp)).cell 0
        have z1 : w1.cell? ⟨w.heap.size, 1, none⟩ = some (.int .i64 g.S) := ((Kept.of d1 []).blk HBX.out (by simp)).cell 1
        clear d1 x0 x1 x2
        go_wp2
        go_ret
        rw [hr.out]; exact ⟨rfl, HB1.out⟩
      · have hr := Lib.hid (Ge.first_ok hok (i := i) (by omega) (by omega))
        have hm := mul17 hok (i := i) (by omega) (by omega)
        have hw1 := wrap17 (i * g.S) (by omega) (by omega)
        have hw2 := wrap17 (2 + i * g.S) (by omega) (by omega)
        clear hm hok
        go_enter Try.func13, Try.ntmps13
        go_wp2_with fail
        rw [HW.out]
        refine (HRR.out wa).mono ?_
        rintro e w1 ⟨rfl, d1⟩
        have HB1 := Lib.hid (HB.out.trans (d1.mono HB.out.size))
        have z0 : w1.cell? ⟨w.heap.size, 0, none⟩ = some (.int .i64 g.E) := ((Kept.of d1 []).blk HBX.out (by simp)).cell 0
        have z1 : w1.cell? ⟨w.heap.size, 1, none⟩ = some (.int .i64 g.S) := ((Kept.of d1 []).blk HBX.out (by simp)).cell 1
        clear d1 x0 x1 x2
        go_wp2
        go_ret
        rw [hr.out]; exact ⟨rfl, HB1.out⟩

set_option maxHeartbeats 1000000 in
theorem budget17_any (g : Ge.G) (w : World) : Calls Try.prog 17 #[.agg #[.int .i64 g.E, .int .i64 g.S, .int .i64 g.M]] w fun e w' => e = .returned (.int .i64 (Ge.budget g)) ∧ Below w.heap.size w w' := by
  have hb := Blk.new w #[.int .i64 g.E, .int .i64 g.S, .int .i64 g.M] 23
  have HB := Lib.hid (show Below w.heap.size w (w.alloc (.cells #[.int .i64 g.E, .int .i64 g.S, .int .i64 g.M] 23)) from (Below.refl _ _).alloc (Nat.le_refl _) _)
  have x0 : (w.alloc (.cells #[.int .i64 g.E, .int .i64 g.S, .int .i64 g.M] 23)).cell? ⟨w.heap.size, 0, none⟩ = some (.int .i64 g.E) := hb.cell 0
  have x1 : (w.alloc (.cells #[.int .i64 g.E, .int .i64 g.S, .int .i64 g.M] 23)).cell? ⟨w.heap.size, 1, none⟩ = some (.int .i64 g.S) := hb.cell 1
  have x2 : (w.alloc (.cells #[.int .i64 g.E, .int .i64 g.S, .int .i64 g.M] 23)).cell? ⟨w.heap.size, 2, none⟩ = some (.int .i64 g.M) := hb.cell 2
  obtain ⟨wa, hwa⟩ : ∃ wa, (w.alloc (.cells #[.int .i64 g.E, .int .i64 g.S, .int .i64 g.M] 23)) = wa := ⟨_, rfl⟩
  rw [hwa] at x0 x1 x2 HB hb
  have HW := Lib.hid hwa
  have HBX := Lib.hid hb
  clear hb hwa
  by_cases hok : g.ok
  rotate_left
  · have hr := Lib.hid (show Ge.budget g = 0 by unfold Ge.budget; rw [if_neg (by rw [Ge.right_iff]; exact hok)])
    have hrt : Ge.right g = false := decide_eq_false hok
    have HRR := Lib.hid (fun (W : World) => show Calls Try.prog 9 #[.agg #[.int .i64 g.E, .int .i64 g.S, .int .i64 g.M]] W (fun e w' => e = .returned (.bool false) ∧ Below W.heap.size W w') by have := right17_any g W; rwa [hrt] at this)
    clear hok hrt
    go_enter Try.func17, Try.ntmps17
    go_wp2_with fail
    rw [HW.out]
    refine (HRR.out wa).mono ?_
    rintro e w1 ⟨rfl, d1⟩
    have HB1 := Lib.hid (HB.out.trans (d1.mono HB.out.size))
    clear d1
    go_wp2
    go_ret
    rw [hr.out]; exact ⟨rfl, HB1.out⟩
  · have hrt : Ge.right g = true := decide_eq_true hok
    have HRR := Lib.hid (fun (W : World) => show Calls Try.prog 9 #[.agg #[.int .i64 g.E, .int .i64 g.S, .int .i64 g.M]] W (fun e w' => e = .returned (.bool true) ∧ Below W.heap.size W w') by have := right17_any g W; rwa [hrt] at this)
    have hrm := Ge.room_ok hok
    have HRM := Lib.hid (fun (W : World) => show Calls Try.prog 15 #[.agg #[.int .i64 g.E, .int .i64 g.S, .int .i64 g.M]] W (fun e w' => e = .returned (.int .i64 (57 * g.S)) ∧ Below W.heap.size W w') by have := room17_any g W; rwa [hrm] at this)
    clear hrt hrm
    have hr := Lib.hid (Ge.budget_ok hok)
    obtain ⟨X, hX⟩ : ∃ X, 57 * g.S - g.M = X := ⟨_, rfl⟩
    have hX1 : 0 ≤ X ∧ X ≤ 3648 := by obtain ⟨_, _, h3, h4, h5, h6, h7⟩ := hok; omega
    have hE := Ge.exts_of hok
    have hY : 0 ≤ (g.E - 3) * X ∧ (g.E - 3) * X ≤ 18240 := by rcases hE with e | e | e | e | e <;> rw [e] <;> omega
    have hw0 : IntKind.i64.wrap (57 * g.S - g.M) = X := by rw [hX]; exact wrap17 _ (by omega) (by omega)
    have hw1 := wrap17 (g.E - 3) (by omega) (by omega)
    have hw2 := wrap17 ((g.E - 3) * X) (by omega) (by omega)
    have hw3 := wrap17 (57 * g.E) (by omega) (by omega)
    have hw4 := wrap17 ((g.E - 3) * X - 57 * g.E) (by omega) (by omega)
    rw [hX] at hr
    clear hX hX1 hE hY hok
    go_enter Try.func17, Try.ntmps17
    go_wp2_with fail
    rw [HW.out]
    refine (HRR.out wa).mono ?_
    rintro e w1 ⟨rfl, d1⟩
    have HB1 := Lib.hid (HB.out.trans (d1.mono HB.out.size))
    have hb1 := (Kept.of d1 []).blk HBX.out (by simp)
    have HBX1 := Lib.hid hb1
    have z0 : w1.cell? ⟨w.heap.size, 0, none⟩ = some (.int .i64 g.E) := hb1.cell 0
    have z1 : w1.cell? ⟨w.heap.size, 1, none⟩ = some (.int .i64 g.S) := hb1.cell 1
    have z2 : w1.cell? ⟨w.heap.size, 2, none⟩ = some (.int .i64 g.M) := hb1.cell 2
    have HXG := Lib.hid (fun (W : World) (hW : Below w1.heap.size w1 W) => show Blk W w.heap.size #[.int .i64 g.E, .int .i64 g.S, .int .i64 g.M] 23 from (Kept.of hW []).blk hb1 (by simp))
    have HX2 := Lib.hid (fun (W : World) (hW : Below w1.heap.size w1 W) => show W.cell? ⟨w.heap.size, 2, none⟩ = some (.int .i64 g.M) from (HXG.out W hW).cell 2)
    have H11 := Lib.hid (fun (W : World) => show (binOp .sub 3 (.int .i64 (57 * g.S)) (.int .i64 g.M)).run Try.prog W = .ok (.int .i64 X) W by go_simp)
    have HV := Lib.hid (show Ge.budget g = max 0 (wrap64 ((g.E - 3) * X - 57 * g.E)) by rw [hr.out, show wrap64 ((g.E - 3) * X - 57 * g.E) = IntKind.i64.wrap ((g.E - 3) * X - 57 * g.E) from (by unfold wrap64; rw [IntKind.wrap_i64]), hw4])
    have hbd : Below w1.heap.size w1 w1.drew := (Below.refl _ _).drew
    clear d1 x0 x1 x2 hb1 hw0 hw4 hr
    go_wp2
    refine wp_softS (by kernel_rfl) 22 [(7, [1]), (8, [7]), (9, [1]), (10, [9]), (11, [8, 10]), (3, [11])]
      [Fact.is (.agg #[.int .i64 g.E, .int .i64 g.S, .int .i64 g.M]), Fact.is (.int .i64 (57 * g.S)), Fact.is (.pointer (some ⟨w.heap.size, 2, none⟩)), Fact.is (.int .i64 g.M), Fact.is (.int .i64 X), Fact.is (.int .i64 X)]
      (by kernel_rfl) rfl rfl ⟨?s0, ?s1, ?s2, ?s3, ?s4, ?s5, trivial⟩ ?fin
    case s0 =>
      intro ρ W hb hc hf hr
      obtain ⟨r1, -⟩ := hr
      have e1 : ρ (.tmp 1) = .pointer (some ⟨w.heap.size, 0, none⟩) := r1
      clear r1
      refine under_none rfl ?_
      exact soft_load e1 (run_loadG17 (HXG.out W (hbd.trans (hb.mono (by simp))))) rfl
    case s1 =>
      intro ρ W hb hc hf hr
      obtain ⟨r7, -⟩ := hr
      have e7 : ρ (.tmp 7) = .agg #[.int .i64 g.E, .int .i64 g.S, .int .i64 g.M] := r7
      clear r7
      refine under_none rfl ?_
      exact soft_call1 hf e7 (HRM.out W) rfl (by kernel_rfl) below_is
    case s2 =>
      intro ρ W hb hc hf hr
      obtain ⟨r1, -⟩ := hr
      have e1 : ρ (.tmp 1) = .pointer (some ⟨w.heap.size, 0, none⟩) := r1
      clear r1
      refine under_none rfl ?_
      exact soft_field e1 rfl (fun W => by go_simp)
    case s3 =>
      intro ρ W hb hc hf hr
      obtain ⟨r9, -⟩ := hr
      have e9 : ρ (.tmp 9) = .pointer (some ⟨w.heap.size, 2, none⟩) := r9
      clear r9
      refine under_none rfl ?_
      exact soft_load e9 (run_load17 W _ _ (HX2.out W (hbd.trans (hb.mono (by simp))))) rfl
    case s4 =>
      intro ρ W hb hc hf hr
      obtain ⟨r8, r10, -⟩ := hr
      have e8 : ρ (.tmp 8) = .int .i64 (57 * g.S) := r8
      clear r8
      have e10 : ρ (.tmp 10) = .int .i64 g.M := r10
      clear r10
      refine under_none rfl ?_
      exact soft_bin e8 e10 rfl rfl (H11.out W)
    case s5 =>
      intro ρ W hb hc hf hr
      obtain ⟨r11, -⟩ := hr
      have e11 : ρ (.tmp 11) = .int .i64 X := r11
      clear r11
      refine under_none rfl ?_
      exact ⟨e11, Below.refl _ _⟩
    case fin =>
      intro a w2 hb hd hsz hk
      have ea := act_puts hd hsz rfl hk
      have k7 : a.tmps.getD 7 undef = .agg #[.int .i64 g.E, .int .i64 g.S, .int .i64 g.M] := hk 7
      have k8 : a.tmps.getD 8 undef = .int .i64 (57 * g.S) := hk 8
      have k9 : a.tmps.getD 9 undef = .pointer (some ⟨w.heap.size, 2, none⟩) := hk 9
      have k10 : a.tmps.getD 10 undef = .int .i64 g.M := hk 10
      have k11 : a.tmps.getD 11 undef = .int .i64 X := hk 11
      have k3 : a.tmps.getD 3 undef = .int .i64 X := hk 3
      clear hk hd hsz
      simp only [List.map_cons, List.map_nil, List.foldl_cons, List.foldl_nil, k7, k8, k9, k10, k11, k3] at ea
      clear k7 k8 k9 k10 k11 k3
      simp only [Act.put, List.setIfInBounds_toArray, List.set_cons_succ, List.set_cons_zero] at ea
      subst ea
      have hb2 := hbd.trans (hb.mono (by simp))
      have HB2 := Lib.hid (HB1.out.trans (hb2.mono HB1.out.size))
      have hbx := HXG.out _ hb2
      have y0 : w2.cell? ⟨w.heap.size, 0, none⟩ = some (.int .i64 g.E) := hbx.cell 0
      clear hb hbd hb2 hbx
      go_wp2
      go_ret
      rw [HV.out]; exact ⟨rfl, HB2.out⟩

set_option maxHeartbeats 4000000 in
theorem blank17_any (g : Ge.G) (w : World) : Calls Try.prog 20 #[.agg #[.int .i64 g.E, .int .i64 g.S, .int .i64 g.M]] w fun e w' => Gives17 w w' (blank17 g) e := by
  have hb := Blk.new w #[.int .i64 g.E, .int .i64 g.S, .int .i64 g.M] 23
  have HB := Lib.hid (show Below w.heap.size w (w.alloc (.cells #[.int .i64 g.E, .int .i64 g.S, .int .i64 g.M] 23)) from (Below.refl _ _).alloc (Nat.le_refl _) _)
  have x0 : (w.alloc (.cells #[.int .i64 g.E, .int .i64 g.S, .int .i64 g.M] 23)).cell? ⟨w.heap.size, 0, none⟩ = some (.int .i64 g.E) := hb.cell 0
  have x1 : (w.alloc (.cells #[.int .i64 g.E, .int .i64 g.S, .int .i64 g.M] 23)).cell? ⟨w.heap.size, 1, none⟩ = some (.int .i64 g.S) := hb.cell 1
  have x2 : (w.alloc (.cells #[.int .i64 g.E, .int .i64 g.S, .int .i64 g.M] 23)).cell? ⟨w.heap.size, 2, none⟩ = some (.int .i64 g.M) := hb.cell 2
  obtain ⟨wa, hwa⟩ : ∃ wa, (w.alloc (.cells #[.int .i64 g.E, .int .i64 g.S, .int .i64 g.M] 23)) = wa := ⟨_, rfl⟩
  rw [hwa] at x0 x1 x2 HB hb
  have HW := Lib.hid hwa
  have HBX := Lib.hid hb
  clear hb hwa
  have hsz : wa.heap.size = w.heap.size + 1 := by rw [← HW.out]; simp
  have hb2 := Blk.new wa #[.int .i64 0, .int .i64 0, .slice none 0 0] 31
  have hbb : Below wa.heap.size wa (wa.alloc (.cells #[.int .i64 0, .int .i64 0, .slice none 0 0] 31)) := (Below.refl _ _).alloc (Nat.le_refl _) _
  obtain ⟨wb, hwb⟩ : ∃ wb, wa.alloc (.cells #[.int .i64 0, .int .i64 0, .slice none 0 0] 31) = wb := ⟨_, rfl⟩
  rw [hwb] at hb2 hbb
  rw [hsz] at hb2
  have HWB := Lib.hid hwb
  have HB2 := Lib.hid hb2
  have HBB := Lib.hid (HB.out.trans (hbb.mono HB.out.size))
  have HXB := Lib.hid ((Kept.of hbb []).blk HBX.out (by simp))
  clear hb2 hbb hwb x0 x1 x2 hsz
  by_cases hok : g.ok
  rotate_left
  · have hrt : Ge.right g = false := decide_eq_false hok
    have hbl := Lib.hid (show blank17 g = ⟨0, 0, []⟩ by unfold blank17; rw [if_neg (by rw [hrt]; decide)])
    have HRR := Lib.hid (fun (W : World) => show Calls Try.prog 9 #[.agg #[.int .i64 g.E, .int .i64 g.S, .int .i64 g.M]] W (fun e w' => e = .returned (.bool false) ∧ Below W.heap.size W w') by have := right17_any g W; rwa [hrt] at this)
    clear hok hrt
    go_enter Try.func20, Try.ntmps20
    go_wp2_with fail
    rw [HW.out, HWB.out]
    refine (HRR.out wb).mono ?_
    rintro e w1 ⟨rfl, d1⟩
    have HB1 := Lib.hid (HBB.out.trans (d1.mono HBB.out.size))
    have h1 := (Kept.of d1 []).blk HB2.out (by simp)
    have y0 : w1.cell? ⟨w.heap.size + 1, 0, none⟩ = some (.int .i64 0) := h1.cell 0
    have y1 : w1.cell? ⟨w.heap.size + 1, 1, none⟩ = some (.int .i64 0) := h1.cell 1
    have y2 : w1.cell? ⟨w.heap.size + 1, 2, none⟩ = some (.slice none 0 0) := h1.cell 2
    have fz := h1.frozen
    clear d1
    go_wp2
    obtain ⟨wf, hwf⟩ : ∃ wf, ((w1.setCell ⟨w.heap.size + 1, 0, none⟩ (.int .i64 0)).setCell ⟨w.heap.size + 1, 1, none⟩ (.int .i64 0)).setCell ⟨w.heap.size + 1, 2, none⟩ (.slice none 0 0) = wf := ⟨_, rfl⟩
    have hf := ((h1.set 0 (.int .i64 0)).set 1 (.int .i64 0)).set 2 (.slice none 0 0)
    simp only [List.setIfInBounds_toArray, List.set_cons_succ, List.set_cons_zero] at hf
    rw [hwf] at hf ⊢
    have f0 : wf.cell? ⟨w.heap.size + 1, 0, none⟩ = some (.int .i64 0) := hf.cell 0
    have f1 : wf.cell? ⟨w.heap.size + 1, 1, none⟩ = some (.int .i64 0) := hf.cell 1
    have f2 : wf.cell? ⟨w.heap.size + 1, 2, none⟩ = some (.slice none 0 0) := hf.cell 2
    have HK := Lib.hid (show Kept [w.heap.size + 1] w1 wf by
      rw [← hwf]
      exact (((Kept.refl [w.heap.size + 1] w1).setCell (by simp) _).setCell (by simp) _).setCell (by simp) _)
    clear hf hwf h1 y0 y1 y2 fz
    refine bodyPost_ret (v := .agg #[.int .i64 0, .int .i64 0, .slice none 0 0]) (w := wf) (by simp [results, Try.results20, go_sem, f0, f1, f2]) rfl ?_
    rw [hbl.out]
    exact ⟨none, 0, rfl, by simp, by unfold maxLen; omega, .inl rfl, Kept.below HB1.out HK.out (by simp)⟩
  · have hrt : Ge.right g = true := decide_eq_true hok
    have hbl := Lib.hid (show blank17 g = ⟨1, -1, List.replicate g.E.toNat ⟨0, 0⟩⟩ by unfold blank17; rw [if_pos hrt])
    have HRR := Lib.hid (fun (W : World) => show Calls Try.prog 9 #[.agg #[.int .i64 g.E, .int .i64 g.S, .int .i64 g.M]] W (fun e w' => e = .returned (.bool true) ∧ Below W.heap.size W w') by have := right17_any g W; rwa [hrt] at this)
    obtain ⟨n, hn, hn4, hn8⟩ : ∃ n : Nat, g.E = (n : Int) ∧ 4 ≤ n ∧ n ≤ 8 := by
      obtain ⟨h1, h2, -⟩ := hok
      exact ⟨g.E.toNat, by omega, by omega, by omega⟩
    have hnt : g.E.toNat = n := by omega
    rw [hnt] at hbl
    obtain ⟨i0, hi, hz0, hz1, hz2⟩ := info_parts infoEx
    obtain ⟨Z, hZ⟩ : ∃ Z, (flatX (List.replicate n (⟨0, 0⟩ : Tb.Ext))).toArray = Z := ⟨_, rfl⟩
    have hmk : ∀ W : World, (Instr.makeSlice 29 (.int .i64 g.E) (.int .i64 g.E)).run Try.prog W = .ok (.slice (some ⟨W.heap.size, 0, none⟩) n n) (W.alloc (.cells Z 44)) := fun W => by
      rw [hn]
      have := run_make (P := Try.prog) W 29 44 i0 _ Try.underlying29 hi hz0 .i64 .i64 (n : Int) (n : Int) (by omega) (by omega) (by rw [hz2]; omega) (by omega)
      simp only [Int.toNat_natCast, hz1] at this
      rw [← hZ, ← made_exts n hn8]
      simpa [Value.cells] using this
    have HZ := Lib.hid hZ
    clear hok hrt hnt hZ hi hz0 hz1 hz2 hn
    go_enter Try.func20, Try.ntmps20
    go_wp2_with fail
    rw [HW.out, HWB.out]
    refine (HRR.out wb).mono ?_
    rintro e w1 ⟨rfl, d1⟩
    have HB1 := Lib.hid (HBB.out.trans (d1.mono HBB.out.size))
    have h0 := (Kept.of d1 []).blk HB2.out (by simp)
    have z0 : w1.cell? ⟨w.heap.size, 0, none⟩ = some (.int .i64 g.E) := ((Kept.of d1 []).blk HXB.out (by simp)).cell 0
    have hlt := h0.lt
    have v0 : w1.cell? ⟨w.heap.size + 1, 0, none⟩ = some (.int .i64 0) := h0.cell 0
    have v1 : w1.cell? ⟨w.heap.size + 1, 1, none⟩ = some (.int .i64 0) := h0.cell 1
    have v2 : w1.cell? ⟨w.heap.size + 1, 2, none⟩ = some (.slice none 0 0) := h0.cell 2
    have fy := h0.frozen
    clear d1
    go_wp2
    have hs3 : (((w1.setCell ⟨w.heap.size + 1, 0, none⟩ (.int .i64 1)).setCell ⟨w.heap.size + 1, 1, none⟩ (.int .i64 (-1))).setCell ⟨w.heap.size + 1, 2, none⟩ (.slice (some ⟨w1.heap.size, 0, none⟩) n n)).heap.size = w1.heap.size := by simp
    obtain ⟨wf, hwf⟩ : ∃ wf, ((w1.setCell ⟨w.heap.size + 1, 0, none⟩ (.int .i64 1)).setCell ⟨w.heap.size + 1, 1, none⟩ (.int .i64 (-1))).setCell ⟨w.heap.size + 1, 2, none⟩ (.slice (some ⟨w1.heap.size, 0, none⟩) n n) = wf := ⟨_, rfl⟩
    have hf := ((h0.set 0 (.int .i64 1)).set 1 (.int .i64 (-1))).set 2 (.slice (some ⟨w1.heap.size, 0, none⟩) n n)
    simp only [List.setIfInBounds_toArray, List.set_cons_succ, List.set_cons_zero] at hf
    rw [hwf] at hf hs3 ⊢
    have bm : Below wf.heap.size wf (wf.alloc (.cells Z 44)) := (Below.refl _ _).alloc (Nat.le_refl _) _
    have hl := Lies.new wf Z 44
    rw [hs3] at hl
    have hf2 := (Kept.of bm []).blk hf (by simp)
    have f0 : (wf.alloc (.cells Z 44)).cell? ⟨w.heap.size + 1, 0, none⟩ = some (.int .i64 1) := hf2.cell 0
    have f1 : (wf.alloc (.cells Z 44)).cell? ⟨w.heap.size + 1, 1, none⟩ = some (.int .i64 (-1)) := hf2.cell 1
    have f2 : (wf.alloc (.cells Z 44)).cell? ⟨w.heap.size + 1, 2, none⟩ = some (.slice (some ⟨w1.heap.size, 0, none⟩) n n) := hf2.cell 2
    have HK := Lib.hid (show Kept [w.heap.size + 1] w1 wf by
      rw [← hwf]
      exact (((Kept.refl [w.heap.size + 1] w1).setCell (by simp) _).setCell (by simp) _).setCell (by simp) _)
    have HKB := Lib.hid (Kept.below HB1.out HK.out (by simp))
    have HFB := Lib.hid (HKB.out.trans (bm.mono HKB.out.size))
    have HL := Lib.hid hl
    obtain ⟨wz, hwz⟩ : ∃ wz, wf.alloc (.cells Z 44) = wz := ⟨_, rfl⟩
    rw [hwz] at f0 f1 f2 HL HFB ⊢
    clear hf hwf h0 v0 v1 v2 fy bm hl hf2
    refine bodyPost_ret (v := .agg #[.int .i64 1, .int .i64 (-1), .slice (some ⟨w1.heap.size, 0, none⟩) n n]) (w := wz) (by simp [results, Try.results20, go_sem, f0, f1, f2]) rfl ?_
    rw [hbl.out]
    refine ⟨some ⟨w1.heap.size, 0, none⟩, n, by simp only [List.length_replicate], by simp, by unfold maxLen; omega, ?_, HFB.out⟩
    have := HL.out
    rw [← HZ.out] at this
    exact this

theorem geomOk : GeomOk := ⟨right17_any, size17_any, first17_any, room17_any, budget17_any, blank17_any⟩
end Go.Proofs.Ytgicjdlpkphfnaa

