/-
  Layer 15: the head of its laws holds, given QueryOk: entries of a live question. Nothing else is assumed. (Made by gen15/hdq.py.)
-/
import Derived.Test.YtcoedohfggeaiaaQyO
import Derived.Great.BuildSlice
import Derived.BigRegion
import Derived.Deep.CutRange
import Derived.Deep.CutBlock

namespace Go.Proofs.Ytcoedohfggeaiaa
open Go.RowKit Go.Maps En Qy
set_option maxRecDepth 100000

def hq4 : E := one14 4 1 1 0
def hq2 : E := one14 2 3 1 0
def hq9 : E := one14 9 3 1 0
def hqA : Qy.A := ⟨[], 0, 0, -1, 0, 0, 2⟩
def hqN : Qy.A := ⟨[], 0, 0, -1, 3, 2, 2⟩
def hqB : Qy.A := ⟨[100, 98], 0, 0, -1, 0, 0, 2⟩
theorem soft_zeroAsk {w : World} {ρ : Operand → Value} {o : Oper} (ho : o.op = .build 31 #[]) : softUpon Try.prog w (Fact.is (.agg (askA Qy.A.zero))) ((execOp ρ o).run Try.prog w) := by
  have e : (execOp ρ o).run Try.prog w = .ok (.value (.agg (askA Qy.A.zero))) w := by
    simp only [execOp, ho]
    kernel_rfl
  rw [e]
  exact ⟨rfl, Below.refl _ _⟩
/-- a row of three, built of three entries -/
theorem wpList_row3 {ops : Array Oper} {rest : List Oper} {o : Oper} {a : Act} {w W : World} {Q : Exit → Act → World → Prop} {x y z : Operand} (hg : o.guard = none) (ho : o.op = .buildSlice 22 3 #[(0, x), (1, y), (2, z)]) (t1 t2 t3 : Ent)
    (hx : a.eval x = .agg (enA t1.e (.slice t1.A t1.e.sv.length t1.cap))) (hy : a.eval y = .agg (enA t2.e (.slice t2.A t2.e.sv.length t2.cap))) (hz : a.eval z = .agg (enA t3.e (.slice t3.A t3.e.sv.length t3.cap))) (hW : w.alloc (.cells (flatEn [t1, t2, t3]).toArray 29) = W)
    (h : wpList Try.prog ops Q rest (a.put o.dst (.slice (some ⟨w.heap.size, 0, none⟩) 3 3)) W) : wpList Try.prog ops Q (o :: rest) a w := by
  obtain ⟨i0, hi, hz0, hz1, hz2⟩ := info_parts infoEn
  subst hW
  refine wpList_buildSlice hg 22 29 3 _ ho _ i0 _ Try.underlying22 hi hz0 (by rw [hz1]; omega) (by rw [hz1]; omega) ?_ h
  rw [hz1]
  simp only [List.map_toArray, List.map_cons, List.map_nil, hx, hy, hz]
  obtain ⟨e1, A1, c1⟩ := t1
  obtain ⟨e2, A2, c2⟩ := t2
  obtain ⟨e3, A3, c3⟩ := t3
  kernel_rfl

set_option maxHeartbeats 16000000 in
theorem head15_any (hOK : QueryOk) (w : World) : Calls Try.prog 9 #[] w fun e w' => e = .returned (.bool true) ∧ Below w.heap.size w w' := by
  have HOK := Lib.hid hOK
  clear hOK
  go_enter Try.func9, Try.ntmps9
  go_wp2_with fail
  refine (one14_any 4 1 1 0 w).mono ?_
  rintro e w1 ⟨g1, rfl, -, hS1, d1⟩
  have HB1 := Lib.hid d1
  have HS1 := Lib.hid hS1
  clear d1 hS1
  go_wp2_with fail
  refine (one14_any 2 3 1 0 w1).mono ?_
  rintro e w2 ⟨g2, rfl, -, hS2, d2⟩
  have HB2 := Lib.hid (HB1.out.trans (d2.mono HB1.out.size))
  have HS1' := Lib.hid (HS1.out.below d2)
  have HS2 := Lib.hid hS2
  clear d2 hS2 HS1 HB1
  go_wp2_with fail
  refine (one14_any 9 3 1 0 w2).mono ?_
  rintro e w3 ⟨g3, rfl, -, hS3, d3⟩
  have HB3 := Lib.hid (HB2.out.trans (d3.mono HB2.out.size))
  have HE4 := Lib.hid (Ents.new w3 [⟨hq4, some ⟨g1, 0, none⟩, 1⟩, ⟨hq2, some ⟨g2, 0, none⟩, 1⟩, ⟨hq9, some ⟨g3, 0, none⟩, 1⟩] (by simp) (by
    intro t ht
    simp only [List.mem_cons, List.not_mem_nil, or_false] at ht
    rcases ht with rfl | rfl | rfl
    · exact HS1'.out.below d3
    · exact HS2.out.below d3
    · exact hS3))
  have hb4 : Below w3.heap.size w3 (w3.alloc (.cells (flatEn [⟨hq4, some ⟨g1, 0, none⟩, 1⟩, ⟨hq2, some ⟨g2, 0, none⟩, 1⟩, ⟨hq9, some ⟨g3, 0, none⟩, 1⟩]).toArray 29)) := (Below.refl _ _).alloc (Nat.le_refl _) _
  have hlt4 : w3.heap.size < (w3.alloc (.cells (flatEn [⟨hq4, some ⟨g1, 0, none⟩, 1⟩, ⟨hq2, some ⟨g2, 0, none⟩, 1⟩, ⟨hq9, some ⟨g3, 0, none⟩, 1⟩]).toArray 29)).heap.size := by simp
  obtain ⟨W4, hW4⟩ : ∃ W4, w3.alloc (.cells (flatEn [⟨hq4, some ⟨g1, 0, none⟩, 1⟩, ⟨hq2, some ⟨g2, 0, none⟩, 1⟩, ⟨hq9, some ⟨g3, 0, none⟩, 1⟩]).toArray 29) = W4 := ⟨_, rfl⟩
  rw [hW4] at HE4 hb4 hlt4
  have HB4 := Lib.hid (HB3.out.trans (hb4.mono HB3.out.size))
  have HW4 := Lib.hid (show w3.alloc (.cells #[.int .i64 4, .int .i64 0, .int .i64 1, .int .i64 20, .bool false, .int .i64 4, .int .i64 0, .int .i64 0, .int .i64 1, .slice (some ⟨g1, 0, none⟩) 1 1, .int .i64 1, .int .i64 0, .int .i64 20, .int .i64 2, .int .i64 0, .int .i64 3, .int .i64 20, .bool false, .int .i64 2, .int .i64 0, .int .i64 0, .int .i64 1, .slice (some ⟨g2, 0, none⟩) 1 1, .int .i64 1, .int .i64 0, .int .i64 20, .int .i64 9, .int .i64 0, .int .i64 3, .int .i64 20, .bool false, .int .i64 9, .int .i64 0, .int .i64 0, .int .i64 1, .slice (some ⟨g3, 0, none⟩) 1 1, .int .i64 1, .int .i64 0, .int .i64 20] 29) = W4 from hW4)
  have hb5 : Below W4.heap.size W4 (W4.alloc (.cells (askA hqA) 31)) := (Below.refl _ _).alloc (Nat.le_refl _) _
  have hq5 := BoxQ.new W4 hqA
  obtain ⟨W5, hW5⟩ : ∃ W5, W4.alloc (.cells (askA hqA) 31) = W5 := ⟨_, rfl⟩
  rw [hW5] at hb5 hq5
  have HE5 := Lib.hid (HE4.out.below hb5)
  have HB5 := Lib.hid (HB4.out.trans (hb5.mono HB4.out.size))
  have HQ5 := Lib.hid hq5
  have HW5 := Lib.hid (show W4.alloc (.cells #[.string ⟨#[]⟩, .int .i64 0, .int .i64 0, .int .i64 (-1), .int .i64 0, .int .i64 0, .int .i64 2] 31) = W5 from hW5)
  obtain ⟨g, hg⟩ : ∃ g, w3.heap.size = g := ⟨_, rfl⟩
  rw [hg] at HE5
  have HG := Lib.hid hg
  have HN1 := Lib.hid (HOK.out.next _ 3 3 _ hqA W5 HE5.out)
  rw [show next (List.map Ent.e [⟨hq4, some ⟨g1, 0, none⟩, 1⟩, ⟨hq2, some ⟨g2, 0, none⟩, 1⟩, ⟨hq9, some ⟨g3, 0, none⟩, 1⟩]) hqA = hqN from by show next [hq4, hq2, hq9] hqA = hqN; decide +kernel, show more (List.map Ent.e [⟨hq4, some ⟨g1, 0, none⟩, 1⟩, ⟨hq2, some ⟨g2, 0, none⟩, 1⟩, ⟨hq9, some ⟨g3, 0, none⟩, 1⟩]) hqA = true from by show more [hq4, hq2, hq9] hqA = true; decide +kernel] at HN1
  have HN1' := Lib.hid (show Calls Try.prog 11 #[.slice (some ⟨g, 0, none⟩) 3 3, .agg #[.string ⟨#[]⟩, .int .i64 0, .int .i64 0, .int .i64 (-1), .int .i64 0, .int .i64 0, .int .i64 2]] W5 _ from HN1.out)
  have HW4' := Lib.hid hW4
  clear d3 hS3 hW4 hW5 hb4 hb5 hq5 HS1' HS2 HB2 HB3 HE4 HB4 hg hlt4 HN1
  go_wp2_with (refine wpList_row3 rfl rfl ⟨hq4, some ⟨g1, 0, none⟩, 1⟩ ⟨hq2, some ⟨g2, 0, none⟩, 1⟩ ⟨hq9, some ⟨g3, 0, none⟩, 1⟩ rfl rfl rfl HW4'.out ?_)
  rw [HW5.out, HG.out]
  refine HN1'.out.mono ?_
  rintro e w6 ⟨he, d6⟩
  obtain rfl : e = .returned (.tuple #[.agg #[.string ⟨#[]⟩, .int .i64 0, .int .i64 0, .int .i64 (-1), .int .i64 3, .int .i64 2, .int .i64 2], .bool true]) := he
  have hb7 : Below w6.heap.size w6 (w6.alloc (.cells (askA hqN) 31)) := (Below.refl _ _).alloc (Nat.le_refl _) _
  have hq7 := BoxQ.new w6 hqN
  obtain ⟨W7, hW7⟩ : ∃ W7, w6.alloc (.cells (askA hqN) 31) = W7 := ⟨_, rfl⟩
  rw [hW7] at hb7 hq7
  have d7 := d6.trans (hb7.mono d6.size)
  have HE7 := Lib.hid (HE5.out.below d7)
  have HB7 := Lib.hid (HB5.out.trans (d7.mono HB5.out.size))
  have HQ7 := Lib.hid (HQ5.out.below d7)
  have HN7 := Lib.hid hq7
  have HW7 := Lib.hid (show w6.alloc (.cells #[.string ⟨#[]⟩, .int .i64 0, .int .i64 0, .int .i64 (-1), .int .i64 3, .int .i64 2, .int .i64 2] 31) = W7 from hW7)
  have HN2 := Lib.hid (HOK.out.next _ 3 3 _ hqN W7 HE7.out)
  rw [show next (List.map Ent.e [⟨hq4, some ⟨g1, 0, none⟩, 1⟩, ⟨hq2, some ⟨g2, 0, none⟩, 1⟩, ⟨hq9, some ⟨g3, 0, none⟩, 1⟩]) hqN = Qy.A.zero from by show next [hq4, hq2, hq9] hqN = Qy.A.zero; decide +kernel, show more (List.map Ent.e [⟨hq4, some ⟨g1, 0, none⟩, 1⟩, ⟨hq2, some ⟨g2, 0, none⟩, 1⟩, ⟨hq9, some ⟨g3, 0, none⟩, 1⟩]) hqN = false from by show more [hq4, hq2, hq9] hqN = false; decide +kernel] at HN2
  have HN2' := Lib.hid (show Calls Try.prog 11 #[.slice (some ⟨g, 0, none⟩) 3 3, .agg #[.string ⟨#[]⟩, .int .i64 0, .int .i64 0, .int .i64 (-1), .int .i64 3, .int .i64 2, .int .i64 2]] W7 _ from HN2.out)
  clear hb7 hq7 hW7 d6 d7 HN1' HN2 HW4' HW5 HE5 HB5 HQ5
  go_wp2_with fail
  rw [HW7.out]
  refine HN2'.out.mono ?_
  rintro e w8 ⟨he, d8⟩
  obtain rfl : e = .returned (.tuple #[.agg #[.string ⟨#[]⟩, .int .i64 0, .int .i64 0, .int .i64 0, .int .i64 0, .int .i64 0, .int .i64 0], .bool false]) := he
  have hb9 : Below w8.heap.size w8 (w8.alloc (.cells (askA Qy.A.zero) 31)) := (Below.refl _ _).alloc (Nat.le_refl _) _
  have hq9 := BoxQ.new w8 Qy.A.zero
  have hz9 : (w8.alloc (.cells (askA Qy.A.zero) 31)).heap.size = w8.heap.size + 1 := by simp
  obtain ⟨W9, hW9⟩ : ∃ W9, w8.alloc (.cells (askA Qy.A.zero) 31) = W9 := ⟨_, rfl⟩
  rw [hW9] at hb9 hq9 hz9
  have d9 := d8.trans (hb9.mono d8.size)
  have hQ9 := HQ7.out.below d9
  have hb10 : Below W9.heap.size W9 (W9.alloc (.cells (askA hqB) 31)) := (Below.refl _ _).alloc (Nat.le_refl _) _
  have hq10 := BoxQ.new W9 hqB
  obtain ⟨W10, hW10⟩ : ∃ W10, W9.alloc (.cells (askA hqB) 31) = W10 := ⟨_, rfl⟩
  rw [hW10] at hb10 hq10
  rw [hz9] at hq10
  have d10 := d9.trans (hb10.mono d9.size)
  have HBE := Lib.hid (HB7.out.trans (d10.mono HB7.out.size))
  have HE := Lib.hid (HE7.out.below d10)
  have HQA := Lib.hid (HQ7.out.below d10)
  have HQN := Lib.hid (HN7.out.below d10)
  have HQZ := Lib.hid (hq9.below hb10)
  have HQB := Lib.hid hq10
  have HLQ := Lib.hid (show (Instr.loadAt 31 (.pointer (some ⟨W4.heap.size, 0, none⟩))).run Try.prog W9 = .ok (.agg #[.string ⟨#[]⟩, .int .i64 0, .int .i64 0, .int .i64 (-1), .int .i64 0, .int .i64 0, .int .i64 2]) W9 from run_loadAsk W9 _ hqA hQ9)
  have HW9 := Lib.hid (show w8.alloc (.cells #[.string ⟨#[]⟩, .int .i64 0, .int .i64 0, .int .i64 0, .int .i64 0, .int .i64 0, .int .i64 0] 31) = W9 from hW9)
  have HW10 := Lib.hid (show W9.alloc (.cells #[.string ⟨#[100, 98]⟩, .int .i64 0, .int .i64 0, .int .i64 (-1), .int .i64 0, .int .i64 0, .int .i64 2] 31) = W10 from hW10)
  clear hb9 hq9 hW9 hb10 hq10 hW10 d8 d9 d10 hQ9 HN2' HW7 HE7 HB7 HQ7 HN7
  go_upto_region 5 with fail
  rw [HW9.out]
  go_wp2_with (first | refine wpList_loadW rfl 31 _ rfl _ _ rfl HLQ.out ?_)
  rw [HW10.out]
  obtain ⟨p2, hp2⟩ : ∃ p, W4.heap.size = p := ⟨_, rfl⟩
  obtain ⟨p3, hp3⟩ : ∃ p, w6.heap.size = p := ⟨_, rfl⟩
  obtain ⟨p7, hp7⟩ : ∃ p, w8.heap.size + 1 = p := ⟨_, rfl⟩
  rw [hp2] at HQA ⊢
  rw [hp3] at HQN ⊢
  rw [hp7] at HQB ⊢
  obtain ⟨p5, hp5⟩ : ∃ p, w8.heap.size = p := ⟨_, rfl⟩
  rw [hp5] at HQZ ⊢
  clear hp2 hp3 hp5 hp7 HW4 HW9 HW10 HLQ HG
  obtain ⟨ad, had, -, hc⟩ := at_ent HE.out.lies 0 (by simp)
  injection had with had
  subst had
  have hbd : Below W10.heap.size W10 W10.drew := (Below.refl _ _).drew
  have hL1 := fun (W : World) (h : Below W10.heap.size W10 W) => run_loadRow W _ _ (hc W h)
  have hFA := fun (W : World) (h : Below W10.heap.size W10 W) => HOK.out.fits hq4 (some ⟨g1, 0, none⟩) 1 1 hqA W rfl ((HE.out.svs _ (List.mem_cons_self ..)).below h)
  have hFN := fun (W : World) (h : Below W10.heap.size W10 W) => HOK.out.fits hq4 (some ⟨g1, 0, none⟩) 1 1 hqN W rfl ((HE.out.svs _ (List.mem_cons_self ..)).below h)
  have hRA := fun (W : World) (h : Below W10.heap.size W10 W) => HOK.out.run _ 3 3 _ hqA W (HE.out.below h)
  have hRN := fun (W : World) (h : Below W10.heap.size W10 W) => HOK.out.run _ 3 3 _ hqN W (HE.out.below h)
  have hRB := fun (W : World) (h : Below W10.heap.size W10 W) => HOK.out.run _ 3 3 _ hqB W (HE.out.below h)
  simp only [show fits hq4 hqA = true from by decide +kernel] at hFA
  simp only [show fits hq4 hqN = false from by decide +kernel] at hFN
  simp only [show run (List.map Ent.e [⟨hq4, some ⟨g1, 0, none⟩, 1⟩, ⟨hq2, some ⟨g2, 0, none⟩, 1⟩, ⟨hq9, some ⟨g3, 0, none⟩, 1⟩]) hqA = [4, 2] from by show run [hq4, hq2, hq9] hqA = [4, 2]; decide +kernel] at hRA
  simp only [show run (List.map Ent.e [⟨hq4, some ⟨g1, 0, none⟩, 1⟩, ⟨hq2, some ⟨g2, 0, none⟩, 1⟩, ⟨hq9, some ⟨g3, 0, none⟩, 1⟩]) hqN = [9] from by show run [hq4, hq2, hq9] hqN = [9]; decide +kernel] at hRN
  simp only [show run (List.map Ent.e [⟨hq4, some ⟨g1, 0, none⟩, 1⟩, ⟨hq2, some ⟨g2, 0, none⟩, 1⟩, ⟨hq9, some ⟨g3, 0, none⟩, 1⟩]) hqB = [] from by show run [hq4, hq2, hq9] hqB = []; decide +kernel] at hRB
  have hLA := fun (W : World) (h : Below W10.heap.size W10 W) => run_loadAsk W p2 hqA (HQA.out.below h)
  have hLW := fun (W : World) (h : Below W10.heap.size W10 W) => run_loadAsk W p3 hqN (HQN.out.below h)
  have hLZ := fun (W : World) (h : Below W10.heap.size W10 W) => run_loadAsk W p5 Qy.A.zero (HQZ.out.below h)
  have hLB := fun (W : World) (h : Below W10.heap.size W10 W) => run_loadAsk W p7 hqB (HQB.out.below h)
  have hBZ := fun (W : World) (ρ : Operand → Value) (o : Oper) (ho : o.op = .build 31 #[]) => soft_zeroAsk (w := W) (ρ := ρ) (o := o) ho
  have LN := Lib.hid (fun (W : World) (h : Below W10.heap.size W10 W) => (HQN.out.below h).all)
  obtain ⟨X1, hX1⟩ : ∃ X, enA hq4 (.slice (some ⟨g1, 0, none⟩) 1 1) = X := ⟨_, rfl⟩
  obtain ⟨XA, hXA⟩ : ∃ X, askA hqA = X := ⟨_, rfl⟩
  obtain ⟨XN, hXN⟩ : ∃ X, askA hqN = X := ⟨_, rfl⟩
  obtain ⟨XB, hXB⟩ : ∃ X, askA hqB = X := ⟨_, rfl⟩
  obtain ⟨XZ, hXZ⟩ : ∃ X, askA Qy.A.zero = X := ⟨_, rfl⟩
  simp only [hXA] at hLA hFA hRA
  simp only [hXN] at hLW hFN hRN
  simp only [hXB] at hLB hRB
  simp only [hXZ] at hLZ hBZ
  simp only [hX1] at hFA hFN
  have HXZ := Lib.hid hXZ
  have LA := Lib.hid hLA
  have LW := Lib.hid hLW
  have LZ := Lib.hid hLZ
  have LB := Lib.hid hLB
  have BZ := Lib.hid hBZ
  have FA := Lib.hid hFA
  have FN := Lib.hid hFN
  have RA := Lib.hid hRA
  have RN := Lib.hid hRN
  have RB := Lib.hid hRB
  have L1 := Lib.hid (fun (W : World) (h : Below W10.heap.size W10 W) => show (Instr.loadAt 29 (.pointer (some ((⟨g, 0, none⟩ : Addr).add (0 * 13))))).run Try.prog W = .ok (.agg X1) W by rw [← hX1]; exact hL1 W h)
  clear hXZ hLA hLW hLZ hLB hBZ hFA hFN hRA hRN hRB hL1 hX1 hXA hXN hXB hc HE HQA HQN HQZ HQB HOK
  refine wp_soft (by kernel_rfl) 83 [(27, [1]), (28, [2]), (29, [27, 28]), (30, []), (31, [29, 30]), (32, [31]), (33, [4, 32]), (34, [32, 33]), (35, [34]), (36, [3, 35]), (37, [36, 35]), (38, [37, 35]), (39, [35, 38]), (40, [39]), (41, [3, 40]), (42, [41, 40]), (43, [42, 40]), (44, [40, 43]), (45, [44]), (46, [1, 45]), (47, [3, 45]), (48, [46, 47, 45]), (49, [45]), (50, [48, 49, 45]), (51, [45, 50]), (52, [51]), (53, [6, 52]), (54, [53, 52]), (55, [52, 54]), (56, [55]), (57, [5, 56]), (58, [56]), (59, [57, 58, 56]), (60, [56, 59]), (61, [60]), (62, [1, 61]), (63, [7, 61]), (64, [62, 63, 61]), (65, [64, 61]), (66, [65, 61]), (67, [61, 66]), (68, [67]), (69, [1, 68]), (70, [69, 68]), (71, [70, 68]), (72, [2, 68]), (73, [71, 72, 68]), (74, [68, 73]), (75, [74]), (76, [1, 75]), (77, [76, 75]), (78, [77, 75]), (79, [3, 75]), (80, [78, 79, 75]), (81, [80, 75]), (82, [75, 81]), (0, [82])]
    [Fact.is (.slice (some ⟨g, 0, none⟩) 3 3), Fact.is (.agg XA), Fact.num15 [4, 2], Fact.num15 [4, 2], Fact.is (.bool true), Fact.is (.bool true), Fact.is (.bool true), Fact.is (.bool true), Fact.is (.bool true), Fact.is (.pointer (some ⟨p3, 4, none⟩)), Fact.is (.int .i64 3), Fact.is (.bool true), Fact.is (.bool true), Fact.is (.bool true), Fact.is (.pointer (some ⟨p3, 5, none⟩)), Fact.is (.int .i64 2), Fact.is (.bool true), Fact.is (.bool true), Fact.is (.bool true), Fact.is (.slice (some ⟨g, 0, none⟩) 3 3), Fact.is (.agg XN), Fact.num15 [9], Fact.num15 [9], Fact.is (.bool true), Fact.is (.bool true), Fact.is (.bool true), Fact.is (.bool false), Fact.is (.bool true), Fact.is (.bool true), Fact.is (.bool true), Fact.is (.agg XZ), Fact.is (.agg XZ), Fact.is (.bool true), Fact.is (.bool true), Fact.is (.bool true), Fact.is (.slice (some ⟨g, 0, none⟩) 3 3), Fact.is (.agg XB), Fact.num15 [], Fact.is (.int .i64 0), Fact.is (.bool true), Fact.is (.bool true), Fact.is (.bool true), Fact.is (.slice (some ⟨g, 0, none⟩) 3 3), Fact.is (.pointer (some ((⟨g, 0, none⟩ : Addr).add (0 * 13)))), Fact.is (.agg X1), Fact.is (.agg XA), Fact.is (.bool true), Fact.is (.bool true), Fact.is (.bool true), Fact.is (.slice (some ⟨g, 0, none⟩) 3 3), Fact.is (.pointer (some ((⟨g, 0, none⟩ : Addr).add (0 * 13)))), Fact.is (.agg X1), Fact.is (.agg XN), Fact.is (.bool false), Fact.is (.bool true), Fact.is (.bool true), Fact.is (.bool true)]
    (by kernel_rfl) rfl rfl ⟨?s0, ?s1, ?s2, ?s3, ?s4, ?s5, ?s6, ?s7, ?s8, ?s9, ?s10, ?s11, ?s12, ?s13, ?s14, ?s15, ?s16, ?s17, ?s18, ?s19, ?s20, ?s21, ?s22, ?s23, ?s24, ?s25, ?s26, ?s27, ?s28, ?s29, ?s30, ?s31, ?s32, ?s33, ?s34, ?s35, ?s36, ?s37, ?s38, ?s39, ?s40, ?s41, ?s42, ?s43, ?s44, ?s45, ?s46, ?s47, ?s48, ?s49, ?s50, ?s51, ?s52, ?s53, ?s54, ?s55, ?s56, trivial⟩ ?fin
  case s0 =>
    intro ρ W hb hc hf hr
    obtain ⟨r1, -⟩ := hr
    have e1 : ρ (.tmp 1) = .slice (some ⟨g, 0, none⟩) 3 3 := r1
    clear r1
    refine under_none rfl ?_
    exact ⟨e1, Below.refl _ _⟩
  case s1 =>
    intro ρ W hb hc hf hr
    obtain ⟨r2, -⟩ := hr
    have e2 : ρ (.tmp 2) = .pointer (some ⟨p2, 0, none⟩) := r2
    clear r2
    refine under_none rfl ?_
    exact soft_load e2 (LA.out W (hbd.trans (hb.mono (by simp)))) rfl
  case s2 =>
    intro ρ W hb hc hf hr
    obtain ⟨r27, r28, -⟩ := hr
    have e27 : ρ (.tmp 27) = .slice (some ⟨g, 0, none⟩) 3 3 := r27
    clear r27
    have e28 : ρ (.tmp 28) = .agg XA := r28
    clear r28
    refine under_none rfl ?_
    exact soft_call2 hf e27 e28 (RA.out W (hbd.trans (hb.mono (by simp)))) rfl (by kernel_rfl) num15_of
  case s3 =>
    intro ρ W hb hc hf hr
    clear hr
    refine under_none rfl ?_
    exact soft_two15 hc rfl
  case s4 =>
    intro ρ W hb hc hf hr
    obtain ⟨r29, r30, -⟩ := hr
    refine under_none rfl ?_
    exact soft_same15 hf r29 r30 (by decide) rfl
  case s5 =>
    intro ρ W hb hc hf hr
    obtain ⟨r31, -⟩ := hr
    have e31 : ρ (.tmp 31) = .bool true := r31
    clear r31
    refine under_none rfl ?_
    exact ⟨e31, Below.refl _ _⟩
  case s6 =>
    intro ρ W hb hc hf hr
    obtain ⟨r4, r32, -⟩ := hr
    have e4 : ρ (.tmp 4) = .bool true := r4
    clear r4
    have e32 : ρ (.tmp 32) = .bool true := r32
    clear r32
    refine ⟨32, rfl, .inl ⟨e32, ?_⟩⟩
    exact ⟨e4, Below.refl _ _⟩
  case s7 =>
    intro ρ W hb hc hf hr
    obtain ⟨r32, r33, -⟩ := hr
    have e32 : ρ (.tmp 32) = .bool true := r32
    clear r32
    have e33 : ρ (.tmp 33) = .bool true := r33
    clear r33
    refine under_none rfl ?_
    simp [execOp, e32, e33, go_sem, softUpon, Fact.is, Below.refl]
  case s8 =>
    intro ρ W hb hc hf hr
    obtain ⟨r34, -⟩ := hr
    have e34 : ρ (.tmp 34) = .bool true := r34
    clear r34
    refine under_none rfl ?_
    exact ⟨e34, Below.refl _ _⟩
  case s9 =>
    intro ρ W hb hc hf hr
    obtain ⟨r3, r35, -⟩ := hr
    have e3 : ρ (.tmp 3) = .pointer (some ⟨p3, 0, none⟩) := r3
    clear r3
    have e35 : ρ (.tmp 35) = .bool true := r35
    clear r35
    refine ⟨35, rfl, .inl ⟨e35, ?_⟩⟩
    exact soft_field e3 rfl (fun W => by go_simp)
  case s10 =>
    intro ρ W hb hc hf hr
    obtain ⟨r36, r35, -⟩ := hr
    have e36 : ρ (.tmp 36) = .pointer (some ⟨p3, 4, none⟩) := r36
    clear r36
    have e35 : ρ (.tmp 35) = .bool true := r35
    clear r35
    refine ⟨35, rfl, .inl ⟨e35, ?_⟩⟩
    exact soft_load e36 (run_loadQl W _ _ (LN.out W (hbd.trans (hb.mono (by simp)))).2.2.2.2.1) rfl
  case s11 =>
    intro ρ W hb hc hf hr
    obtain ⟨r37, r35, -⟩ := hr
    have e37 : ρ (.tmp 37) = .int .i64 3 := r37
    clear r37
    have e35 : ρ (.tmp 35) = .bool true := r35
    clear r35
    refine ⟨35, rfl, .inl ⟨e35, ?_⟩⟩
    exact soft_bin e37 (hc _) rfl rfl (eql_q64 W 3 3 true (by decide))
  case s12 =>
    intro ρ W hb hc hf hr
    obtain ⟨r35, r38, -⟩ := hr
    have e35 : ρ (.tmp 35) = .bool true := r35
    clear r35
    have e38 : ρ (.tmp 38) = .bool true := r38
    clear r38
    refine under_none rfl ?_
    simp [execOp, e35, e38, go_sem, softUpon, Fact.is, Below.refl]
  case s13 =>
    intro ρ W hb hc hf hr
    obtain ⟨r39, -⟩ := hr
    have e39 : ρ (.tmp 39) = .bool true := r39
    clear r39
    refine under_none rfl ?_
    exact ⟨e39, Below.refl _ _⟩
  case s14 =>
    intro ρ W hb hc hf hr
    obtain ⟨r3, r40, -⟩ := hr
    have e3 : ρ (.tmp 3) = .pointer (some ⟨p3, 0, none⟩) := r3
    clear r3
    have e40 : ρ (.tmp 40) = .bool true := r40
    clear r40
    refine ⟨40, rfl, .inl ⟨e40, ?_⟩⟩
    exact soft_field e3 rfl (fun W => by go_simp)
  case s15 =>
    intro ρ W hb hc hf hr
    obtain ⟨r41, r40, -⟩ := hr
    have e41 : ρ (.tmp 41) = .pointer (some ⟨p3, 5, none⟩) := r41
    clear r41
    have e40 : ρ (.tmp 40) = .bool true := r40
    clear r40
    refine ⟨40, rfl, .inl ⟨e40, ?_⟩⟩
    exact soft_load e41 (run_loadQl W _ _ (LN.out W (hbd.trans (hb.mono (by simp)))).2.2.2.2.2.1) rfl
  case s16 =>
    intro ρ W hb hc hf hr
    obtain ⟨r42, r40, -⟩ := hr
    have e42 : ρ (.tmp 42) = .int .i64 2 := r42
    clear r42
    have e40 : ρ (.tmp 40) = .bool true := r40
    clear r40
    refine ⟨40, rfl, .inl ⟨e40, ?_⟩⟩
    exact soft_bin e42 (hc _) rfl rfl (eql_q64 W 2 2 true (by decide))
  case s17 =>
    intro ρ W hb hc hf hr
    obtain ⟨r40, r43, -⟩ := hr
    have e40 : ρ (.tmp 40) = .bool true := r40
    clear r40
    have e43 : ρ (.tmp 43) = .bool true := r43
    clear r43
    refine under_none rfl ?_
    simp [execOp, e40, e43, go_sem, softUpon, Fact.is, Below.refl]
  case s18 =>
    intro ρ W hb hc hf hr
    obtain ⟨r44, -⟩ := hr
    have e44 : ρ (.tmp 44) = .bool true := r44
    clear r44
    refine under_none rfl ?_
    exact ⟨e44, Below.refl _ _⟩
  case s19 =>
    intro ρ W hb hc hf hr
    obtain ⟨r1, r45, -⟩ := hr
    have e1 : ρ (.tmp 1) = .slice (some ⟨g, 0, none⟩) 3 3 := r1
    clear r1
    have e45 : ρ (.tmp 45) = .bool true := r45
    clear r45
    refine ⟨45, rfl, .inl ⟨e45, ?_⟩⟩
    exact ⟨e1, Below.refl _ _⟩
  case s20 =>
    intro ρ W hb hc hf hr
    obtain ⟨r3, r45, -⟩ := hr
    have e3 : ρ (.tmp 3) = .pointer (some ⟨p3, 0, none⟩) := r3
    clear r3
    have e45 : ρ (.tmp 45) = .bool true := r45
    clear r45
    refine ⟨45, rfl, .inl ⟨e45, ?_⟩⟩
    exact soft_load e3 (LW.out W (hbd.trans (hb.mono (by simp)))) rfl
  case s21 =>
    intro ρ W hb hc hf hr
    obtain ⟨r46, r47, r45, -⟩ := hr
    have e46 : ρ (.tmp 46) = .slice (some ⟨g, 0, none⟩) 3 3 := r46
    clear r46
    have e47 : ρ (.tmp 47) = .agg XN := r47
    clear r47
    have e45 : ρ (.tmp 45) = .bool true := r45
    clear r45
    refine ⟨45, rfl, .inl ⟨e45, ?_⟩⟩
    exact soft_call2 hf e46 e47 (RN.out W (hbd.trans (hb.mono (by simp)))) rfl (by kernel_rfl) num15_of
  case s22 =>
    intro ρ W hb hc hf hr
    obtain ⟨r45, -⟩ := hr
    have e45 : ρ (.tmp 45) = .bool true := r45
    clear r45
    refine ⟨45, rfl, .inl ⟨e45, ?_⟩⟩
    exact soft_one15 hc rfl
  case s23 =>
    intro ρ W hb hc hf hr
    obtain ⟨r48, r49, r45, -⟩ := hr
    have e45 : ρ (.tmp 45) = .bool true := r45
    clear r45
    refine ⟨45, rfl, .inl ⟨e45, ?_⟩⟩
    exact soft_same15 hf r48 r49 (by decide) rfl
  case s24 =>
    intro ρ W hb hc hf hr
    obtain ⟨r45, r50, -⟩ := hr
    have e45 : ρ (.tmp 45) = .bool true := r45
    clear r45
    have e50 : ρ (.tmp 50) = .bool true := r50
    clear r50
    refine under_none rfl ?_
    simp [execOp, e45, e50, go_sem, softUpon, Fact.is, Below.refl]
  case s25 =>
    intro ρ W hb hc hf hr
    obtain ⟨r51, -⟩ := hr
    have e51 : ρ (.tmp 51) = .bool true := r51
    clear r51
    refine under_none rfl ?_
    exact ⟨e51, Below.refl _ _⟩
  case s26 =>
    intro ρ W hb hc hf hr
    obtain ⟨r6, r52, -⟩ := hr
    have e6 : ρ (.tmp 6) = .bool false := r6
    clear r6
    have e52 : ρ (.tmp 52) = .bool true := r52
    clear r52
    refine ⟨52, rfl, .inl ⟨e52, ?_⟩⟩
    exact ⟨e6, Below.refl _ _⟩
  case s27 =>
    intro ρ W hb hc hf hr
    obtain ⟨r53, r52, -⟩ := hr
    have e53 : ρ (.tmp 53) = .bool false := r53
    clear r53
    have e52 : ρ (.tmp 52) = .bool true := r52
    clear r52
    refine ⟨52, rfl, .inl ⟨e52, ?_⟩⟩
    simp [execOp, e53, go_sem, softUpon, Fact.is, Below.refl]
  case s28 =>
    intro ρ W hb hc hf hr
    obtain ⟨r52, r54, -⟩ := hr
    have e52 : ρ (.tmp 52) = .bool true := r52
    clear r52
    have e54 : ρ (.tmp 54) = .bool true := r54
    clear r54
    refine under_none rfl ?_
    simp [execOp, e52, e54, go_sem, softUpon, Fact.is, Below.refl]
  case s29 =>
    intro ρ W hb hc hf hr
    obtain ⟨r55, -⟩ := hr
    have e55 : ρ (.tmp 55) = .bool true := r55
    clear r55
    refine under_none rfl ?_
    exact ⟨e55, Below.refl _ _⟩
  case s30 =>
    intro ρ W hb hc hf hr
    obtain ⟨r5, r56, -⟩ := hr
    have e5 : ρ (.tmp 5) = .pointer (some ⟨p5, 0, none⟩) := r5
    clear r5
    have e56 : ρ (.tmp 56) = .bool true := r56
    clear r56
    refine ⟨56, rfl, .inl ⟨e56, ?_⟩⟩
    exact soft_load e5 (LZ.out W (hbd.trans (hb.mono (by simp)))) rfl
  case s31 =>
    intro ρ W hb hc hf hr
    obtain ⟨r56, -⟩ := hr
    have e56 : ρ (.tmp 56) = .bool true := r56
    clear r56
    refine ⟨56, rfl, .inl ⟨e56, ?_⟩⟩
    exact BZ.out W _ _ rfl
  case s32 =>
    intro ρ W hb hc hf hr
    obtain ⟨r57, r58, r56, -⟩ := hr
    have e57 : ρ (.tmp 57) = .agg XZ := r57
    clear r57
    have e58 : ρ (.tmp 58) = .agg XZ := r58
    clear r58
    have e56 : ρ (.tmp 56) = .bool true := r56
    clear r56
    refine ⟨56, rfl, .inl ⟨e56, ?_⟩⟩
    exact soft_eqAsk HXZ.out e57 e58 rfl
  case s33 =>
    intro ρ W hb hc hf hr
    obtain ⟨r56, r59, -⟩ := hr
    have e56 : ρ (.tmp 56) = .bool true := r56
    clear r56
    have e59 : ρ (.tmp 59) = .bool true := r59
    clear r59
    refine under_none rfl ?_
    simp [execOp, e56, e59, go_sem, softUpon, Fact.is, Below.refl]
  case s34 =>
    intro ρ W hb hc hf hr
    obtain ⟨r60, -⟩ := hr
    have e60 : ρ (.tmp 60) = .bool true := r60
    clear r60
    refine under_none rfl ?_
    exact ⟨e60, Below.refl _ _⟩
  case s35 =>
    intro ρ W hb hc hf hr
    obtain ⟨r1, r61, -⟩ := hr
    have e1 : ρ (.tmp 1) = .slice (some ⟨g, 0, none⟩) 3 3 := r1
    clear r1
    have e61 : ρ (.tmp 61) = .bool true := r61
    clear r61
    refine ⟨61, rfl, .inl ⟨e61, ?_⟩⟩
    exact ⟨e1, Below.refl _ _⟩
  case s36 =>
    intro ρ W hb hc hf hr
    obtain ⟨r7, r61, -⟩ := hr
    have e7 : ρ (.tmp 7) = .pointer (some ⟨p7, 0, none⟩) := r7
    clear r7
    have e61 : ρ (.tmp 61) = .bool true := r61
    clear r61
    refine ⟨61, rfl, .inl ⟨e61, ?_⟩⟩
    exact soft_load e7 (LB.out W (hbd.trans (hb.mono (by simp)))) rfl
  case s37 =>
    intro ρ W hb hc hf hr
    obtain ⟨r62, r63, r61, -⟩ := hr
    have e62 : ρ (.tmp 62) = .slice (some ⟨g, 0, none⟩) 3 3 := r62
    clear r62
    have e63 : ρ (.tmp 63) = .agg XB := r63
    clear r63
    have e61 : ρ (.tmp 61) = .bool true := r61
    clear r61
    refine ⟨61, rfl, .inl ⟨e61, ?_⟩⟩
    exact soft_call2 hf e62 e63 (RB.out W (hbd.trans (hb.mono (by simp)))) rfl (by kernel_rfl) num15_of
  case s38 =>
    intro ρ W hb hc hf hr
    obtain ⟨r64, r61, -⟩ := hr
    have e61 : ρ (.tmp 61) = .bool true := r61
    clear r61
    refine ⟨61, rfl, .inl ⟨e61, ?_⟩⟩
    exact soft_len15 r64 rfl rfl
  case s39 =>
    intro ρ W hb hc hf hr
    obtain ⟨r65, r61, -⟩ := hr
    have e65 : ρ (.tmp 65) = .int .i64 0 := r65
    clear r65
    have e61 : ρ (.tmp 61) = .bool true := r61
    clear r61
    refine ⟨61, rfl, .inl ⟨e61, ?_⟩⟩
    exact soft_bin e65 (hc _) rfl rfl (eql_qint W 0 0 true (by decide))
  case s40 =>
    intro ρ W hb hc hf hr
    obtain ⟨r61, r66, -⟩ := hr
    have e61 : ρ (.tmp 61) = .bool true := r61
    clear r61
    have e66 : ρ (.tmp 66) = .bool true := r66
    clear r66
    refine under_none rfl ?_
    simp [execOp, e61, e66, go_sem, softUpon, Fact.is, Below.refl]
  case s41 =>
    intro ρ W hb hc hf hr
    obtain ⟨r67, -⟩ := hr
    have e67 : ρ (.tmp 67) = .bool true := r67
    clear r67
    refine under_none rfl ?_
    exact ⟨e67, Below.refl _ _⟩
  case s42 =>
    intro ρ W hb hc hf hr
    obtain ⟨r1, r68, -⟩ := hr
    have e1 : ρ (.tmp 1) = .slice (some ⟨g, 0, none⟩) 3 3 := r1
    clear r1
    have e68 : ρ (.tmp 68) = .bool true := r68
    clear r68
    refine ⟨68, rfl, .inl ⟨e68, ?_⟩⟩
    exact ⟨e1, Below.refl _ _⟩
  case s43 =>
    intro ρ W hb hc hf hr
    obtain ⟨r69, r68, -⟩ := hr
    have e69 : ρ (.tmp 69) = .slice (some ⟨g, 0, none⟩) 3 3 := r69
    clear r69
    have e68 : ρ (.tmp 68) = .bool true := r68
    clear r68
    refine ⟨68, rfl, .inl ⟨e68, ?_⟩⟩
    exact soft_index13 (k := 0) e69 (hc _) (by omega) rfl
  case s44 =>
    intro ρ W hb hc hf hr
    obtain ⟨r70, r68, -⟩ := hr
    have e70 : ρ (.tmp 70) = .pointer (some ((⟨g, 0, none⟩ : Addr).add (0 * 13))) := r70
    clear r70
    have e68 : ρ (.tmp 68) = .bool true := r68
    clear r68
    refine ⟨68, rfl, .inl ⟨e68, ?_⟩⟩
    exact soft_load e70 (L1.out W (hbd.trans (hb.mono (by simp)))) rfl
  case s45 =>
    intro ρ W hb hc hf hr
    obtain ⟨r2, r68, -⟩ := hr
    have e2 : ρ (.tmp 2) = .pointer (some ⟨p2, 0, none⟩) := r2
    clear r2
    have e68 : ρ (.tmp 68) = .bool true := r68
    clear r68
    refine ⟨68, rfl, .inl ⟨e68, ?_⟩⟩
    exact soft_load e2 (LA.out W (hbd.trans (hb.mono (by simp)))) rfl
  case s46 =>
    intro ρ W hb hc hf hr
    obtain ⟨r71, r72, r68, -⟩ := hr
    have e71 : ρ (.tmp 71) = .agg X1 := r71
    clear r71
    have e72 : ρ (.tmp 72) = .agg XA := r72
    clear r72
    have e68 : ρ (.tmp 68) = .bool true := r68
    clear r68
    refine ⟨68, rfl, .inl ⟨e68, ?_⟩⟩
    exact soft_call2 hf e71 e72 (FA.out W (hbd.trans (hb.mono (by simp)))) rfl (by kernel_rfl) below_is
  case s47 =>
    intro ρ W hb hc hf hr
    obtain ⟨r68, r73, -⟩ := hr
    have e68 : ρ (.tmp 68) = .bool true := r68
    clear r68
    have e73 : ρ (.tmp 73) = .bool true := r73
    clear r73
    refine under_none rfl ?_
    simp [execOp, e68, e73, go_sem, softUpon, Fact.is, Below.refl]
  case s48 =>
    intro ρ W hb hc hf hr
    obtain ⟨r74, -⟩ := hr
    have e74 : ρ (.tmp 74) = .bool true := r74
    clear r74
    refine under_none rfl ?_
    exact ⟨e74, Below.refl _ _⟩
  case s49 =>
    intro ρ W hb hc hf hr
    obtain ⟨r1, r75, -⟩ := hr
    have e1 : ρ (.tmp 1) = .slice (some ⟨g, 0, none⟩) 3 3 := r1
    clear r1
    have e75 : ρ (.tmp 75) = .bool true := r75
    clear r75
    refine ⟨75, rfl, .inl ⟨e75, ?_⟩⟩
    exact ⟨e1, Below.refl _ _⟩
  case s50 =>
    intro ρ W hb hc hf hr
    obtain ⟨r76, r75, -⟩ := hr
    have e76 : ρ (.tmp 76) = .slice (some ⟨g, 0, none⟩) 3 3 := r76
    clear r76
    have e75 : ρ (.tmp 75) = .bool true := r75
    clear r75
    refine ⟨75, rfl, .inl ⟨e75, ?_⟩⟩
    exact soft_index13 (k := 0) e76 (hc _) (by omega) rfl
  case s51 =>
    intro ρ W hb hc hf hr
    obtain ⟨r77, r75, -⟩ := hr
    have e77 : ρ (.tmp 77) = .pointer (some ((⟨g, 0, none⟩ : Addr).add (0 * 13))) := r77
    clear r77
    have e75 : ρ (.tmp 75) = .bool true := r75
    clear r75
    refine ⟨75, rfl, .inl ⟨e75, ?_⟩⟩
    exact soft_load e77 (L1.out W (hbd.trans (hb.mono (by simp)))) rfl
  case s52 =>
    intro ρ W hb hc hf hr
    obtain ⟨r3, r75, -⟩ := hr
    have e3 : ρ (.tmp 3) = .pointer (some ⟨p3, 0, none⟩) := r3
    clear r3
    have e75 : ρ (.tmp 75) = .bool true := r75
    clear r75
    refine ⟨75, rfl, .inl ⟨e75, ?_⟩⟩
    exact soft_load e3 (LW.out W (hbd.trans (hb.mono (by simp)))) rfl
  case s53 =>
    intro ρ W hb hc hf hr
    obtain ⟨r78, r79, r75, -⟩ := hr
    have e78 : ρ (.tmp 78) = .agg X1 := r78
    clear r78
    have e79 : ρ (.tmp 79) = .agg XN := r79
    clear r79
    have e75 : ρ (.tmp 75) = .bool true := r75
    clear r75
    refine ⟨75, rfl, .inl ⟨e75, ?_⟩⟩
    exact soft_call2 hf e78 e79 (FN.out W (hbd.trans (hb.mono (by simp)))) rfl (by kernel_rfl) below_is
  case s54 =>
    intro ρ W hb hc hf hr
    obtain ⟨r80, r75, -⟩ := hr
    have e80 : ρ (.tmp 80) = .bool false := r80
    clear r80
    have e75 : ρ (.tmp 75) = .bool true := r75
    clear r75
    refine ⟨75, rfl, .inl ⟨e75, ?_⟩⟩
    simp [execOp, e80, go_sem, softUpon, Fact.is, Below.refl]
  case s55 =>
    intro ρ W hb hc hf hr
    obtain ⟨r75, r81, -⟩ := hr
    have e75 : ρ (.tmp 75) = .bool true := r75
    clear r75
    have e81 : ρ (.tmp 81) = .bool true := r81
    clear r81
    refine under_none rfl ?_
    simp [execOp, e75, e81, go_sem, softUpon, Fact.is, Below.refl]
  case s56 =>
    intro ρ W hb hc hf hr
    obtain ⟨r82, -⟩ := hr
    have e82 : ρ (.tmp 82) = .bool true := r82
    clear r82
    refine under_none rfl ?_
    exact ⟨e82, Below.refl _ _⟩
  case fin =>
    intro a w11 hb hd hk
    have k0 : a.tmps.getD 0 undef = .bool true := hk 0
    go_wp2
    refine bodyPost_ret (results_tmp rfl _ _ _) hd ?_
    exact ⟨congrArg Ending.returned k0, HBE.out.trans ((hbd.trans (hb.mono (by simp))).mono HBE.out.size)⟩
end Go.Proofs.Ytcoedohfggeaiaa

