/-
  Layer 7's live question: its answer is yes. Nothing is assumed.
-/
import Derived.Test.YtldecmodhppjpaaLwA
import Derived.Test.YtldecmodhppjpaaDvW

namespace Go.Proofs.Ytldecmodhppjpaa.Plain
def q0 : Dv := Dv.new 4
def q1 : Dv := (q0.write 1 (full 7)).1
def q2 : Dv := q1.flush.1
def q3 : Dv := (q2.write 1 (full 8)).1
def q4 : Dv := (q3.write 3 (full 9)).1
def q5 : Dv := q4.cutAt 0
def q6 : Dv := (q5.write 2 (full 1)).1
def q7 : Dv := q6.boot [false, true] [⟨1, 510, 7⟩]
def y7 : List UInt8 := full 9 |>.set 63 201
theorem q_err0 : (q0.write 1 (full 7)).2 = 0 := by decide +kernel
theorem q_err1 : q1.flush.2 = 0 := by decide +kernel
theorem q_loose : q4.loose = [1, 3] := by decide +kernel
theorem q_err5 : (q5.write 2 (full 1)).2 = 71 := by decide +kernel
theorem q_down : q6.down = true := by decide +kernel
theorem q_read1 : q7.read 1 = (full 7, 0) := by decide +kernel
theorem q_read3 : q7.read 3 = (y7, 0) := by decide +kernel
theorem q_err7 : (q7.write 0 []).2 = 1 ∧ q7.has 0 = true := by decide +kernel
theorem q_done : q0.done = 0 ∧ q1.done = 1 ∧ q2.done = 2 ∧ q3.done = 3 ∧ q4.done = 4 ∧ q5.done = 4 ∧ q7.done = 4 := by decide +kernel
theorem q_rest : q7.n = 4 ∧ q7.down = false := by decide +kernel
theorem y7_at : y7.length = 64 ∧ y7[62]? = some 9 ∧ y7[63]? = some 201 := by decide +kernel
end Go.Proofs.Ytldecmodhppjpaa.Plain

namespace Go.Proofs.Ytldecmodhppjpaa
open Go.RowKit
set_option maxRecDepth 100000

/-- memory of its own is no device's -/
theorem IsDev.apart {w : World} {g b : Nat} {d : Plain.Dv} {cs : Array Value} {t : TypeId} (h : IsDev w g d) (hb : Blk w b cs t) (h1 : t ≠ 66) (h2 : t ≠ 60) : b ∉ [g, g + 1, g + 2] := by
  intro hm
  simp only [List.mem_cons, List.not_mem_nil, or_false] at hm
  unfold Blk at hb
  rcases hm with rfl | rfl | rfl
  · obtain ⟨cs', h3, -⟩ := h.kept
    unfold Blk at h3
    rw [h3] at hb
    injection hb with hb
    injection hb with _ hb
    exact h1 hb.symm
  · obtain ⟨es, clock, h3, -⟩ := h.map
    rw [h3] at hb
    injection hb with hb
    cases hb
  · have h3 := h.box
    unfold Blk at h3
    rw [h3] at hb
    injection hb with hb
    injection hb with _ hb
    exact h2 hb.symm
theorem write_full (w : World) (g : Nat) (d : Plain.Dv) (i : Int) (b : Nat) (c : UInt8) (hb : Blk w b (cells (Plain.full c)).toArray 5) (hdone : d.done < 4611686018427387904) (h : IsDev w g d) :
    Calls Try.prog 13 #[.pointer (some ⟨g + 2, 0, none⟩), .int .i64 i, .slice (some ⟨b, 0, none⟩) 64 64] w fun e w' => e = .returned (.int .i64 ((d.write i (Plain.full c)).2 : Int)) ∧ IsDev w' g (d.write i (Plain.full c)).1 ∧ Kept [g + 1, g + 2] w w' := by
  have hl := hb.lies
  rw [List.toList_toArray] at hl
  refine write_any w g d i _ 64 64 (Plain.full c) (Plain.full_length c) hl (.inr fun ad e => ?_) hdone h
  injection e with e
  subst e
  exact h.apart hb (by decide) (by decide)
theorem Kept.belowB {S : List Nat} {B : Nat} {a b c : World} (h : Kept S b c) (hb : Below B a b) (hB : B ≤ b.heap.size) (hS : ∀ k ∈ S, B ≤ k) : Below B a c :=
  hb.trans ⟨h.os, h.tape, h.output, h.size, fun i hi => h.block i (by omega) fun hm => by have := hS i hm; omega⟩
/-- what is handed out reads as text -/
theorem GivesB.text {w w' : World} {bs : List UInt8} {er : Nat} {e : Ending} (h : GivesB w bs er e w') : ∃ A cap, e = .returned (.tuple #[.slice A bs.length cap, .int .i64 (er : Int)]) ∧ Lies w' A (cells bs) ∧ Below w.heap.size w w' := by
  obtain ⟨A, cap, he, h1, h2, h3, h4⟩ := h
  refine ⟨A, cap, he, ?_, h4⟩
  by_cases hn : bs = []
  · subst hn; exact Lies.nil
  · obtain ⟨b, t, cs, rfl, h5, h6, h7⟩ := h3 hn
    have := h6.lies.take bs.length
    rwa [h7] at this
theorem conv_lies {w : World} {A : Option Addr} {bs : List UInt8} {n c : Nat} (h : Lies w A (cells bs)) (hn : bs.length = n) : (convert 29 9 (.slice A n c)).run Try.prog w = .ok (.string (str bs)) w := by
  subst hn
  exact conv_str h 29 5 Try.underlying29 Try.underlying5 9 Try.underlying9
theorem str_beq (s : ByteArray) : (s.toList == s.toList) = true := by simp

theorem eq_text (W : World) (s : ByteArray) : (binOp .eql 9 (.string s) (.string s)).run Try.prog W = .ok (.bool true) W := by
  have h := str_beq s
  go_simp
theorem run_idxU8 (W : World) (ad : Addr) (n cap k : Nat) (hk : k < n) : (Instr.indexAt 29 (.slice (some ad) n cap) (.int .i64 (k : Int))).run Try.prog W = .ok (.pointer (some (ad.add k))) W := by
  go_simp
theorem run_loadU8 (W : World) (a : Addr) (z : Int) (h : W.cell? a = some (.int .u8 z)) : (Instr.loadAt 5 (.pointer (some a))).run Try.prog W = .ok (.int .u8 z) W := by
  go_simp
theorem soft_ints2 {w : World} {ρ : Operand → Value} {o : Oper} {a b : Nat} (hc : ∀ v, ρ (.const v) = v) (ho : o.op = .buildSlice 43 2 #[(0, .const (.int .i64 (a : Int))), (1, .const (.int .i64 (b : Int)))]) :
    softUpon Try.prog w (Fact.lie 2 (nums [a, b])) ((execOp ρ o).run Try.prog w) := by
  have e : (execOp ρ o).run Try.prog w = .ok (.value (.slice (some ⟨w.heap.size, 0, none⟩) 2 2)) (w.alloc (.cells #[.int .i64 (a : Int), .int .i64 (b : Int)] 3)) := by
    simp [execOp, ho, hc, go_sem]
  rw [e]
  exact ⟨⟨_, _, rfl, (Blk.new w #[.int .i64 (a : Int), .int .i64 (b : Int)] 3).lies⟩, (Below.refl _ _).alloc (Nat.le_refl _) _⟩
theorem soft_same7 {w : World} {ρ : Operand → Value} {o : Oper} {x y : Operand} {ats : Array TypeId} {A : Option Addr} {n m ca : Nat} {a b : List Nat} {r : Bool} (hf : ∀ f, ρ (.func f) = .func (.func f) #[] #[]) (hx : ρ x = .slice A n ca) (hy : (Fact.lie m (nums b)).φ (ρ y) w)
    (hn : a.length = n) (hm : b.length = m) (hs : n ≤ 1000000 ∧ m ≤ 1000000) (hA : Lies w A (nums a)) (ho : o.op = .call { callee := .value (.func 24), args := #[x, y], argTypes := ats }) (hr : decide (a = b) = r) :
    softUpon Try.prog w (Fact.is (.bool r)) ((execOp ρ o).run Try.prog w) := by
  obtain ⟨B, c, e, hB⟩ := hy
  exact soft_call2 hf hx e (sameInts_any A B n m ca c a b r hr w hn hm hs.1 hs.2 hA hB) ho (by kernel_rfl) below_is
theorem soft_full {w : World} {ρ : Operand → Value} {o : Oper} {x : Operand} {ats : Array TypeId} {c : UInt8} (hf : ∀ f, ρ (.func f) = .func (.func f) #[] #[]) (hx : ρ x = .int .u8 (c.toNat : Int)) (ho : o.op = .call { callee := .value (.func 23), args := #[x], argTypes := ats }) :
    softUpon Try.prog w (Fact.lie 64 (cells (Plain.full c))) ((execOp ρ o).run Try.prog w) := by
  refine soft_call1 hf hx (full_any c w) ho (by kernel_rfl) ?_
  rintro e w' ⟨b, rfl, h1, h2, h3⟩
  refine ⟨_, rfl, ⟨_, _, rfl, ?_⟩, h3⟩
  have := h2.lies
  rwa [List.toList_toArray] at this
theorem soft_convL {w : World} {ρ : Operand → Value} {o : Oper} {x : Operand} {n : Nat} {bs : List UInt8} (h : (Fact.lie n (cells bs)).φ (ρ x) w) (hn : bs.length = n) (ho : o.op = .convert 29 9 x) : softUpon Try.prog w (Fact.is (.string (str bs))) ((execOp ρ o).run Try.prog w) := by
  obtain ⟨A, c, e, hA⟩ := h
  exact soft_conv e (conv_lies hA hn) ho

set_option maxHeartbeats 8000000 in
theorem head_any (w : World) : Calls Try.prog 9 #[] w fun e w' => e = .returned (.bool true) ∧ Below w.heap.size w w' := by
  obtain ⟨d0, d1, d2, d3, d4, d5, d7⟩ := Plain.q_done
  have HD := Lib.hid Plain.q_done
  clear d0 d1 d2 d3 d4 d5 d7
  go_enter Try.func9, Try.ntmps9
  go_wp2_with fail
  refine Calls.mono (show Calls Try.prog 11 #[.int .i64 4] w _ from newDev_yes 4 w (by omega) (by omega)) ?_
  rintro e w1 ⟨rfl, hd, hB1⟩
  obtain ⟨g, hg⟩ : ∃ g, w.heap.size = g := ⟨_, rfl⟩
  rw [hg] at hd hB1 ⊢
  have HB1 := Lib.hid hB1
  have HD0 := Lib.hid (show IsDev w1 g Plain.q0 from hd)
  have z1 := hd.lt
  clear hd hB1
  go_wp2_with fail
  refine (newDev_no 0 w1 (.inl (by omega))).mono ?_
  rintro e w' ⟨rfl, rfl⟩
  go_wp2_with fail
  refine (newDev_no 4097 w1 (.inr (by omega))).mono ?_
  rintro e w' ⟨rfl, rfl⟩
  go_wp2_with fail
  refine Calls.mono (show Calls Try.prog 23 #[.int .u8 7] w1 _ from full_any 7 w1) ?_
  rintro e w2 ⟨b2, rfl, hb2, hk2, hB2⟩
  have hd2 := HD0.out.below hB2
  have z2 := hB2.size
  have HB2 := Lib.hid (HB1.out.trans (hB2.mono (by omega)))
  have HW2 := Lib.hid (write_full w2 g Plain.q0 1 b2 7 hk2 (by rw [HD.out.1]; omega) hd2)
  clear hd2 hB2 hk2
  rw [Plain.q_err0] at HW2
  go_wp2_with fail
  refine HW2.out.mono ?_
  rintro e w3 ⟨rfl, hd3, k3⟩
  have HD1 := Lib.hid (show IsDev w3 g Plain.q1 from hd3)
  have z3 := k3.size
  have HB3 := Lib.hid (k3.belowB HB2.out (by omega) (by simp))
  have HF := Lib.hid (flush_any w3 g Plain.q1 (by rw [HD.out.2.1]; omega) hd3)
  clear hd3 k3
  rw [Plain.q_err1] at HF
  go_wp2_with fail
  refine HF.out.mono ?_
  rintro e w4 ⟨rfl, hd4, k4⟩
  have HD2 := Lib.hid (show IsDev w4 g Plain.q2 from hd4)
  have z4 := k4.size
  have HB4 := Lib.hid (k4.belowB HB3.out (by omega) (by simp))
  clear hd4 k4
  -- 8 to 1
  go_wp2_with fail
  refine Calls.mono (show Calls Try.prog 23 #[.int .u8 8] w4 _ from full_any 8 w4) ?_
  rintro e w5 ⟨b5, rfl, hb5, hk5, hB5⟩
  have z5 := hB5.size
  have HB5 := Lib.hid (HB4.out.trans (hB5.mono (by omega)))
  have HW5 := Lib.hid (write_full w5 g Plain.q2 1 b5 8 hk5 (by rw [HD.out.2.2.1]; omega) (HD2.out.below hB5))
  clear hB5 hk5
  go_wp2_with fail
  refine HW5.out.mono ?_
  rintro e w6 ⟨rfl, hd6, k6⟩
  have HD3 := Lib.hid (show IsDev w6 g Plain.q3 from hd6)
  have z6 := k6.size
  have HB6 := Lib.hid (k6.belowB HB5.out (by omega) (by simp))
  clear hd6 k6
  -- 9 to 3
  go_wp2_with fail
  refine Calls.mono (show Calls Try.prog 23 #[.int .u8 9] w6 _ from full_any 9 w6) ?_
  rintro e w7 ⟨b7, rfl, hb7, hk7, hB7⟩
  have z7 := hB7.size
  have HB7 := Lib.hid (HB6.out.trans (hB7.mono (by omega)))
  have HW7 := Lib.hid (write_full w7 g Plain.q3 3 b7 9 hk7 (by rw [HD.out.2.2.2.1]; omega) (HD3.out.below hB7))
  clear hB7 hk7
  go_wp2_with fail
  refine HW7.out.mono ?_
  rintro e w8 ⟨rfl, hd8, k8⟩
  have HD4 := Lib.hid (show IsDev w8 g Plain.q4 from hd8)
  have z8 := k8.size
  have HB8 := Lib.hid (k8.belowB HB7.out (by omega) (by simp))
  clear hd8 k8
  -- loose
  go_wp2_with fail
  refine (loose_any w8 g Plain.q4 HD4.out).mono ?_
  rintro e w9 ⟨v9, rfl, ho9, hB9⟩
  obtain ⟨A9, cap9, rfl, -, -, hn9, hL9, hA9⟩ := own_off ho9
  rw [Plain.q_loose] at hL9
  have HL9 := Lib.hid hL9
  have hof9 : Off [g, g + 1, g + 2] A9 (nums [1, 3]) := .inr fun ad e hm => by
    have h1 := hA9 ad e
    have h2 := HD4.out.lt
    simp at hm
    omega
  have HOF9 := Lib.hid hof9
  have hll : Plain.q4.loose.length = 2 := by rw [Plain.q_loose]; rfl
  rw [hll]
  have HD4' := Lib.hid (HD4.out.below hB9)
  have z9 := hB9.size
  have HB9 := Lib.hid (HB8.out.trans (hB9.mono (by omega)))
  clear ho9 hB9 hn9 hL9 hA9 hof9 hll
  -- cut
  go_wp2_with fail
  refine (cutAt_any w9 g Plain.q4 0 (by omega) HD4'.out).mono ?_
  rintro e w10 ⟨rfl, hd10, k10⟩
  have HD5 := Lib.hid (show IsDev w10 g Plain.q5 from hd10)
  have z10 := k10.size
  have HB10 := Lib.hid (k10.belowB HB9.out (by omega) (by simp))
  have HL10 := Lib.hid (HL9.out.kept (HOF9.out.mono (by simp)) k10)
  clear hd10 k10
  -- 1 to 2
  go_wp2_with fail
  refine Calls.mono (show Calls Try.prog 23 #[.int .u8 1] w10 _ from full_any 1 w10) ?_
  rintro e w11 ⟨b11, rfl, hb11, hk11, hB11⟩
  have z11 := hB11.size
  have HB11 := Lib.hid (HB10.out.trans (hB11.mono (by omega)))
  have HL11 := Lib.hid (HL10.out.below hB11)
  have HW11 := Lib.hid (write_full w11 g Plain.q5 2 b11 1 hk11 (by rw [HD.out.2.2.2.2.2.1]; omega) (HD5.out.below hB11))
  rw [Plain.q_err5] at HW11
  clear hB11 hk11
  go_wp2_with fail
  refine HW11.out.mono ?_
  rintro e w12 ⟨rfl, hd12, k12⟩
  have HD6 := Lib.hid (show IsDev w12 g Plain.q6 from hd12)
  have z12 := k12.size
  have HB12 := Lib.hid (k12.belowB HB11.out (by omega) (by simp))
  have HL12 := Lib.hid (HL11.out.kept (HOF9.out.mono (by simp)) k12)
  have HDN := Lib.hid (down_any w12 g Plain.q6 hd12)
  rw [Plain.q_down] at HDN
  clear hd12 k12
  go_wp2_with fail
  refine HDN.out.mono ?_
  rintro e w' ⟨rfl, rfl⟩
  -- boot
  obtain ⟨W, hW⟩ : ∃ W, (w12.alloc (.cells #[.bool false, .bool true] 4)).alloc (.cells #[.int .i64 1, .int .i64 510, .int .u32 7] 51) = W := ⟨_, rfl⟩
  have hBW : Below w12.heap.size w12 W := by rw [← hW]; exact ((Below.refl _ _).alloc (Nat.le_refl _) _).alloc (by simp) _
  have l1 : Lies W (some ⟨w12.heap.size, 0, none⟩) (bools [false, true]) := by
    have h1 := (Blk.new w12 #[.bool false, .bool true] 4).lies.below ((Below.refl _ _).alloc (Nat.le_refl _) (.cells #[.int .i64 1, .int .i64 510, .int .u32 7] 51))
    rw [hW] at h1
    exact h1
  have l2 : Lies W (some ⟨w12.heap.size + 1, 0, none⟩) (flatH [⟨1, 510, 7⟩]) := by
    have h1 := (Blk.new (w12.alloc (.cells #[.bool false, .bool true] 4)) #[.int .i64 1, .int .i64 510, .int .u32 7] 51).lies
    rw [hW, World.size_alloc] at h1
    exact h1
  have zW := hBW.size
  have HBW := Lib.hid (HB12.out.trans (hBW.mono (by omega)))
  have HBT := Lib.hid (boot_any W g Plain.q6 [false, true] [⟨1, 510, 7⟩] _ _ 2 2 1 1 rfl rfl (by unfold maxLen; omega) (by unfold maxLen; omega) l1 l2
    (.inr fun ad e hm => by injection e with e; subst e; simp at hm; omega) (.inr fun ad e hm => by injection e with e; subst e; simp at hm; omega) (by intro h hh; simp at hh; subst hh; simp) (HD6.out.below hBW))
  have HLW := Lib.hid (HL12.out.below hBW)
  have HWW := Lib.hid hW
  clear hW hBW l1 l2
  go_wp2_with fail
  rw [HWW.out]
  clear HWW
  refine HBT.out.mono ?_
  rintro e w13 ⟨rfl, hd13, k13⟩
  have HD7 := Lib.hid (show IsDev w13 g Plain.q7 from hd13)
  have z13 := k13.size
  have HB13 := Lib.hid (k13.belowB HBW.out (by omega) (by simp))
  have HL13 := Lib.hid (HLW.out.kept (HOF9.out.mono (by simp)) k13)
  have HR1 := Lib.hid (read_any w13 g Plain.q7 1 hd13)
  rw [Plain.q_read1] at HR1
  clear hd13 k13
  go_wp2_with fail
  refine HR1.out.mono ?_
  intro e w14 hg14
  obtain ⟨A14, cap14, rfl, l14, hB14⟩ := hg14.text
  have HL14 := Lib.hid l14
  have z14 := hB14.size
  have HB14 := Lib.hid (HB13.out.trans (hB14.mono (by omega)))
  have HM14 := Lib.hid (HL13.out.below hB14)
  have HD14 := Lib.hid (HD7.out.below hB14)
  have HR3 := Lib.hid (read_any w14 g Plain.q7 3 HD14.out)
  rw [Plain.q_read3] at HR3
  clear hg14 l14 hB14
  go_wp2_with fail
  refine HR3.out.mono ?_
  intro e w15 hg15
  obtain ⟨A15, cap15, rfl, l15, hB15⟩ := hg15.text
  have HL15 := Lib.hid l15
  have z15 := hB15.size
  have HB15 := Lib.hid (HB14.out.trans (hB15.mono (by omega)))
  have HM15 := Lib.hid (HM14.out.below hB15)
  have HN15 := Lib.hid (HL14.out.below hB15)
  have HD15 := Lib.hid (HD14.out.below hB15)
  have HW7 := Lib.hid (write_bad w15 g Plain.q7 0 none 0 0 (.inr (by omega)) HD15.out)
  clear hg15 l15 hB15
  go_wp2_with fail
  refine HW7.out.mono ?_
  rintro e w' ⟨rfl, rfl⟩
  have y1 : Plain.y7.length = 64 := Plain.y7_at.1
  have x1 : (Plain.full 7).length = 64 := Plain.full_length 7
  rw [x1, y1]
  obtain ⟨a15, rfl, -, -⟩ := HL15.out.at_ (k := 0) (by rw [cells_length, y1]; omega)
  clear y1 x1
  go_wp2_with fail
  have hcell : ∀ (W : World), Below w15.heap.size w15 W → ∀ j c, Plain.y7[j]? = some c → W.cell? (a15.add j) = some (.int .u8 (c.toNat : Int)) := fun W hW j c hj => by
    rcases HL15.out.below hW with h | ⟨ad, e, _, hc⟩
    · have := congrArg List.length h; rw [cells_length, Plain.y7_at.1] at this; simp at this
    · injection e with e
      subst e
      exact hc j _ (by simp [cells, hj])
  have HQ1 := Lib.hid (fun (W : World) (hW : Below w15.heap.size w15 W) => show (Instr.loadAt 5 (.pointer (some (a15.add 62)))).run Try.prog W = .ok (.int .u8 9) W from run_loadU8 W _ _ (hcell W hW 62 9 Plain.y7_at.2.1))
  have HQ2 := Lib.hid (fun (W : World) (hW : Below w15.heap.size w15 W) => show (Instr.loadAt 5 (.pointer (some (a15.add 63)))).run Try.prog W = .ok (.int .u8 201) W from run_loadU8 W _ _ (hcell W hW 63 201 Plain.y7_at.2.2))
  have HX := Lib.hid (fun (W : World) (hW : Below w15.heap.size w15 W) => show Calls Try.prog 29 #[.pointer (some ⟨g + 2, 0, none⟩)] W fun e w' => e = .returned (.int .i64 4) ∧ W = w' from by
    have := done_any W g Plain.q7 (HD15.out.below hW)
    rw [HD.out.2.2.2.2.2.2] at this
    exact this)
  have HY := Lib.hid (fun (W : World) (hW : Below w15.heap.size w15 W) => show Calls Try.prog 31 #[.pointer (some ⟨g + 2, 0, none⟩)] W fun e w' => e = .returned (.int .i64 4) ∧ W = w' from by
    have := size_any W g Plain.q7 (HD15.out.below hW)
    rw [Plain.q_rest.1] at this
    exact this)
  have HZ := Lib.hid (fun (W : World) (hW : Below w15.heap.size w15 W) => show Calls Try.prog 27 #[.pointer (some ⟨g + 2, 0, none⟩)] W fun e w' => e = .returned (.bool false) ∧ W = w' from by
    have := down_any W g Plain.q7 (HD15.out.below hW)
    rw [Plain.q_rest.2] at this
    exact this)
  clear hcell
  have hbd : Below w15.heap.size w15 w15.drew := (Below.refl _ _).drew
  refine wp_soft (by kernel_rfl) 127 [(63, [2]), (64, [63]), (65, [64]), (66, [3, 65]), (67, [66, 65]), (68, [65, 67]), (69, [68]), (70, [4, 69]), (71, [69]), (72, [70, 71, 69]), (73, [69, 72]), (74, [73]), (75, [5, 74]), (76, [75, 74]), (77, [74, 76]), (78, [77]), (79, [6, 78]), (80, [78, 79]), (81, [80]), (82, [7, 81]), (83, [82, 81]), (84, [81]), (85, [84, 81]), (86, [83, 85, 81]), (87, [81, 86]), (88, [87]), (89, [8, 88]), (90, [89, 88]), (91, [88, 90]), (92, [91]), (93, [9, 92]), (94, [93, 92]), (95, [94, 92]), (96, [95, 92]), (97, [92, 96]), (98, [97]), (99, [9, 98]), (100, [99, 98]), (101, [100, 98]), (102, [101, 98]), (103, [98, 102]), (104, [103]), (105, [10, 104]), (106, [105, 104]), (107, [104, 106]), (108, [107]), (109, [11, 108]), (110, [109, 108]), (111, [108, 110]), (112, [111]), (113, [1, 112]), (114, [113, 112]), (115, [114, 112]), (116, [112, 115]), (117, [116]), (118, [1, 117]), (119, [118, 117]), (120, [119, 117]), (121, [117, 120]), (122, [121]), (123, [1, 122]), (124, [123, 122]), (125, [124, 122]), (126, [122, 125]), (0, [126])]
    [Fact.is (.int .i64 0), Fact.is (.bool true), Fact.is (.bool true), Fact.is (.int .i64 0), Fact.is (.bool true), Fact.is (.bool true), Fact.is (.bool true), Fact.is (.slice A9 2 cap9), Fact.lie 2 (nums [1, 3]), Fact.is (.bool true), Fact.is (.bool true), Fact.is (.bool true), Fact.is (.int .i64 71), Fact.is (.bool true), Fact.is (.bool true), Fact.is (.bool true), Fact.is (.bool true), Fact.is (.bool true), Fact.is (.bool true), Fact.is (.slice A14 64 cap14), Fact.is (.string (str (Plain.full 7))), Fact.lie 64 (cells (Plain.full 7)), Fact.is (.string (str (Plain.full 7))), Fact.is (.bool true), Fact.is (.bool true), Fact.is (.bool true), Fact.is (.int .i64 0), Fact.is (.bool true), Fact.is (.bool true), Fact.is (.bool true), Fact.is (.slice (some a15) 64 cap15), Fact.is (.pointer (some (Addr.add a15 62))), Fact.is (.int .u8 9), Fact.is (.bool true), Fact.is (.bool true), Fact.is (.bool true), Fact.is (.slice (some a15) 64 cap15), Fact.is (.pointer (some (Addr.add a15 63))), Fact.is (.int .u8 201), Fact.is (.bool true), Fact.is (.bool true), Fact.is (.bool true), Fact.is (.int .i64 0), Fact.is (.bool true), Fact.is (.bool true), Fact.is (.bool true), Fact.is (.int .i64 1), Fact.is (.bool true), Fact.is (.bool true), Fact.is (.bool true), Fact.is (.pointer (some ⟨g + 2, 0, none⟩)), Fact.is (.int .i64 4), Fact.is (.bool true), Fact.is (.bool true), Fact.is (.bool true), Fact.is (.pointer (some ⟨g + 2, 0, none⟩)), Fact.is (.int .i64 4), Fact.is (.bool true), Fact.is (.bool true), Fact.is (.bool true), Fact.is (.pointer (some ⟨g + 2, 0, none⟩)), Fact.is (.bool false), Fact.is (.bool true), Fact.is (.bool true), Fact.is (.bool true)]
    (by kernel_rfl) rfl rfl ⟨?s0, ?s1, ?s2, ?s3, ?s4, ?s5, ?s6, ?s7, ?s8, ?s9, ?s10, ?s11, ?s12, ?s13, ?s14, ?s15, ?s16, ?s17, ?s18, ?s19, ?s20, ?s21, ?s22, ?s23, ?s24, ?s25, ?s26, ?s27, ?s28, ?s29, ?s30, ?s31, ?s32, ?s33, ?s34, ?s35, ?s36, ?s37, ?s38, ?s39, ?s40, ?s41, ?s42, ?s43, ?s44, ?s45, ?s46, ?s47, ?s48, ?s49, ?s50, ?s51, ?s52, ?s53, ?s54, ?s55, ?s56, ?s57, ?s58, ?s59, ?s60, ?s61, ?s62, ?s63, ?s64, trivial⟩ ?fin
  case s0 =>
    intro ρ W hb hc hf hr
    obtain ⟨r2, -⟩ := hr
    have e2 : ρ (.tmp 2) = .int .i64 0 := r2
    clear r2
    refine under_none rfl ?_
    exact ⟨e2, Below.refl _ _⟩
  case s1 =>
    intro ρ W hb hc hf hr
    obtain ⟨r63, -⟩ := hr
    have e63 : ρ (.tmp 63) = .int .i64 0 := r63
    clear r63
    refine under_none rfl ?_
    simp [execOp, e63, hc, go_sem, softUpon, Fact.is, Below.refl]
  case s2 =>
    intro ρ W hb hc hf hr
    obtain ⟨r64, -⟩ := hr
    have e64 : ρ (.tmp 64) = .bool true := r64
    clear r64
    refine under_none rfl ?_
    exact ⟨e64, Below.refl _ _⟩
  case s3 =>
    intro ρ W hb hc hf hr
    obtain ⟨r3, r65, -⟩ := hr
    have e3 : ρ (.tmp 3) = .int .i64 0 := r3
    clear r3
    have e65 : ρ (.tmp 65) = .bool true := r65
    clear r65
    refine ⟨65, rfl, .inl ⟨e65, ?_⟩⟩
    exact ⟨e3, Below.refl _ _⟩
  case s4 =>
    intro ρ W hb hc hf hr
    obtain ⟨r66, r65, -⟩ := hr
    have e66 : ρ (.tmp 66) = .int .i64 0 := r66
    clear r66
    have e65 : ρ (.tmp 65) = .bool true := r65
    clear r65
    refine ⟨65, rfl, .inl ⟨e65, ?_⟩⟩
    simp [execOp, e66, hc, go_sem, softUpon, Fact.is, Below.refl]
  case s5 =>
    intro ρ W hb hc hf hr
    obtain ⟨r65, r67, -⟩ := hr
    have e65 : ρ (.tmp 65) = .bool true := r65
    clear r65
    have e67 : ρ (.tmp 67) = .bool true := r67
    clear r67
    refine under_none rfl ?_
    simp [execOp, e65, e67, go_sem, softUpon, Fact.is, Below.refl]
  case s6 =>
    intro ρ W hb hc hf hr
    obtain ⟨r68, -⟩ := hr
    have e68 : ρ (.tmp 68) = .bool true := r68
    clear r68
    refine under_none rfl ?_
    exact ⟨e68, Below.refl _ _⟩
  case s7 =>
    intro ρ W hb hc hf hr
    obtain ⟨r4, r69, -⟩ := hr
    have e4 : ρ (.tmp 4) = .slice A9 2 cap9 := r4
    clear r4
    have e69 : ρ (.tmp 69) = .bool true := r69
    clear r69
    refine ⟨69, rfl, .inl ⟨e69, ?_⟩⟩
    exact ⟨e4, Below.refl _ _⟩
  case s8 =>
    intro ρ W hb hc hf hr
    obtain ⟨r69, -⟩ := hr
    have e69 : ρ (.tmp 69) = .bool true := r69
    clear r69
    refine ⟨69, rfl, .inl ⟨e69, ?_⟩⟩
    exact soft_ints2 hc rfl
  case s9 =>
    intro ρ W hb hc hf hr
    obtain ⟨r70, r71, r69, -⟩ := hr
    have e70 : ρ (.tmp 70) = .slice A9 2 cap9 := r70
    clear r70
    have e69 : ρ (.tmp 69) = .bool true := r69
    clear r69
    refine ⟨69, rfl, .inl ⟨e69, ?_⟩⟩
    exact soft_same7 hf e70 r71 rfl rfl (by omega) (HM15.out.below (hbd.trans (hb.mono (by simp)))) rfl (by decide)
  case s10 =>
    intro ρ W hb hc hf hr
    obtain ⟨r69, r72, -⟩ := hr
    have e69 : ρ (.tmp 69) = .bool true := r69
    clear r69
    have e72 : ρ (.tmp 72) = .bool true := r72
    clear r72
    refine under_none rfl ?_
    simp [execOp, e69, e72, go_sem, softUpon, Fact.is, Below.refl]
  case s11 =>
    intro ρ W hb hc hf hr
    obtain ⟨r73, -⟩ := hr
    have e73 : ρ (.tmp 73) = .bool true := r73
    clear r73
    refine under_none rfl ?_
    exact ⟨e73, Below.refl _ _⟩
  case s12 =>
    intro ρ W hb hc hf hr
    obtain ⟨r5, r74, -⟩ := hr
    have e5 : ρ (.tmp 5) = .int .i64 71 := r5
    clear r5
    have e74 : ρ (.tmp 74) = .bool true := r74
    clear r74
    refine ⟨74, rfl, .inl ⟨e74, ?_⟩⟩
    exact ⟨e5, Below.refl _ _⟩
  case s13 =>
    intro ρ W hb hc hf hr
    obtain ⟨r75, r74, -⟩ := hr
    have e75 : ρ (.tmp 75) = .int .i64 71 := r75
    clear r75
    have e74 : ρ (.tmp 74) = .bool true := r74
    clear r74
    refine ⟨74, rfl, .inl ⟨e74, ?_⟩⟩
    simp [execOp, e75, hc, go_sem, softUpon, Fact.is, Below.refl]
  case s14 =>
    intro ρ W hb hc hf hr
    obtain ⟨r74, r76, -⟩ := hr
    have e74 : ρ (.tmp 74) = .bool true := r74
    clear r74
    have e76 : ρ (.tmp 76) = .bool true := r76
    clear r76
    refine under_none rfl ?_
    simp [execOp, e74, e76, go_sem, softUpon, Fact.is, Below.refl]
  case s15 =>
    intro ρ W hb hc hf hr
    obtain ⟨r77, -⟩ := hr
    have e77 : ρ (.tmp 77) = .bool true := r77
    clear r77
    refine under_none rfl ?_
    exact ⟨e77, Below.refl _ _⟩
  case s16 =>
    intro ρ W hb hc hf hr
    obtain ⟨r6, r78, -⟩ := hr
    have e6 : ρ (.tmp 6) = .bool true := r6
    clear r6
    have e78 : ρ (.tmp 78) = .bool true := r78
    clear r78
    refine ⟨78, rfl, .inl ⟨e78, ?_⟩⟩
    exact ⟨e6, Below.refl _ _⟩
  case s17 =>
    intro ρ W hb hc hf hr
    obtain ⟨r78, r79, -⟩ := hr
    have e78 : ρ (.tmp 78) = .bool true := r78
    clear r78
    have e79 : ρ (.tmp 79) = .bool true := r79
    clear r79
    refine under_none rfl ?_
    simp [execOp, e78, e79, go_sem, softUpon, Fact.is, Below.refl]
  case s18 =>
    intro ρ W hb hc hf hr
    obtain ⟨r80, -⟩ := hr
    have e80 : ρ (.tmp 80) = .bool true := r80
    clear r80
    refine under_none rfl ?_
    exact ⟨e80, Below.refl _ _⟩
  case s19 =>
    intro ρ W hb hc hf hr
    obtain ⟨r7, r81, -⟩ := hr
    have e7 : ρ (.tmp 7) = .slice A14 64 cap14 := r7
    clear r7
    have e81 : ρ (.tmp 81) = .bool true := r81
    clear r81
    refine ⟨81, rfl, .inl ⟨e81, ?_⟩⟩
    exact ⟨e7, Below.refl _ _⟩
  case s20 =>
    intro ρ W hb hc hf hr
    obtain ⟨r82, r81, -⟩ := hr
    have e82 : ρ (.tmp 82) = .slice A14 64 cap14 := r82
    clear r82
    have e81 : ρ (.tmp 81) = .bool true := r81
    clear r81
    refine ⟨81, rfl, .inl ⟨e81, ?_⟩⟩
    exact soft_conv e82 (conv_lies (HN15.out.below (hbd.trans (hb.mono (by simp)))) (Plain.full_length 7)) rfl
  case s21 =>
    intro ρ W hb hc hf hr
    obtain ⟨r81, -⟩ := hr
    have e81 : ρ (.tmp 81) = .bool true := r81
    clear r81
    refine ⟨81, rfl, .inl ⟨e81, ?_⟩⟩
    exact soft_full hf (hc _) rfl
  case s22 =>
    intro ρ W hb hc hf hr
    obtain ⟨r84, r81, -⟩ := hr
    have e81 : ρ (.tmp 81) = .bool true := r81
    clear r81
    refine ⟨81, rfl, .inl ⟨e81, ?_⟩⟩
    exact soft_convL r84 (Plain.full_length 7) rfl
  case s23 =>
    intro ρ W hb hc hf hr
    obtain ⟨r83, r85, r81, -⟩ := hr
    have e83 : ρ (.tmp 83) = .string (str (Plain.full 7)) := r83
    clear r83
    have e85 : ρ (.tmp 85) = .string (str (Plain.full 7)) := r85
    clear r85
    have e81 : ρ (.tmp 81) = .bool true := r81
    clear r81
    refine ⟨81, rfl, .inl ⟨e81, ?_⟩⟩
    exact soft_bin e83 e85 rfl rfl (eq_text W _)
  case s24 =>
    intro ρ W hb hc hf hr
    obtain ⟨r81, r86, -⟩ := hr
    have e81 : ρ (.tmp 81) = .bool true := r81
    clear r81
    have e86 : ρ (.tmp 86) = .bool true := r86
    clear r86
    refine under_none rfl ?_
    simp [execOp, e81, e86, go_sem, softUpon, Fact.is, Below.refl]
  case s25 =>
    intro ρ W hb hc hf hr
    obtain ⟨r87, -⟩ := hr
    have e87 : ρ (.tmp 87) = .bool true := r87
    clear r87
    refine under_none rfl ?_
    exact ⟨e87, Below.refl _ _⟩
  case s26 =>
    intro ρ W hb hc hf hr
    obtain ⟨r8, r88, -⟩ := hr
    have e8 : ρ (.tmp 8) = .int .i64 0 := r8
    clear r8
    have e88 : ρ (.tmp 88) = .bool true := r88
    clear r88
    refine ⟨88, rfl, .inl ⟨e88, ?_⟩⟩
    exact ⟨e8, Below.refl _ _⟩
  case s27 =>
    intro ρ W hb hc hf hr
    obtain ⟨r89, r88, -⟩ := hr
    have e89 : ρ (.tmp 89) = .int .i64 0 := r89
    clear r89
    have e88 : ρ (.tmp 88) = .bool true := r88
    clear r88
    refine ⟨88, rfl, .inl ⟨e88, ?_⟩⟩
    simp [execOp, e89, hc, go_sem, softUpon, Fact.is, Below.refl]
  case s28 =>
    intro ρ W hb hc hf hr
    obtain ⟨r88, r90, -⟩ := hr
    have e88 : ρ (.tmp 88) = .bool true := r88
    clear r88
    have e90 : ρ (.tmp 90) = .bool true := r90
    clear r90
    refine under_none rfl ?_
    simp [execOp, e88, e90, go_sem, softUpon, Fact.is, Below.refl]
  case s29 =>
    intro ρ W hb hc hf hr
    obtain ⟨r91, -⟩ := hr
    have e91 : ρ (.tmp 91) = .bool true := r91
    clear r91
    refine under_none rfl ?_
    exact ⟨e91, Below.refl _ _⟩
  case s30 =>
    intro ρ W hb hc hf hr
    obtain ⟨r9, r92, -⟩ := hr
    have e9 : ρ (.tmp 9) = .slice (some a15) 64 cap15 := r9
    clear r9
    have e92 : ρ (.tmp 92) = .bool true := r92
    clear r92
    refine ⟨92, rfl, .inl ⟨e92, ?_⟩⟩
    exact ⟨e9, Below.refl _ _⟩
  case s31 =>
    intro ρ W hb hc hf hr
    obtain ⟨r93, r92, -⟩ := hr
    have e93 : ρ (.tmp 93) = .slice (some a15) 64 cap15 := r93
    clear r93
    have e92 : ρ (.tmp 92) = .bool true := r92
    clear r92
    refine ⟨92, rfl, .inl ⟨e92, ?_⟩⟩
    exact soft_index e93 (hc _) (run_idxU8 W a15 64 cap15 62 (by omega)) rfl
  case s32 =>
    intro ρ W hb hc hf hr
    obtain ⟨r94, r92, -⟩ := hr
    have e94 : ρ (.tmp 94) = .pointer (some (Addr.add a15 62)) := r94
    clear r94
    have e92 : ρ (.tmp 92) = .bool true := r92
    clear r92
    refine ⟨92, rfl, .inl ⟨e92, ?_⟩⟩
    exact soft_load e94 (HQ1.out W (hbd.trans (hb.mono (by simp)))) rfl
  case s33 =>
    intro ρ W hb hc hf hr
    obtain ⟨r95, r92, -⟩ := hr
    have e95 : ρ (.tmp 95) = .int .u8 9 := r95
    clear r95
    have e92 : ρ (.tmp 92) = .bool true := r92
    clear r92
    refine ⟨92, rfl, .inl ⟨e92, ?_⟩⟩
    simp [execOp, e95, hc, go_sem, softUpon, Fact.is, Below.refl]
  case s34 =>
    intro ρ W hb hc hf hr
    obtain ⟨r92, r96, -⟩ := hr
    have e92 : ρ (.tmp 92) = .bool true := r92
    clear r92
    have e96 : ρ (.tmp 96) = .bool true := r96
    clear r96
    refine under_none rfl ?_
    simp [execOp, e92, e96, go_sem, softUpon, Fact.is, Below.refl]
  case s35 =>
    intro ρ W hb hc hf hr
    obtain ⟨r97, -⟩ := hr
    have e97 : ρ (.tmp 97) = .bool true := r97
    clear r97
    refine under_none rfl ?_
    exact ⟨e97, Below.refl _ _⟩
  case s36 =>
    intro ρ W hb hc hf hr
    obtain ⟨r9, r98, -⟩ := hr
    have e9 : ρ (.tmp 9) = .slice (some a15) 64 cap15 := r9
    clear r9
    have e98 : ρ (.tmp 98) = .bool true := r98
    clear r98
    refine ⟨98, rfl, .inl ⟨e98, ?_⟩⟩
    exact ⟨e9, Below.refl _ _⟩
  case s37 =>
    intro ρ W hb hc hf hr
    obtain ⟨r99, r98, -⟩ := hr
    have e99 : ρ (.tmp 99) = .slice (some a15) 64 cap15 := r99
    clear r99
    have e98 : ρ (.tmp 98) = .bool true := r98
    clear r98
    refine ⟨98, rfl, .inl ⟨e98, ?_⟩⟩
    exact soft_index e99 (hc _) (run_idxU8 W a15 64 cap15 63 (by omega)) rfl
  case s38 =>
    intro ρ W hb hc hf hr
    obtain ⟨r100, r98, -⟩ := hr
    have e100 : ρ (.tmp 100) = .pointer (some (Addr.add a15 63)) := r100
    clear r100
    have e98 : ρ (.tmp 98) = .bool true := r98
    clear r98
    refine ⟨98, rfl, .inl ⟨e98, ?_⟩⟩
    exact soft_load e100 (HQ2.out W (hbd.trans (hb.mono (by simp)))) rfl
  case s39 =>
    intro ρ W hb hc hf hr
    obtain ⟨r101, r98, -⟩ := hr
    have e101 : ρ (.tmp 101) = .int .u8 201 := r101
    clear r101
    have e98 : ρ (.tmp 98) = .bool true := r98
    clear r98
    refine ⟨98, rfl, .inl ⟨e98, ?_⟩⟩
    simp [execOp, e101, hc, go_sem, softUpon, Fact.is, Below.refl]
  case s40 =>
    intro ρ W hb hc hf hr
    obtain ⟨r98, r102, -⟩ := hr
    have e98 : ρ (.tmp 98) = .bool true := r98
    clear r98
    have e102 : ρ (.tmp 102) = .bool true := r102
    clear r102
    refine under_none rfl ?_
    simp [execOp, e98, e102, go_sem, softUpon, Fact.is, Below.refl]
  case s41 =>
    intro ρ W hb hc hf hr
    obtain ⟨r103, -⟩ := hr
    have e103 : ρ (.tmp 103) = .bool true := r103
    clear r103
    refine under_none rfl ?_
    exact ⟨e103, Below.refl _ _⟩
  case s42 =>
    intro ρ W hb hc hf hr
    obtain ⟨r10, r104, -⟩ := hr
    have e10 : ρ (.tmp 10) = .int .i64 0 := r10
    clear r10
    have e104 : ρ (.tmp 104) = .bool true := r104
    clear r104
    refine ⟨104, rfl, .inl ⟨e104, ?_⟩⟩
    exact ⟨e10, Below.refl _ _⟩
  case s43 =>
    intro ρ W hb hc hf hr
    obtain ⟨r105, r104, -⟩ := hr
    have e105 : ρ (.tmp 105) = .int .i64 0 := r105
    clear r105
    have e104 : ρ (.tmp 104) = .bool true := r104
    clear r104
    refine ⟨104, rfl, .inl ⟨e104, ?_⟩⟩
    simp [execOp, e105, hc, go_sem, softUpon, Fact.is, Below.refl]
  case s44 =>
    intro ρ W hb hc hf hr
    obtain ⟨r104, r106, -⟩ := hr
    have e104 : ρ (.tmp 104) = .bool true := r104
    clear r104
    have e106 : ρ (.tmp 106) = .bool true := r106
    clear r106
    refine under_none rfl ?_
    simp [execOp, e104, e106, go_sem, softUpon, Fact.is, Below.refl]
  case s45 =>
    intro ρ W hb hc hf hr
    obtain ⟨r107, -⟩ := hr
    have e107 : ρ (.tmp 107) = .bool true := r107
    clear r107
    refine under_none rfl ?_
    exact ⟨e107, Below.refl _ _⟩
  case s46 =>
    intro ρ W hb hc hf hr
    obtain ⟨r11, r108, -⟩ := hr
    have e11 : ρ (.tmp 11) = .int .i64 1 := r11
    clear r11
    have e108 : ρ (.tmp 108) = .bool true := r108
    clear r108
    refine ⟨108, rfl, .inl ⟨e108, ?_⟩⟩
    exact ⟨e11, Below.refl _ _⟩
  case s47 =>
    intro ρ W hb hc hf hr
    obtain ⟨r109, r108, -⟩ := hr
    have e109 : ρ (.tmp 109) = .int .i64 1 := r109
    clear r109
    have e108 : ρ (.tmp 108) = .bool true := r108
    clear r108
    refine ⟨108, rfl, .inl ⟨e108, ?_⟩⟩
    simp [execOp, e109, hc, go_sem, softUpon, Fact.is, Below.refl]
  case s48 =>
    intro ρ W hb hc hf hr
    obtain ⟨r108, r110, -⟩ := hr
    have e108 : ρ (.tmp 108) = .bool true := r108
    clear r108
    have e110 : ρ (.tmp 110) = .bool true := r110
    clear r110
    refine under_none rfl ?_
    simp [execOp, e108, e110, go_sem, softUpon, Fact.is, Below.refl]
  case s49 =>
    intro ρ W hb hc hf hr
    obtain ⟨r111, -⟩ := hr
    have e111 : ρ (.tmp 111) = .bool true := r111
    clear r111
    refine under_none rfl ?_
    exact ⟨e111, Below.refl _ _⟩
  case s50 =>
    intro ρ W hb hc hf hr
    obtain ⟨r1, r112, -⟩ := hr
    have e1 : ρ (.tmp 1) = .pointer (some ⟨g + 2, 0, none⟩) := r1
    clear r1
    have e112 : ρ (.tmp 112) = .bool true := r112
    clear r112
    refine ⟨112, rfl, .inl ⟨e112, ?_⟩⟩
    exact ⟨e1, Below.refl _ _⟩
  case s51 =>
    intro ρ W hb hc hf hr
    obtain ⟨r113, r112, -⟩ := hr
    have e113 : ρ (.tmp 113) = .pointer (some ⟨g + 2, 0, none⟩) := r113
    clear r113
    have e112 : ρ (.tmp 112) = .bool true := r112
    clear r112
    refine ⟨112, rfl, .inl ⟨e112, ?_⟩⟩
    exact soft_call1 hf e113 (HX.out W (hbd.trans (hb.mono (by simp)))) rfl (by kernel_rfl) same_is
  case s52 =>
    intro ρ W hb hc hf hr
    obtain ⟨r114, r112, -⟩ := hr
    have e114 : ρ (.tmp 114) = .int .i64 4 := r114
    clear r114
    have e112 : ρ (.tmp 112) = .bool true := r112
    clear r112
    refine ⟨112, rfl, .inl ⟨e112, ?_⟩⟩
    simp [execOp, e114, hc, go_sem, softUpon, Fact.is, Below.refl]
  case s53 =>
    intro ρ W hb hc hf hr
    obtain ⟨r112, r115, -⟩ := hr
    have e112 : ρ (.tmp 112) = .bool true := r112
    clear r112
    have e115 : ρ (.tmp 115) = .bool true := r115
    clear r115
    refine under_none rfl ?_
    simp [execOp, e112, e115, go_sem, softUpon, Fact.is, Below.refl]
  case s54 =>
    intro ρ W hb hc hf hr
    obtain ⟨r116, -⟩ := hr
    have e116 : ρ (.tmp 116) = .bool true := r116
    clear r116
    refine under_none rfl ?_
    exact ⟨e116, Below.refl _ _⟩
  case s55 =>
    intro ρ W hb hc hf hr
    obtain ⟨r1, r117, -⟩ := hr
    have e1 : ρ (.tmp 1) = .pointer (some ⟨g + 2, 0, none⟩) := r1
    clear r1
    have e117 : ρ (.tmp 117) = .bool true := r117
    clear r117
    refine ⟨117, rfl, .inl ⟨e117, ?_⟩⟩
    exact ⟨e1, Below.refl _ _⟩
  case s56 =>
    intro ρ W hb hc hf hr
    obtain ⟨r118, r117, -⟩ := hr
    have e118 : ρ (.tmp 118) = .pointer (some ⟨g + 2, 0, none⟩) := r118
    clear r118
    have e117 : ρ (.tmp 117) = .bool true := r117
    clear r117
    refine ⟨117, rfl, .inl ⟨e117, ?_⟩⟩
    exact soft_call1 hf e118 (HY.out W (hbd.trans (hb.mono (by simp)))) rfl (by kernel_rfl) same_is
  case s57 =>
    intro ρ W hb hc hf hr
    obtain ⟨r119, r117, -⟩ := hr
    have e119 : ρ (.tmp 119) = .int .i64 4 := r119
    clear r119
    have e117 : ρ (.tmp 117) = .bool true := r117
    clear r117
    refine ⟨117, rfl, .inl ⟨e117, ?_⟩⟩
    simp [execOp, e119, hc, go_sem, softUpon, Fact.is, Below.refl]
  case s58 =>
    intro ρ W hb hc hf hr
    obtain ⟨r117, r120, -⟩ := hr
    have e117 : ρ (.tmp 117) = .bool true := r117
    clear r117
    have e120 : ρ (.tmp 120) = .bool true := r120
    clear r120
    refine under_none rfl ?_
    simp [execOp, e117, e120, go_sem, softUpon, Fact.is, Below.refl]
  case s59 =>
    intro ρ W hb hc hf hr
    obtain ⟨r121, -⟩ := hr
    have e121 : ρ (.tmp 121) = .bool true := r121
    clear r121
    refine under_none rfl ?_
    exact ⟨e121, Below.refl _ _⟩
  case s60 =>
    intro ρ W hb hc hf hr
    obtain ⟨r1, r122, -⟩ := hr
    have e1 : ρ (.tmp 1) = .pointer (some ⟨g + 2, 0, none⟩) := r1
    clear r1
    have e122 : ρ (.tmp 122) = .bool true := r122
    clear r122
    refine ⟨122, rfl, .inl ⟨e122, ?_⟩⟩
    exact ⟨e1, Below.refl _ _⟩
  case s61 =>
    intro ρ W hb hc hf hr
    obtain ⟨r123, r122, -⟩ := hr
    have e123 : ρ (.tmp 123) = .pointer (some ⟨g + 2, 0, none⟩) := r123
    clear r123
    have e122 : ρ (.tmp 122) = .bool true := r122
    clear r122
    refine ⟨122, rfl, .inl ⟨e122, ?_⟩⟩
    exact soft_call1 hf e123 (HZ.out W (hbd.trans (hb.mono (by simp)))) rfl (by kernel_rfl) same_is
  case s62 =>
    intro ρ W hb hc hf hr
    obtain ⟨r124, r122, -⟩ := hr
    have e124 : ρ (.tmp 124) = .bool false := r124
    clear r124
    have e122 : ρ (.tmp 122) = .bool true := r122
    clear r122
    refine ⟨122, rfl, .inl ⟨e122, ?_⟩⟩
    simp [execOp, e124, go_sem, softUpon, Fact.is, Below.refl]
  case s63 =>
    intro ρ W hb hc hf hr
    obtain ⟨r122, r125, -⟩ := hr
    have e122 : ρ (.tmp 122) = .bool true := r122
    clear r122
    have e125 : ρ (.tmp 125) = .bool true := r125
    clear r125
    refine under_none rfl ?_
    simp [execOp, e122, e125, go_sem, softUpon, Fact.is, Below.refl]
  case s64 =>
    intro ρ W hb hc hf hr
    obtain ⟨r126, -⟩ := hr
    have e126 : ρ (.tmp 126) = .bool true := r126
    clear r126
    refine under_none rfl ?_
    exact ⟨e126, Below.refl _ _⟩
  case fin =>
    intro a w1 hb hd hk
    have k0 : a.tmps.getD 0 undef = .bool true := hk 0
    go_wp2
    refine bodyPost_ret (results_tmp rfl _ _ _) hd ?_
    exact ⟨congrArg Ending.returned k0, HB15.out.trans ((hbd.trans (hb.mono (by simp))).mono (by omega))⟩
end Go.Proofs.Ytldecmodhppjpaa

