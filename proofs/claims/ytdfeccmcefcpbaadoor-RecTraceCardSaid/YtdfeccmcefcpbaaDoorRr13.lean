/-
  Layer 13, the document's answer (turntableref13): Right and Put: what they answer, of any record. Assumed: that the spans lie in memory.
-/
import Derived.Test.YtdfeccmcefcpbaaDoorRc13

namespace Go.Proofs.YtdfeccmcefcpbaaDoor
open Go.RowKit
set_option maxRecDepth 100000

theorem undrew13 {a b : World} (h : Below a.drew.heap.size a.drew b) : Below a.heap.size a b := ⟨h.os, h.tape, h.output, h.size, h.block⟩
theorem load_int13 {W : World} {a : Addr} {x : Int} (h : W.cell? a = some (.int .i64 x)) : (Instr.loadAt 3 (.pointer (some a))).run Tryd.prog W = .ok (.int .i64 x) W := by
  go_simp
theorem load_spans13 {W : World} {a : Addr} {A : Option Addr} {n c : Nat} (h : W.cell? a = some (.slice A n c)) : (Instr.loadAt 22 (.pointer (some a))).run Tryd.prog W = .ok (.slice A n c) W := by
  go_simp
theorem load_rec13 {W : World} {g : Nat} {v0 v1 v2 v3 v4 v5 : Value} (x0 : W.cell? ⟨g, 0, none⟩ = some v0) (x1 : W.cell? ⟨g, 1, none⟩ = some v1) (x2 : W.cell? ⟨g, 2, none⟩ = some v2) (x3 : W.cell? ⟨g, 3, none⟩ = some v3) (x4 : W.cell? ⟨g, 4, none⟩ = some v4) (x5 : W.cell? ⟨g, 5, none⟩ = some v5) : (Instr.loadAt 24 (.pointer (some ⟨g, 0, none⟩))).run Tryd.prog W = .ok (.agg #[v0, v1, v2, v3, v4, v5]) W := by
  go_simp
theorem geq13_t (W : World) {a b : Int} (h : b ≤ a) : (binOp .geq 2 (.int .i64 a) (.int .i64 b)).run Tryd.prog W = .ok (.bool true) W := by
  go_simp
theorem geq13_f (W : World) {a b : Int} (h : a < b) : (binOp .geq 2 (.int .i64 a) (.int .i64 b)).run Tryd.prog W = .ok (.bool false) W := by
  go_simp
theorem leq13_t (W : World) {a b : Int} (h : a ≤ b) : (binOp .leq 2 (.int .i64 a) (.int .i64 b)).run Tryd.prog W = .ok (.bool true) W := by
  go_simp
theorem leq13_f (W : World) {a b : Int} (h : b < a) : (binOp .leq 2 (.int .i64 a) (.int .i64 b)).run Tryd.prog W = .ok (.bool false) W := by
  go_simp
theorem eql13_t (W : World) (a : Int) : (binOp .eql 2 (.int .i64 a) (.int .i64 a)).run Tryd.prog W = .ok (.bool true) W := by
  go_simp
theorem eql13_f (W : World) {a b : Int} (h : (a == b) = false) : (binOp .eql 2 (.int .i64 a) (.int .i64 b)).run Tryd.prog W = .ok (.bool false) W := by
  go_simp
theorem gtr13 (W : World) {a : Int} {d : Bool} (h : decide (0 < a) = d) : (binOp .gtr 3 (.int .i64 a) (.int .i64 0)).run Tryd.prog W = .ok (.bool d) W := by
  cases d <;> go_simp

set_option maxHeartbeats 8000000 in
theorem rright13_seal (r : Rc.R) (A : Option Addr) (n cap : Nat) (w : World) (hk0 : r.kind = 1) (hi : 1 ≤ r.id ∧ r.id ≤ 281474976710656) (hc : 0 ≤ r.cls ∧ r.cls ≤ 7) (hn : r.sp.length = n) (hA : Lies w A (flat r.sp)) (hS : Fine r.sp) :
    Calls Tryd.prog 15 #[recV r A n cap] w fun e w' => e = .returned (.bool (Rc.right r)) ∧ Below w.heap.size w w' := by
  have hV : Rc.right r = true ↔ ((0 ≤ r.tick ∧ r.tick ≤ 281474976710656) ∧ Plain.isT r.sp = true ∧ (r.sp.headD Plain.Sp.zero).t = r.id) ∧ (Rc.bytes r).length ≤ 3600 := by
    rw [Rc.right_iff, Rc.may_iff]
    constructor
    · rintro ⟨⟨-, -, ⟨-, h1, h2, h3⟩ | ⟨h, -⟩⟩, h4⟩
      · exact ⟨⟨h1, h2, h3⟩, h4 hk0⟩
      · exact absurd hk0 h
    · rintro ⟨⟨h1, h2, h3⟩, h4⟩
      exact ⟨⟨hi, hc, .inl ⟨hk0, h1, h2, h3⟩⟩, fun _ => h4⟩
  have hbx := Blk.new w (recCs r A n cap) 24
  have HX := Lib.hid (fun (u : World) (h : Below (w.alloc (.cells (recCs r A n cap) 24)).heap.size (w.alloc (.cells (recCs r A n cap) 24)) u) => BoxR.six (BoxR.below hbx h))
  have hB0 : Below w.heap.size w (w.alloc (.cells (recCs r A n cap) 24)) := (Below.refl _ _).alloc (Nat.le_refl _) _
  have hs0 : (w.alloc (.cells (recCs r A n cap) 24)).heap.size = w.heap.size + 1 := by simp
  have HBY := Lib.hid (fun (W : World) (hW : Lies W A (flat r.sp)) => rbytes13_any r A n cap W (by omega) hc hn hW hS)
  have HRT := Lib.hid (fun (W : World) (hW : Lies W A (flat r.sp)) => rtright_any A n cap r.sp W hn hW hS)
  have HFZ := Lib.hid (show decide (0 < ((Fra.size ((Rc.bytes r).length : Int) : Nat) : Int)) = decide ((Rc.bytes r).length ≤ 3600) by
    have h0 := Rc.bytes_pos r
    unfold Fra.size
    by_cases h : (Rc.bytes r).length ≤ 3600
    · rw [if_pos (by omega), decide_eq_true h, decide_eq_true (by have := Plain.size_le ((Rc.bytes r).length : Int); omega)]
    · rw [if_neg (by omega), decide_eq_false h]; rfl)
  have HAD := Lib.hid (show 1 ≤ n → ∃ ad, A = some ad ∧ ∀ u, Below w.heap.size w u → u.cell? (ad.add (0 * 7)) = some (.int .i64 (r.sp.headD Plain.Sp.zero).t) from fun h1 => by
    obtain ⟨ad, had, -, hcc⟩ := at_span hA 0 (by omega)
    refine ⟨ad, had, fun u hu => ?_⟩
    rw [(hcc u hu).1, head_at (by omega)])
  have HN1 := Lib.hid (show Plain.isT r.sp = true → 1 ≤ n from fun h => by
    by_cases h1 : 1 ≤ n
    · exact h1
    · rw [Plain.isT_empty (by omega)] at h; simp at h)
  have HA0 := Lib.hid hA
  obtain ⟨BB, hBB⟩ : ∃ BB, Rc.bytes r = BB := ⟨_, rfl⟩
  have HBL := Lib.hid (cells_length BB)
  rw [hBB] at hV HFZ HBY
  obtain ⟨BL, hBL⟩ : ∃ BL, BB.length = BL := ⟨_, rfl⟩
  rw [hBL] at hV HFZ HBL
  obtain ⟨RR, hRR⟩ : ∃ RR, Rc.right r = RR := ⟨_, rfl⟩
  rw [hRR] at hV ⊢
  obtain ⟨IT, hIT⟩ : ∃ IT, Plain.isT r.sp = IT := ⟨_, rfl⟩
  rw [hIT] at hV HRT HN1
  obtain ⟨zt, hzt⟩ : ∃ zt, (r.sp.headD Plain.Sp.zero).t = zt := ⟨_, rfl⟩
  rw [hzt] at hV HAD
  unfold recV recCs at *
  obtain ⟨kind, id, cls, tick, pin, sp⟩ := r
  simp only at hk0 hi hc hn hA hV HX HBY HRT HA0 hbx hB0 hs0 ⊢
  subst hk0
  clear hbx hBB hBL hRR hIT hzt hA hS hn
  obtain ⟨w0, hw0⟩ : ∃ w0, w.alloc (.cells #[.int .i64 1, .int .i64 id, .int .i64 cls, .int .i64 tick, .bool pin, .slice A n cap] 24) = w0 := ⟨_, rfl⟩
  rw [hw0] at HX hB0 hs0
  have HW0 := Lib.hid hw0
  have HB0 := Lib.hid hB0
  have LT := Lib.hid (fun (u : World) (h : Below w0.heap.size w0 u) => load_num_at (HX.out u h).2.2.2.1)
  have LI := Lib.hid (fun (u : World) (h : Below w0.heap.size w0 u) => load_num_at (HX.out u h).2.1)
  have LS := Lib.hid (fun (u : World) (h : Below w0.heap.size w0 u) => load_spans13 (HX.out u h).2.2.2.2.2)
  have LR := Lib.hid (fun (u : World) (h : Below w0.heap.size w0 u) => load_rec13 (HX.out u h).1 (HX.out u h).2.1 (HX.out u h).2.2.1 (HX.out u h).2.2.2.1 (HX.out u h).2.2.2.2.1 (HX.out u h).2.2.2.2.2)
  have HBW := Lib.hid (fun (u : World) (h : Below w0.heap.size w0 u) => hB0.trans (h.mono hB0.size))
  obtain ⟨x0, x1, x2, x3, x4, x5⟩ := HX.out w0 (Below.refl _ _)
  have HV := Lib.hid hV
  clear hV hs0
  by_cases h1 : 0 ≤ tick
  · by_cases h2 : tick ≤ 281474976710656
    · have G1 := Lib.hid (fun (W : World) => geq13_t W h1)
      have G2 := Lib.hid (fun (W : World) => leq13_t W h2)
      by_cases h3 : IT = true
      · subst h3
        have HT := Lib.hid (fun (W : World) (h : Below w0.heap.size w0 W) => HRT.out W (HA0.out.below (HBW.out W h)))
        obtain ⟨ad, rfl, hcc⟩ := HAD.out (HN1.out rfl)
        have h1n := HN1.out rfl
        have L0 := Lib.hid (fun (u : World) (h : Below w0.heap.size w0 u) => load_num_at (hcc u (HBW.out u h)))
        clear hcc
        by_cases h4 : zt = id
        · subst h4
          have G4 := Lib.hid (fun (W : World) => eql13_t W zt)
          have G5 := Lib.hid (fun (W : World) => gtr13 W HFZ.out)
          have HB := Lib.hid (fun (W : World) (h : Below w0.heap.size w0 W) => HBY.out W (HA0.out.below (HBW.out W h)))
          have HZ := Lib.hid (fun (W : World) => rsize12_any (BL : Int) W)
          have HL := Lib.hid HBL.out
          have hR : decide (BL ≤ 3600) = RR := by
            have := HV.out
            by_cases hb : BL ≤ 3600
            · rw [decide_eq_true hb]; exact (this.2 ⟨⟨⟨h1, h2⟩, rfl, rfl⟩, hb⟩).symm
            · rw [decide_eq_false hb]; cases RR with
              | false => rfl
              | true => exact absurd (this.1 rfl).2 hb
          rw [hR] at G5
          clear hR
          generalize ((Fra.size (BL : Int) : Nat) : Int) = Z at *
          generalize hD : RR = D at *
          go_enter Tryd.func15, Tryd.ntmps15
          rw [← HW0.out] at x0 x1 x2 x3 x4 x5
          clear hw0
          go_wp2
          rw [HW0.out]
          refine wp_soft (by kernel_rfl) 88 [(24, [1]), (25, [24]), (26, [25]), (27, [26]), (28, [1, 27]), (29, [28, 27]), (30, [29, 27]), (31, [27, 30]), (32, [31]), (33, [1, 32]), (34, [33, 32]), (35, [34, 32]), (36, [32, 35]), (37, [36]), (38, [1, 37]), (39, [38, 37]), (40, [39, 37]), (41, [40, 37]), (42, [41, 37]), (43, [1, 37]), (44, [43, 37]), (45, [42, 44, 37]), (46, [37, 45]), (47, [46]), (48, [1, 47]), (49, [48, 47]), (50, [49, 47]), (51, [50, 47]), (52, [51, 47]), (53, [47, 52]), (2, [53])]
            [Fact.is (.pointer (some ⟨w.heap.size, 3, none⟩)), Fact.is (.int .i64 tick), Fact.is (.bool true), Fact.is (.bool true), Fact.is (.pointer (some ⟨w.heap.size, 3, none⟩)), Fact.is (.int .i64 tick), Fact.is (.bool true), Fact.is (.bool true), Fact.is (.bool true), Fact.is (.pointer (some ⟨w.heap.size, 5, none⟩)), Fact.is (.slice (some ad) n cap), Fact.is (.bool true), Fact.is (.bool true), Fact.is (.bool true), Fact.is (.pointer (some ⟨w.heap.size, 5, none⟩)), Fact.is (.slice (some ad) n cap), Fact.is (.pointer (some (Addr.add ad (0 * 7)))), Fact.is (.pointer (some (Addr.add ad (0 * 7)))), Fact.is (.int .i64 zt), Fact.is (.pointer (some ⟨w.heap.size, 1, none⟩)), Fact.is (.int .i64 zt), Fact.is (.bool true), Fact.is (.bool true), Fact.is (.bool true), Fact.is (.agg #[.int .i64 1, .int .i64 zt, .int .i64 cls, .int .i64 tick, .bool pin, .slice (some ad) n cap]), Fact.own BB, Fact.is (.int .i64 (BL : Int)), Fact.is (.int .i64 Z), Fact.is (.bool D), Fact.is (.bool D), Fact.is (.bool D)]
            (by kernel_rfl) rfl rfl ⟨?s0, ?s1, ?s2, ?s3, ?s4, ?s5, ?s6, ?s7, ?s8, ?s9, ?s10, ?s11, ?s12, ?s13, ?s14, ?s15, ?s16, ?s17, ?s18, ?s19, ?s20, ?s21, ?s22, ?s23, ?s24, ?s25, ?s26, ?s27, ?s28, ?s29, ?s30, trivial⟩ ?fin
          case s0 =>
            intro ρ W hb hc hf hr
            obtain ⟨r1, -⟩ := hr
            have e1 : ρ (.tmp 1) = .pointer (some ⟨w.heap.size, 0, none⟩) := r1
            clear r1
            refine under_none rfl ?_
            exact soft_field e1 rfl (fun W => by go_simp)
          case s1 =>
            intro ρ W hb hc hf hr
            obtain ⟨r24, -⟩ := hr
            have e24 : ρ (.tmp 24) = .pointer (some ⟨w.heap.size, 3, none⟩) := r24
            clear r24
            refine under_none rfl ?_
            exact soft_load e24 (LT.out W (undrew13 hb)) rfl
          case s2 =>
            intro ρ W hb hc hf hr
            obtain ⟨r25, -⟩ := hr
            have e25 : ρ (.tmp 25) = .int .i64 tick := r25
            clear r25
            refine under_none rfl ?_
            exact soft_bin e25 (hc _) rfl rfl (G1.out W)
          case s3 =>
            intro ρ W hb hc hf hr
            obtain ⟨r26, -⟩ := hr
            have e26 : ρ (.tmp 26) = .bool true := r26
            clear r26
            refine under_none rfl ?_
            exact ⟨e26, Below.refl _ _⟩
          case s4 =>
            intro ρ W hb hc hf hr
            obtain ⟨r1, r27, -⟩ := hr
            have e1 : ρ (.tmp 1) = .pointer (some ⟨w.heap.size, 0, none⟩) := r1
            clear r1
            have e27 : ρ (.tmp 27) = .bool true := r27
            clear r27
            refine ⟨27, rfl, .inl ⟨e27, ?_⟩⟩
            exact soft_field e1 rfl (fun W => by go_simp)
          case s5 =>
            intro ρ W hb hc hf hr
            obtain ⟨r28, r27, -⟩ := hr
            have e28 : ρ (.tmp 28) = .pointer (some ⟨w.heap.size, 3, none⟩) := r28
            clear r28
            have e27 : ρ (.tmp 27) = .bool true := r27
            clear r27
            refine ⟨27, rfl, .inl ⟨e27, ?_⟩⟩
            exact soft_load e28 (LT.out W (undrew13 hb)) rfl
          case s6 =>
            intro ρ W hb hc hf hr
            obtain ⟨r29, r27, -⟩ := hr
            have e29 : ρ (.tmp 29) = .int .i64 tick := r29
            clear r29
            have e27 : ρ (.tmp 27) = .bool true := r27
            clear r27
            refine ⟨27, rfl, .inl ⟨e27, ?_⟩⟩
            exact soft_bin e29 (hc _) rfl rfl (G2.out W)
          case s7 =>
            intro ρ W hb hc hf hr
            obtain ⟨r27, r30, -⟩ := hr
            have e27 : ρ (.tmp 27) = .bool true := r27
            clear r27
            have e30 : ρ (.tmp 30) = .bool true := r30
            clear r30
            refine under_none rfl ?_
            simp [execOp, e27, e30, go_sem, softUpon, Fact.is, Below.refl]
          case s8 =>
            intro ρ W hb hc hf hr
            obtain ⟨r31, -⟩ := hr
            have e31 : ρ (.tmp 31) = .bool true := r31
            clear r31
            refine under_none rfl ?_
            exact ⟨e31, Below.refl _ _⟩
          case s9 =>
            intro ρ W hb hc hf hr
            obtain ⟨r1, r32, -⟩ := hr
            have e1 : ρ (.tmp 1) = .pointer (some ⟨w.heap.size, 0, none⟩) := r1
            clear r1
            have e32 : ρ (.tmp 32) = .bool true := r32
            clear r32
            refine ⟨32, rfl, .inl ⟨e32, ?_⟩⟩
            exact soft_field e1 rfl (fun W => by go_simp)
          case s10 =>
            intro ρ W hb hc hf hr
            obtain ⟨r33, r32, -⟩ := hr
            have e33 : ρ (.tmp 33) = .pointer (some ⟨w.heap.size, 5, none⟩) := r33
            clear r33
            have e32 : ρ (.tmp 32) = .bool true := r32
            clear r32
            refine ⟨32, rfl, .inl ⟨e32, ?_⟩⟩
            exact soft_load e33 (LS.out W (undrew13 hb)) rfl
          case s11 =>
            intro ρ W hb hc hf hr
            obtain ⟨r34, r32, -⟩ := hr
            have e34 : ρ (.tmp 34) = .slice (some ad) n cap := r34
            clear r34
            have e32 : ρ (.tmp 32) = .bool true := r32
            clear r32
            refine ⟨32, rfl, .inl ⟨e32, ?_⟩⟩
            exact soft_call1 hf e34 (HT.out W (undrew13 hb)) rfl (by kernel_rfl) below_is
          case s12 =>
            intro ρ W hb hc hf hr
            obtain ⟨r32, r35, -⟩ := hr
            have e32 : ρ (.tmp 32) = .bool true := r32
            clear r32
            have e35 : ρ (.tmp 35) = .bool true := r35
            clear r35
            refine under_none rfl ?_
            simp [execOp, e32, e35, go_sem, softUpon, Fact.is, Below.refl]
          case s13 =>
            intro ρ W hb hc hf hr
            obtain ⟨r36, -⟩ := hr
            have e36 : ρ (.tmp 36) = .bool true := r36
            clear r36
            refine under_none rfl ?_
            exact ⟨e36, Below.refl _ _⟩
          case s14 =>
            intro ρ W hb hc hf hr
            obtain ⟨r1, r37, -⟩ := hr
            have e1 : ρ (.tmp 1) = .pointer (some ⟨w.heap.size, 0, none⟩) := r1
            clear r1
            have e37 : ρ (.tmp 37) = .bool true := r37
            clear r37
            refine ⟨37, rfl, .inl ⟨e37, ?_⟩⟩
            exact soft_field e1 rfl (fun W => by go_simp)
          case s15 =>
            intro ρ W hb hc hf hr
            obtain ⟨r38, r37, -⟩ := hr
            have e38 : ρ (.tmp 38) = .pointer (some ⟨w.heap.size, 5, none⟩) := r38
            clear r38
            have e37 : ρ (.tmp 37) = .bool true := r37
            clear r37
            refine ⟨37, rfl, .inl ⟨e37, ?_⟩⟩
            exact soft_load e38 (LS.out W (undrew13 hb)) rfl
          case s16 =>
            intro ρ W hb hc hf hr
            obtain ⟨r39, r37, -⟩ := hr
            have e39 : ρ (.tmp 39) = .slice (some ad) n cap := r39
            clear r39
            have e37 : ρ (.tmp 37) = .bool true := r37
            clear r37
            refine ⟨37, rfl, .inl ⟨e37, ?_⟩⟩
            exact soft_index7 e39 (hc _) (by omega) rfl
          case s17 =>
            intro ρ W hb hc hf hr
            obtain ⟨r40, r37, -⟩ := hr
            have e40 : ρ (.tmp 40) = .pointer (some (Addr.add ad (0 * 7))) := r40
            clear r40
            have e37 : ρ (.tmp 37) = .bool true := r37
            clear r37
            refine ⟨37, rfl, .inl ⟨e37, ?_⟩⟩
            exact soft_field e40 rfl (fun W => by go_simp)
          case s18 =>
            intro ρ W hb hc hf hr
            obtain ⟨r41, r37, -⟩ := hr
            have e41 : ρ (.tmp 41) = .pointer (some (Addr.add ad (0 * 7))) := r41
            clear r41
            have e37 : ρ (.tmp 37) = .bool true := r37
            clear r37
            refine ⟨37, rfl, .inl ⟨e37, ?_⟩⟩
            exact soft_load e41 (L0.out W (undrew13 hb)) rfl
          case s19 =>
            intro ρ W hb hc hf hr
            obtain ⟨r1, r37, -⟩ := hr
            have e1 : ρ (.tmp 1) = .pointer (some ⟨w.heap.size, 0, none⟩) := r1
            clear r1
            have e37 : ρ (.tmp 37) = .bool true := r37
            clear r37
            refine ⟨37, rfl, .inl ⟨e37, ?_⟩⟩
            exact soft_field e1 rfl (fun W => by go_simp)
          case s20 =>
            intro ρ W hb hc hf hr
            obtain ⟨r43, r37, -⟩ := hr
            have e43 : ρ (.tmp 43) = .pointer (some ⟨w.heap.size, 1, none⟩) := r43
            clear r43
            have e37 : ρ (.tmp 37) = .bool true := r37
            clear r37
            refine ⟨37, rfl, .inl ⟨e37, ?_⟩⟩
            exact soft_load e43 (LI.out W (undrew13 hb)) rfl
          case s21 =>
            intro ρ W hb hc hf hr
            obtain ⟨r42, r44, r37, -⟩ := hr
            have e42 : ρ (.tmp 42) = .int .i64 zt := r42
            clear r42
            have e44 : ρ (.tmp 44) = .int .i64 zt := r44
            clear r44
            have e37 : ρ (.tmp 37) = .bool true := r37
            clear r37
            refine ⟨37, rfl, .inl ⟨e37, ?_⟩⟩
            exact soft_bin e42 e44 rfl rfl (G4.out W)
          case s22 =>
            intro ρ W hb hc hf hr
            obtain ⟨r37, r45, -⟩ := hr
            have e37 : ρ (.tmp 37) = .bool true := r37
            clear r37
            have e45 : ρ (.tmp 45) = .bool true := r45
            clear r45
            refine under_none rfl ?_
            simp [execOp, e37, e45, go_sem, softUpon, Fact.is, Below.refl]
          case s23 =>
            intro ρ W hb hc hf hr
            obtain ⟨r46, -⟩ := hr
            have e46 : ρ (.tmp 46) = .bool true := r46
            clear r46
            refine under_none rfl ?_
            exact ⟨e46, Below.refl _ _⟩
          case s24 =>
            intro ρ W hb hc hf hr
            obtain ⟨r1, r47, -⟩ := hr
            have e1 : ρ (.tmp 1) = .pointer (some ⟨w.heap.size, 0, none⟩) := r1
            clear r1
            have e47 : ρ (.tmp 47) = .bool true := r47
            clear r47
            refine ⟨47, rfl, .inl ⟨e47, ?_⟩⟩
            exact soft_load e1 (LR.out W (undrew13 hb)) rfl
          case s25 =>
            intro ρ W hb hc hf hr
            obtain ⟨r48, r47, -⟩ := hr
            have e48 : ρ (.tmp 48) = .agg #[.int .i64 1, .int .i64 zt, .int .i64 cls, .int .i64 tick, .bool pin, .slice (some ad) n cap] := r48
            clear r48
            have e47 : ρ (.tmp 47) = .bool true := r47
            clear r47
            refine ⟨47, rfl, .inl ⟨e47, ?_⟩⟩
            exact soft_call1 hf e48 (HB.out W (undrew13 hb)) rfl (by kernel_rfl) made_own
          case s26 =>
            intro ρ W hb hc hf hr
            obtain ⟨r49, r47, -⟩ := hr
            have e47 : ρ (.tmp 47) = .bool true := r47
            clear r47
            refine ⟨47, rfl, .inl ⟨e47, ?_⟩⟩
            (obtain ⟨B9, n9, h9⟩ := r49; obtain ⟨A9, c9, e9, -, -, hl9, -⟩ := own_form h9; rw [HL.out] at hl9; subst hl9; simp [e9, go_sem, softUpon, Fact.is, Below.refl])
          case s27 =>
            intro ρ W hb hc hf hr
            obtain ⟨r50, r47, -⟩ := hr
            have e50 : ρ (.tmp 50) = .int .i64 (BL : Int) := r50
            clear r50
            have e47 : ρ (.tmp 47) = .bool true := r47
            clear r47
            refine ⟨47, rfl, .inl ⟨e47, ?_⟩⟩
            exact soft_call1 hf e50 (HZ.out W) rfl (by kernel_rfl) same_is
          case s28 =>
            intro ρ W hb hc hf hr
            obtain ⟨r51, r47, -⟩ := hr
            have e51 : ρ (.tmp 51) = .int .i64 Z := r51
            clear r51
            have e47 : ρ (.tmp 47) = .bool true := r47
            clear r47
            refine ⟨47, rfl, .inl ⟨e47, ?_⟩⟩
            exact soft_bin e51 (hc _) rfl rfl (G5.out W)
          case s29 =>
            intro ρ W hb hc hf hr
            obtain ⟨r47, r52, -⟩ := hr
            have e47 : ρ (.tmp 47) = .bool true := r47
            clear r47
            have e52 : ρ (.tmp 52) = .bool D := r52
            clear r52
            refine under_none rfl ?_
            simp [execOp, e47, e52, go_sem, softUpon, Fact.is, Below.refl]
          case s30 =>
            intro ρ W hb hc hf hr
            obtain ⟨r53, -⟩ := hr
            have e53 : ρ (.tmp 53) = .bool D := r53
            clear r53
            refine under_none rfl ?_
            exact ⟨e53, Below.refl _ _⟩
          case fin =>
            intro a w4 hb hd hk
            have h4 : a.tmps.getD 2 undef = .bool D := hk 2
            clear hk
            have hc4 := HBW.out w4 (undrew13 hb)
            go_wp2
            refine bodyPost_ret (results_tmp rfl _ _ _) hd ?_
            exact ⟨by rw [h4], hc4⟩
        · have HF := Lib.hid (show RR = false by
            cases RR with
            | false => rfl
            | true => exact absurd (HV.out.1 rfl).1.2.2 h4)
          have G4 := Lib.hid (fun (W : World) => eql13_f (a := zt) (b := id) W (by rw [beq_eq_false_iff_ne]; exact h4))
          go_enter Tryd.func15, Tryd.ntmps15
          rw [← HW0.out] at x0 x1 x2 x3 x4 x5
          clear hw0
          go_wp2
          rw [HW0.out]
          refine wp_soft (by kernel_rfl) 88 [(24, [1]), (25, [24]), (26, [25]), (27, [26]), (28, [1, 27]), (29, [28, 27]), (30, [29, 27]), (31, [27, 30]), (32, [31]), (33, [1, 32]), (34, [33, 32]), (35, [34, 32]), (36, [32, 35]), (37, [36]), (38, [1, 37]), (39, [38, 37]), (40, [39, 37]), (41, [40, 37]), (42, [41, 37]), (43, [1, 37]), (44, [43, 37]), (45, [42, 44, 37]), (46, [37, 45]), (47, [46]), (48, [1, 47]), (49, [48, 47]), (50, [49, 47]), (51, [50, 47]), (52, [51, 47]), (53, [47, 52]), (2, [53])]
            [Fact.is (.pointer (some ⟨w.heap.size, 3, none⟩)), Fact.is (.int .i64 tick), Fact.is (.bool true), Fact.is (.bool true), Fact.is (.pointer (some ⟨w.heap.size, 3, none⟩)), Fact.is (.int .i64 tick), Fact.is (.bool true), Fact.is (.bool true), Fact.is (.bool true), Fact.is (.pointer (some ⟨w.heap.size, 5, none⟩)), Fact.is (.slice (some ad) n cap), Fact.is (.bool true), Fact.is (.bool true), Fact.is (.bool true), Fact.is (.pointer (some ⟨w.heap.size, 5, none⟩)), Fact.is (.slice (some ad) n cap), Fact.is (.pointer (some (Addr.add ad (0 * 7)))), Fact.is (.pointer (some (Addr.add ad (0 * 7)))), Fact.is (.int .i64 zt), Fact.is (.pointer (some ⟨w.heap.size, 1, none⟩)), Fact.is (.int .i64 id), Fact.is (.bool false), Fact.is (.bool false), Fact.is (.bool false), Fact.is (undef), Fact.is (undef), Fact.is (undef), Fact.is (undef), Fact.is (undef), Fact.is (.bool false), Fact.is (.bool false)]
            (by kernel_rfl) rfl rfl ⟨?s0, ?s1, ?s2, ?s3, ?s4, ?s5, ?s6, ?s7, ?s8, ?s9, ?s10, ?s11, ?s12, ?s13, ?s14, ?s15, ?s16, ?s17, ?s18, ?s19, ?s20, ?s21, ?s22, ?s23, ?s24, ?s25, ?s26, ?s27, ?s28, ?s29, ?s30, trivial⟩ ?fin
          case s0 =>
            intro ρ W hb hc hf hr
            obtain ⟨r1, -⟩ := hr
            have e1 : ρ (.tmp 1) = .pointer (some ⟨w.heap.size, 0, none⟩) := r1
            clear r1
            refine under_none rfl ?_
            exact soft_field e1 rfl (fun W => by go_simp)
          case s1 =>
            intro ρ W hb hc hf hr
            obtain ⟨r24, -⟩ := hr
            have e24 : ρ (.tmp 24) = .pointer (some ⟨w.heap.size, 3, none⟩) := r24
            clear r24
            refine under_none rfl ?_
            exact soft_load e24 (LT.out W (undrew13 hb)) rfl
          case s2 =>
            intro ρ W hb hc hf hr
            obtain ⟨r25, -⟩ := hr
            have e25 : ρ (.tmp 25) = .int .i64 tick := r25
            clear r25
            refine under_none rfl ?_
            exact soft_bin e25 (hc _) rfl rfl (G1.out W)
          case s3 =>
            intro ρ W hb hc hf hr
            obtain ⟨r26, -⟩ := hr
            have e26 : ρ (.tmp 26) = .bool true := r26
            clear r26
            refine under_none rfl ?_
            exact ⟨e26, Below.refl _ _⟩
          case s4 =>
            intro ρ W hb hc hf hr
            obtain ⟨r1, r27, -⟩ := hr
            have e1 : ρ (.tmp 1) = .pointer (some ⟨w.heap.size, 0, none⟩) := r1
            clear r1
            have e27 : ρ (.tmp 27) = .bool true := r27
            clear r27
            refine ⟨27, rfl, .inl ⟨e27, ?_⟩⟩
            exact soft_field e1 rfl (fun W => by go_simp)
          case s5 =>
            intro ρ W hb hc hf hr
            obtain ⟨r28, r27, -⟩ := hr
            have e28 : ρ (.tmp 28) = .pointer (some ⟨w.heap.size, 3, none⟩) := r28
            clear r28
            have e27 : ρ (.tmp 27) = .bool true := r27
            clear r27
            refine ⟨27, rfl, .inl ⟨e27, ?_⟩⟩
            exact soft_load e28 (LT.out W (undrew13 hb)) rfl
          case s6 =>
            intro ρ W hb hc hf hr
            obtain ⟨r29, r27, -⟩ := hr
            have e29 : ρ (.tmp 29) = .int .i64 tick := r29
            clear r29
            have e27 : ρ (.tmp 27) = .bool true := r27
            clear r27
            refine ⟨27, rfl, .inl ⟨e27, ?_⟩⟩
            exact soft_bin e29 (hc _) rfl rfl (G2.out W)
          case s7 =>
            intro ρ W hb hc hf hr
            obtain ⟨r27, r30, -⟩ := hr
            have e27 : ρ (.tmp 27) = .bool true := r27
            clear r27
            have e30 : ρ (.tmp 30) = .bool true := r30
            clear r30
            refine under_none rfl ?_
            simp [execOp, e27, e30, go_sem, softUpon, Fact.is, Below.refl]
          case s8 =>
            intro ρ W hb hc hf hr
            obtain ⟨r31, -⟩ := hr
            have e31 : ρ (.tmp 31) = .bool true := r31
            clear r31
            refine under_none rfl ?_
            exact ⟨e31, Below.refl _ _⟩
          case s9 =>
            intro ρ W hb hc hf hr
            obtain ⟨r1, r32, -⟩ := hr
            have e1 : ρ (.tmp 1) = .pointer (some ⟨w.heap.size, 0, none⟩) := r1
            clear r1
            have e32 : ρ (.tmp 32) = .bool true := r32
            clear r32
            refine ⟨32, rfl, .inl ⟨e32, ?_⟩⟩
            exact soft_field e1 rfl (fun W => by go_simp)
          case s10 =>
            intro ρ W hb hc hf hr
            obtain ⟨r33, r32, -⟩ := hr
            have e33 : ρ (.tmp 33) = .pointer (some ⟨w.heap.size, 5, none⟩) := r33
            clear r33
            have e32 : ρ (.tmp 32) = .bool true := r32
            clear r32
            refine ⟨32, rfl, .inl ⟨e32, ?_⟩⟩
            exact soft_load e33 (LS.out W (undrew13 hb)) rfl
          case s11 =>
            intro ρ W hb hc hf hr
            obtain ⟨r34, r32, -⟩ := hr
            have e34 : ρ (.tmp 34) = .slice (some ad) n cap := r34
            clear r34
            have e32 : ρ (.tmp 32) = .bool true := r32
            clear r32
            refine ⟨32, rfl, .inl ⟨e32, ?_⟩⟩
            exact soft_call1 hf e34 (HT.out W (undrew13 hb)) rfl (by kernel_rfl) below_is
          case s12 =>
            intro ρ W hb hc hf hr
            obtain ⟨r32, r35, -⟩ := hr
            have e32 : ρ (.tmp 32) = .bool true := r32
            clear r32
            have e35 : ρ (.tmp 35) = .bool true := r35
            clear r35
            refine under_none rfl ?_
            simp [execOp, e32, e35, go_sem, softUpon, Fact.is, Below.refl]
          case s13 =>
            intro ρ W hb hc hf hr
            obtain ⟨r36, -⟩ := hr
            have e36 : ρ (.tmp 36) = .bool true := r36
            clear r36
            refine under_none rfl ?_
            exact ⟨e36, Below.refl _ _⟩
          case s14 =>
            intro ρ W hb hc hf hr
            obtain ⟨r1, r37, -⟩ := hr
            have e1 : ρ (.tmp 1) = .pointer (some ⟨w.heap.size, 0, none⟩) := r1
            clear r1
            have e37 : ρ (.tmp 37) = .bool true := r37
            clear r37
            refine ⟨37, rfl, .inl ⟨e37, ?_⟩⟩
            exact soft_field e1 rfl (fun W => by go_simp)
          case s15 =>
            intro ρ W hb hc hf hr
            obtain ⟨r38, r37, -⟩ := hr
            have e38 : ρ (.tmp 38) = .pointer (some ⟨w.heap.size, 5, none⟩) := r38
            clear r38
            have e37 : ρ (.tmp 37) = .bool true := r37
            clear r37
            refine ⟨37, rfl, .inl ⟨e37, ?_⟩⟩
            exact soft_load e38 (LS.out W (undrew13 hb)) rfl
          case s16 =>
            intro ρ W hb hc hf hr
            obtain ⟨r39, r37, -⟩ := hr
            have e39 : ρ (.tmp 39) = .slice (some ad) n cap := r39
            clear r39
            have e37 : ρ (.tmp 37) = .bool true := r37
            clear r37
            refine ⟨37, rfl, .inl ⟨e37, ?_⟩⟩
            exact soft_index7 e39 (hc _) (by omega) rfl
          case s17 =>
            intro ρ W hb hc hf hr
            obtain ⟨r40, r37, -⟩ := hr
            have e40 : ρ (.tmp 40) = .pointer (some (Addr.add ad (0 * 7))) := r40
            clear r40
            have e37 : ρ (.tmp 37) = .bool true := r37
            clear r37
            refine ⟨37, rfl, .inl ⟨e37, ?_⟩⟩
            exact soft_field e40 rfl (fun W => by go_simp)
          case s18 =>
            intro ρ W hb hc hf hr
            obtain ⟨r41, r37, -⟩ := hr
            have e41 : ρ (.tmp 41) = .pointer (some (Addr.add ad (0 * 7))) := r41
            clear r41
            have e37 : ρ (.tmp 37) = .bool true := r37
            clear r37
            refine ⟨37, rfl, .inl ⟨e37, ?_⟩⟩
            exact soft_load e41 (L0.out W (undrew13 hb)) rfl
          case s19 =>
            intro ρ W hb hc hf hr
            obtain ⟨r1, r37, -⟩ := hr
            have e1 : ρ (.tmp 1) = .pointer (some ⟨w.heap.size, 0, none⟩) := r1
            clear r1
            have e37 : ρ (.tmp 37) = .bool true := r37
            clear r37
            refine ⟨37, rfl, .inl ⟨e37, ?_⟩⟩
            exact soft_field e1 rfl (fun W => by go_simp)
          case s20 =>
            intro ρ W hb hc hf hr
            obtain ⟨r43, r37, -⟩ := hr
            have e43 : ρ (.tmp 43) = .pointer (some ⟨w.heap.size, 1, none⟩) := r43
            clear r43
            have e37 : ρ (.tmp 37) = .bool true := r37
            clear r37
            refine ⟨37, rfl, .inl ⟨e37, ?_⟩⟩
            exact soft_load e43 (LI.out W (undrew13 hb)) rfl
          case s21 =>
            intro ρ W hb hc hf hr
            obtain ⟨r42, r44, r37, -⟩ := hr
            have e42 : ρ (.tmp 42) = .int .i64 zt := r42
            clear r42
            have e44 : ρ (.tmp 44) = .int .i64 id := r44
            clear r44
            have e37 : ρ (.tmp 37) = .bool true := r37
            clear r37
            refine ⟨37, rfl, .inl ⟨e37, ?_⟩⟩
            exact soft_bin e42 e44 rfl rfl (G4.out W)
          case s22 =>
            intro ρ W hb hc hf hr
            obtain ⟨r37, r45, -⟩ := hr
            have e37 : ρ (.tmp 37) = .bool true := r37
            clear r37
            have e45 : ρ (.tmp 45) = .bool false := r45
            clear r45
            refine under_none rfl ?_
            simp [execOp, e37, e45, go_sem, softUpon, Fact.is, Below.refl]
          case s23 =>
            intro ρ W hb hc hf hr
            obtain ⟨r46, -⟩ := hr
            have e46 : ρ (.tmp 46) = .bool false := r46
            clear r46
            refine under_none rfl ?_
            exact ⟨e46, Below.refl _ _⟩
          case s24 =>
            intro ρ W hb hc hf hr
            obtain ⟨r1, r47, -⟩ := hr
            have e1 : ρ (.tmp 1) = .pointer (some ⟨w.heap.size, 0, none⟩) := r1
            clear r1
            have e47 : ρ (.tmp 47) = .bool false := r47
            clear r47
            exact ⟨47, rfl, .inr (.inl ⟨e47, rfl⟩)⟩
          case s25 =>
            intro ρ W hb hc hf hr
            obtain ⟨r48, r47, -⟩ := hr
            have e48 : ρ (.tmp 48) = undef := r48
            clear r48
            have e47 : ρ (.tmp 47) = .bool false := r47
            clear r47
            exact ⟨47, rfl, .inr (.inl ⟨e47, rfl⟩)⟩
          case s26 =>
            intro ρ W hb hc hf hr
            obtain ⟨r49, r47, -⟩ := hr
            have e49 : ρ (.tmp 49) = undef := r49
            clear r49
            have e47 : ρ (.tmp 47) = .bool false := r47
            clear r47
            exact ⟨47, rfl, .inr (.inl ⟨e47, rfl⟩)⟩
          case s27 =>
            intro ρ W hb hc hf hr
            obtain ⟨r50, r47, -⟩ := hr
            have e50 : ρ (.tmp 50) = undef := r50
            clear r50
            have e47 : ρ (.tmp 47) = .bool false := r47
            clear r47
            exact ⟨47, rfl, .inr (.inl ⟨e47, rfl⟩)⟩
          case s28 =>
            intro ρ W hb hc hf hr
            obtain ⟨r51, r47, -⟩ := hr
            have e51 : ρ (.tmp 51) = undef := r51
            clear r51
            have e47 : ρ (.tmp 47) = .bool false := r47
            clear r47
            exact ⟨47, rfl, .inr (.inl ⟨e47, rfl⟩)⟩
          case s29 =>
            intro ρ W hb hc hf hr
            obtain ⟨r47, r52, -⟩ := hr
            have e47 : ρ (.tmp 47) = .bool false := r47
            clear r47
            have e52 : ρ (.tmp 52) = undef := r52
            clear r52
            refine under_none rfl ?_
            simp [execOp, e47, hc, go_sem, softUpon, Fact.is, Below.refl]
          case s30 =>
            intro ρ W hb hc hf hr
            obtain ⟨r53, -⟩ := hr
            have e53 : ρ (.tmp 53) = .bool false := r53
            clear r53
            refine under_none rfl ?_
            exact ⟨e53, Below.refl _ _⟩
          case fin =>
            intro a w4 hb hd hk
            have h4 : a.tmps.getD 2 undef = .bool false := hk 2
            clear hk
            have hc4 := HBW.out w4 (undrew13 hb)
            go_wp2
            refine bodyPost_ret (results_tmp rfl _ _ _) hd ?_
            exact ⟨by rw [h4, HF.out], hc4⟩
      · have HF := Lib.hid (show RR = false by
          cases RR with
          | false => rfl
          | true => exact absurd (HV.out.1 rfl).1.2.1 h3)
        rw [Bool.not_eq_true] at h3
        subst h3
        have HT := Lib.hid (fun (W : World) (h : Below w0.heap.size w0 W) => HRT.out W (HA0.out.below (HBW.out W h)))
        go_enter Tryd.func15, Tryd.ntmps15
        rw [← HW0.out] at x0 x1 x2 x3 x4 x5
        clear hw0
        go_wp2
        rw [HW0.out]
        refine wp_soft (by kernel_rfl) 88 [(24, [1]), (25, [24]), (26, [25]), (27, [26]), (28, [1, 27]), (29, [28, 27]), (30, [29, 27]), (31, [27, 30]), (32, [31]), (33, [1, 32]), (34, [33, 32]), (35, [34, 32]), (36, [32, 35]), (37, [36]), (38, [1, 37]), (39, [38, 37]), (40, [39, 37]), (41, [40, 37]), (42, [41, 37]), (43, [1, 37]), (44, [43, 37]), (45, [42, 44, 37]), (46, [37, 45]), (47, [46]), (48, [1, 47]), (49, [48, 47]), (50, [49, 47]), (51, [50, 47]), (52, [51, 47]), (53, [47, 52]), (2, [53])]
          [Fact.is (.pointer (some ⟨w.heap.size, 3, none⟩)), Fact.is (.int .i64 tick), Fact.is (.bool true), Fact.is (.bool true), Fact.is (.pointer (some ⟨w.heap.size, 3, none⟩)), Fact.is (.int .i64 tick), Fact.is (.bool true), Fact.is (.bool true), Fact.is (.bool true), Fact.is (.pointer (some ⟨w.heap.size, 5, none⟩)), Fact.is (.slice A n cap), Fact.is (.bool false), Fact.is (.bool false), Fact.is (.bool false), Fact.is (undef), Fact.is (undef), Fact.is (undef), Fact.is (undef), Fact.is (undef), Fact.is (undef), Fact.is (undef), Fact.is (undef), Fact.is (.bool false), Fact.is (.bool false), Fact.is (undef), Fact.is (undef), Fact.is (undef), Fact.is (undef), Fact.is (undef), Fact.is (.bool false), Fact.is (.bool false)]
          (by kernel_rfl) rfl rfl ⟨?s0, ?s1, ?s2, ?s3, ?s4, ?s5, ?s6, ?s7, ?s8, ?s9, ?s10, ?s11, ?s12, ?s13, ?s14, ?s15, ?s16, ?s17, ?s18, ?s19, ?s20, ?s21, ?s22, ?s23, ?s24, ?s25, ?s26, ?s27, ?s28, ?s29, ?s30, trivial⟩ ?fin
        case s0 =>
          intro ρ W hb hc hf hr
          obtain ⟨r1, -⟩ := hr
          have e1 : ρ (.tmp 1) = .pointer (some ⟨w.heap.size, 0, none⟩) := r1
          clear r1
          refine under_none rfl ?_
          exact soft_field e1 rfl (fun W => by go_simp)
        case s1 =>
          intro ρ W hb hc hf hr
          obtain ⟨r24, -⟩ := hr
          have e24 : ρ (.tmp 24) = .pointer (some ⟨w.heap.size, 3, none⟩) := r24
          clear r24
          refine under_none rfl ?_
          exact soft_load e24 (LT.out W (undrew13 hb)) rfl
        case s2 =>
          intro ρ W hb hc hf hr
          obtain ⟨r25, -⟩ := hr
          have e25 : ρ (.tmp 25) = .int .i64 tick := r25
          clear r25
          refine under_none rfl ?_
          exact soft_bin e25 (hc _) rfl rfl (G1.out W)
        case s3 =>
          intro ρ W hb hc hf hr
          obtain ⟨r26, -⟩ := hr
          have e26 : ρ (.tmp 26) = .bool true := r26
          clear r26
          refine under_none rfl ?_
          exact ⟨e26, Below.refl _ _⟩
        case s4 =>
          intro ρ W hb hc hf hr
          obtain ⟨r1, r27, -⟩ := hr
          have e1 : ρ (.tmp 1) = .pointer (some ⟨w.heap.size, 0, none⟩) := r1
          clear r1
          have e27 : ρ (.tmp 27) = .bool true := r27
          clear r27
          refine ⟨27, rfl, .inl ⟨e27, ?_⟩⟩
          exact soft_field e1 rfl (fun W => by go_simp)
        case s5 =>
          intro ρ W hb hc hf hr
          obtain ⟨r28, r27, -⟩ := hr
          have e28 : ρ (.tmp 28) = .pointer (some ⟨w.heap.size, 3, none⟩) := r28
          clear r28
          have e27 : ρ (.tmp 27) = .bool true := r27
          clear r27
          refine ⟨27, rfl, .inl ⟨e27, ?_⟩⟩
          exact soft_load e28 (LT.out W (undrew13 hb)) rfl
        case s6 =>
          intro ρ W hb hc hf hr
          obtain ⟨r29, r27, -⟩ := hr
          have e29 : ρ (.tmp 29) = .int .i64 tick := r29
          clear r29
          have e27 : ρ (.tmp 27) = .bool true := r27
          clear r27
          refine ⟨27, rfl, .inl ⟨e27, ?_⟩⟩
          exact soft_bin e29 (hc _) rfl rfl (G2.out W)
        case s7 =>
          intro ρ W hb hc hf hr
          obtain ⟨r27, r30, -⟩ := hr
          have e27 : ρ (.tmp 27) = .bool true := r27
          clear r27
          have e30 : ρ (.tmp 30) = .bool true := r30
          clear r30
          refine under_none rfl ?_
          simp [execOp, e27, e30, go_sem, softUpon, Fact.is, Below.refl]
        case s8 =>
          intro ρ W hb hc hf hr
          obtain ⟨r31, -⟩ := hr
          have e31 : ρ (.tmp 31) = .bool true := r31
          clear r31
          refine under_none rfl ?_
          exact ⟨e31, Below.refl _ _⟩
        case s9 =>
          intro ρ W hb hc hf hr
          obtain ⟨r1, r32, -⟩ := hr
          have e1 : ρ (.tmp 1) = .pointer (some ⟨w.heap.size, 0, none⟩) := r1
          clear r1
          have e32 : ρ (.tmp 32) = .bool true := r32
          clear r32
          refine ⟨32, rfl, .inl ⟨e32, ?_⟩⟩
          exact soft_field e1 rfl (fun W => by go_simp)
        case s10 =>
          intro ρ W hb hc hf hr
          obtain ⟨r33, r32, -⟩ := hr
          have e33 : ρ (.tmp 33) = .pointer (some ⟨w.heap.size, 5, none⟩) := r33
          clear r33
          have e32 : ρ (.tmp 32) = .bool true := r32
          clear r32
          refine ⟨32, rfl, .inl ⟨e32, ?_⟩⟩
          exact soft_load e33 (LS.out W (undrew13 hb)) rfl
        case s11 =>
          intro ρ W hb hc hf hr
          obtain ⟨r34, r32, -⟩ := hr
          have e34 : ρ (.tmp 34) = .slice A n cap := r34
          clear r34
          have e32 : ρ (.tmp 32) = .bool true := r32
          clear r32
          refine ⟨32, rfl, .inl ⟨e32, ?_⟩⟩
          exact soft_call1 hf e34 (HT.out W (undrew13 hb)) rfl (by kernel_rfl) below_is
        case s12 =>
          intro ρ W hb hc hf hr
          obtain ⟨r32, r35, -⟩ := hr
          have e32 : ρ (.tmp 32) = .bool true := r32
          clear r32
          have e35 : ρ (.tmp 35) = .bool false := r35
          clear r35
          refine under_none rfl ?_
          simp [execOp, e32, e35, go_sem, softUpon, Fact.is, Below.refl]
        case s13 =>
          intro ρ W hb hc hf hr
          obtain ⟨r36, -⟩ := hr
          have e36 : ρ (.tmp 36) = .bool false := r36
          clear r36
          refine under_none rfl ?_
          exact ⟨e36, Below.refl _ _⟩
        case s14 =>
          intro ρ W hb hc hf hr
          obtain ⟨r1, r37, -⟩ := hr
          have e1 : ρ (.tmp 1) = .pointer (some ⟨w.heap.size, 0, none⟩) := r1
          clear r1
          have e37 : ρ (.tmp 37) = .bool false := r37
          clear r37
          exact ⟨37, rfl, .inr (.inl ⟨e37, rfl⟩)⟩
        case s15 =>
          intro ρ W hb hc hf hr
          obtain ⟨r38, r37, -⟩ := hr
          have e38 : ρ (.tmp 38) = undef := r38
          clear r38
          have e37 : ρ (.tmp 37) = .bool false := r37
          clear r37
          exact ⟨37, rfl, .inr (.inl ⟨e37, rfl⟩)⟩
        case s16 =>
          intro ρ W hb hc hf hr
          obtain ⟨r39, r37, -⟩ := hr
          have e39 : ρ (.tmp 39) = undef := r39
          clear r39
          have e37 : ρ (.tmp 37) = .bool false := r37
          clear r37
          exact ⟨37, rfl, .inr (.inl ⟨e37, rfl⟩)⟩
        case s17 =>
          intro ρ W hb hc hf hr
          obtain ⟨r40, r37, -⟩ := hr
          have e40 : ρ (.tmp 40) = undef := r40
          clear r40
          have e37 : ρ (.tmp 37) = .bool false := r37
          clear r37
          exact ⟨37, rfl, .inr (.inl ⟨e37, rfl⟩)⟩
        case s18 =>
          intro ρ W hb hc hf hr
          obtain ⟨r41, r37, -⟩ := hr
          have e41 : ρ (.tmp 41) = undef := r41
          clear r41
          have e37 : ρ (.tmp 37) = .bool false := r37
          clear r37
          exact ⟨37, rfl, .inr (.inl ⟨e37, rfl⟩)⟩
        case s19 =>
          intro ρ W hb hc hf hr
          obtain ⟨r1, r37, -⟩ := hr
          have e1 : ρ (.tmp 1) = .pointer (some ⟨w.heap.size, 0, none⟩) := r1
          clear r1
          have e37 : ρ (.tmp 37) = .bool false := r37
          clear r37
          exact ⟨37, rfl, .inr (.inl ⟨e37, rfl⟩)⟩
        case s20 =>
          intro ρ W hb hc hf hr
          obtain ⟨r43, r37, -⟩ := hr
          have e43 : ρ (.tmp 43) = undef := r43
          clear r43
          have e37 : ρ (.tmp 37) = .bool false := r37
          clear r37
          exact ⟨37, rfl, .inr (.inl ⟨e37, rfl⟩)⟩
        case s21 =>
          intro ρ W hb hc hf hr
          obtain ⟨r42, r44, r37, -⟩ := hr
          have e42 : ρ (.tmp 42) = undef := r42
          clear r42
          have e44 : ρ (.tmp 44) = undef := r44
          clear r44
          have e37 : ρ (.tmp 37) = .bool false := r37
          clear r37
          exact ⟨37, rfl, .inr (.inl ⟨e37, rfl⟩)⟩
        case s22 =>
          intro ρ W hb hc hf hr
          obtain ⟨r37, r45, -⟩ := hr
          have e37 : ρ (.tmp 37) = .bool false := r37
          clear r37
          have e45 : ρ (.tmp 45) = undef := r45
          clear r45
          refine under_none rfl ?_
          simp [execOp, e37, hc, go_sem, softUpon, Fact.is, Below.refl]
        case s23 =>
          intro ρ W hb hc hf hr
          obtain ⟨r46, -⟩ := hr
          have e46 : ρ (.tmp 46) = .bool false := r46
          clear r46
          refine under_none rfl ?_
          exact ⟨e46, Below.refl _ _⟩
        case s24 =>
          intro ρ W hb hc hf hr
          obtain ⟨r1, r47, -⟩ := hr
          have e1 : ρ (.tmp 1) = .pointer (some ⟨w.heap.size, 0, none⟩) := r1
          clear r1
          have e47 : ρ (.tmp 47) = .bool false := r47
          clear r47
          exact ⟨47, rfl, .inr (.inl ⟨e47, rfl⟩)⟩
        case s25 =>
          intro ρ W hb hc hf hr
          obtain ⟨r48, r47, -⟩ := hr
          have e48 : ρ (.tmp 48) = undef := r48
          clear r48
          have e47 : ρ (.tmp 47) = .bool false := r47
          clear r47
          exact ⟨47, rfl, .inr (.inl ⟨e47, rfl⟩)⟩
        case s26 =>
          intro ρ W hb hc hf hr
          obtain ⟨r49, r47, -⟩ := hr
          have e49 : ρ (.tmp 49) = undef := r49
          clear r49
          have e47 : ρ (.tmp 47) = .bool false := r47
          clear r47
          exact ⟨47, rfl, .inr (.inl ⟨e47, rfl⟩)⟩
        case s27 =>
          intro ρ W hb hc hf hr
          obtain ⟨r50, r47, -⟩ := hr
          have e50 : ρ (.tmp 50) = undef := r50
          clear r50
          have e47 : ρ (.tmp 47) = .bool false := r47
          clear r47
          exact ⟨47, rfl, .inr (.inl ⟨e47, rfl⟩)⟩
        case s28 =>
          intro ρ W hb hc hf hr
          obtain ⟨r51, r47, -⟩ := hr
          have e51 : ρ (.tmp 51) = undef := r51
          clear r51
          have e47 : ρ (.tmp 47) = .bool false := r47
          clear r47
          exact ⟨47, rfl, .inr (.inl ⟨e47, rfl⟩)⟩
        case s29 =>
          intro ρ W hb hc hf hr
          obtain ⟨r47, r52, -⟩ := hr
          have e47 : ρ (.tmp 47) = .bool false := r47
          clear r47
          have e52 : ρ (.tmp 52) = undef := r52
          clear r52
          refine under_none rfl ?_
          simp [execOp, e47, hc, go_sem, softUpon, Fact.is, Below.refl]
        case s30 =>
          intro ρ W hb hc hf hr
          obtain ⟨r53, -⟩ := hr
          have e53 : ρ (.tmp 53) = .bool false := r53
          clear r53
          refine under_none rfl ?_
          exact ⟨e53, Below.refl _ _⟩
        case fin =>
          intro a w4 hb hd hk
          have h4 : a.tmps.getD 2 undef = .bool false := hk 2
          clear hk
          have hc4 := HBW.out w4 (undrew13 hb)
          go_wp2
          refine bodyPost_ret (results_tmp rfl _ _ _) hd ?_
          exact ⟨by rw [h4, HF.out], hc4⟩
    · have HF := Lib.hid (show RR = false by
        cases RR with
        | false => rfl
        | true => exact absurd (HV.out.1 rfl).1.1.2 h2)
      have G1 := Lib.hid (fun (W : World) => geq13_t W h1)
      have G2 := Lib.hid (fun (W : World) => leq13_f (a := tick) (b := 281474976710656) W (by omega))
      go_enter Tryd.func15, Tryd.ntmps15
      rw [← HW0.out] at x0 x1 x2 x3 x4 x5
      clear hw0
      go_wp2
      rw [HW0.out]
      refine wp_soft (by kernel_rfl) 88 [(24, [1]), (25, [24]), (26, [25]), (27, [26]), (28, [1, 27]), (29, [28, 27]), (30, [29, 27]), (31, [27, 30]), (32, [31]), (33, [1, 32]), (34, [33, 32]), (35, [34, 32]), (36, [32, 35]), (37, [36]), (38, [1, 37]), (39, [38, 37]), (40, [39, 37]), (41, [40, 37]), (42, [41, 37]), (43, [1, 37]), (44, [43, 37]), (45, [42, 44, 37]), (46, [37, 45]), (47, [46]), (48, [1, 47]), (49, [48, 47]), (50, [49, 47]), (51, [50, 47]), (52, [51, 47]), (53, [47, 52]), (2, [53])]
        [Fact.is (.pointer (some ⟨w.heap.size, 3, none⟩)), Fact.is (.int .i64 tick), Fact.is (.bool true), Fact.is (.bool true), Fact.is (.pointer (some ⟨w.heap.size, 3, none⟩)), Fact.is (.int .i64 tick), Fact.is (.bool false), Fact.is (.bool false), Fact.is (.bool false), Fact.is (undef), Fact.is (undef), Fact.is (undef), Fact.is (.bool false), Fact.is (.bool false), Fact.is (undef), Fact.is (undef), Fact.is (undef), Fact.is (undef), Fact.is (undef), Fact.is (undef), Fact.is (undef), Fact.is (undef), Fact.is (.bool false), Fact.is (.bool false), Fact.is (undef), Fact.is (undef), Fact.is (undef), Fact.is (undef), Fact.is (undef), Fact.is (.bool false), Fact.is (.bool false)]
        (by kernel_rfl) rfl rfl ⟨?s0, ?s1, ?s2, ?s3, ?s4, ?s5, ?s6, ?s7, ?s8, ?s9, ?s10, ?s11, ?s12, ?s13, ?s14, ?s15, ?s16, ?s17, ?s18, ?s19, ?s20, ?s21, ?s22, ?s23, ?s24, ?s25, ?s26, ?s27, ?s28, ?s29, ?s30, trivial⟩ ?fin
      case s0 =>
        intro ρ W hb hc hf hr
        obtain ⟨r1, -⟩ := hr
        have e1 : ρ (.tmp 1) = .pointer (some ⟨w.heap.size, 0, none⟩) := r1
        clear r1
        refine under_none rfl ?_
        exact soft_field e1 rfl (fun W => by go_simp)
      case s1 =>
        intro ρ W hb hc hf hr
        obtain ⟨r24, -⟩ := hr
        have e24 : ρ (.tmp 24) = .pointer (some ⟨w.heap.size, 3, none⟩) := r24
        clear r24
        refine under_none rfl ?_
        exact soft_load e24 (LT.out W (undrew13 hb)) rfl
      case s2 =>
        intro ρ W hb hc hf hr
        obtain ⟨r25, -⟩ := hr
        have e25 : ρ (.tmp 25) = .int .i64 tick := r25
        clear r25
        refine under_none rfl ?_
        exact soft_bin e25 (hc _) rfl rfl (G1.out W)
      case s3 =>
        intro ρ W hb hc hf hr
        obtain ⟨r26, -⟩ := hr
        have e26 : ρ (.tmp 26) = .bool true := r26
        clear r26
        refine under_none rfl ?_
        exact ⟨e26, Below.refl _ _⟩
      case s4 =>
        intro ρ W hb hc hf hr
        obtain ⟨r1, r27, -⟩ := hr
        have e1 : ρ (.tmp 1) = .pointer (some ⟨w.heap.size, 0, none⟩) := r1
        clear r1
        have e27 : ρ (.tmp 27) = .bool true := r27
        clear r27
        refine ⟨27, rfl, .inl ⟨e27, ?_⟩⟩
        exact soft_field e1 rfl (fun W => by go_simp)
      case s5 =>
        intro ρ W hb hc hf hr
        obtain ⟨r28, r27, -⟩ := hr
        have e28 : ρ (.tmp 28) = .pointer (some ⟨w.heap.size, 3, none⟩) := r28
        clear r28
        have e27 : ρ (.tmp 27) = .bool true := r27
        clear r27
        refine ⟨27, rfl, .inl ⟨e27, ?_⟩⟩
        exact soft_load e28 (LT.out W (undrew13 hb)) rfl
      case s6 =>
        intro ρ W hb hc hf hr
        obtain ⟨r29, r27, -⟩ := hr
        have e29 : ρ (.tmp 29) = .int .i64 tick := r29
        clear r29
        have e27 : ρ (.tmp 27) = .bool true := r27
        clear r27
        refine ⟨27, rfl, .inl ⟨e27, ?_⟩⟩
        exact soft_bin e29 (hc _) rfl rfl (G2.out W)
      case s7 =>
        intro ρ W hb hc hf hr
        obtain ⟨r27, r30, -⟩ := hr
        have e27 : ρ (.tmp 27) = .bool true := r27
        clear r27
        have e30 : ρ (.tmp 30) = .bool false := r30
        clear r30
        refine under_none rfl ?_
        simp [execOp, e27, e30, go_sem, softUpon, Fact.is, Below.refl]
      case s8 =>
        intro ρ W hb hc hf hr
        obtain ⟨r31, -⟩ := hr
        have e31 : ρ (.tmp 31) = .bool false := r31
        clear r31
        refine under_none rfl ?_
        exact ⟨e31, Below.refl _ _⟩
      case s9 =>
        intro ρ W hb hc hf hr
        obtain ⟨r1, r32, -⟩ := hr
        have e1 : ρ (.tmp 1) = .pointer (some ⟨w.heap.size, 0, none⟩) := r1
        clear r1
        have e32 : ρ (.tmp 32) = .bool false := r32
        clear r32
        exact ⟨32, rfl, .inr (.inl ⟨e32, rfl⟩)⟩
      case s10 =>
        intro ρ W hb hc hf hr
        obtain ⟨r33, r32, -⟩ := hr
        have e33 : ρ (.tmp 33) = undef := r33
        clear r33
        have e32 : ρ (.tmp 32) = .bool false := r32
        clear r32
        exact ⟨32, rfl, .inr (.inl ⟨e32, rfl⟩)⟩
      case s11 =>
        intro ρ W hb hc hf hr
        obtain ⟨r34, r32, -⟩ := hr
        have e34 : ρ (.tmp 34) = undef := r34
        clear r34
        have e32 : ρ (.tmp 32) = .bool false := r32
        clear r32
        exact ⟨32, rfl, .inr (.inl ⟨e32, rfl⟩)⟩
      case s12 =>
        intro ρ W hb hc hf hr
        obtain ⟨r32, r35, -⟩ := hr
        have e32 : ρ (.tmp 32) = .bool false := r32
        clear r32
        have e35 : ρ (.tmp 35) = undef := r35
        clear r35
        refine under_none rfl ?_
        simp [execOp, e32, hc, go_sem, softUpon, Fact.is, Below.refl]
      case s13 =>
        intro ρ W hb hc hf hr
        obtain ⟨r36, -⟩ := hr
        have e36 : ρ (.tmp 36) = .bool false := r36
        clear r36
        refine under_none rfl ?_
        exact ⟨e36, Below.refl _ _⟩
      case s14 =>
        intro ρ W hb hc hf hr
        obtain ⟨r1, r37, -⟩ := hr
        have e1 : ρ (.tmp 1) = .pointer (some ⟨w.heap.size, 0, none⟩) := r1
        clear r1
        have e37 : ρ (.tmp 37) = .bool false := r37
        clear r37
        exact ⟨37, rfl, .inr (.inl ⟨e37, rfl⟩)⟩
      case s15 =>
        intro ρ W hb hc hf hr
        obtain ⟨r38, r37, -⟩ := hr
        have e38 : ρ (.tmp 38) = undef := r38
        clear r38
        have e37 : ρ (.tmp 37) = .bool false := r37
        clear r37
        exact ⟨37, rfl, .inr (.inl ⟨e37, rfl⟩)⟩
      case s16 =>
        intro ρ W hb hc hf hr
        obtain ⟨r39, r37, -⟩ := hr
        have e39 : ρ (.tmp 39) = undef := r39
        clear r39
        have e37 : ρ (.tmp 37) = .bool false := r37
        clear r37
        exact ⟨37, rfl, .inr (.inl ⟨e37, rfl⟩)⟩
      case s17 =>
        intro ρ W hb hc hf hr
        obtain ⟨r40, r37, -⟩ := hr
        have e40 : ρ (.tmp 40) = undef := r40
        clear r40
        have e37 : ρ (.tmp 37) = .bool false := r37
        clear r37
        exact ⟨37, rfl, .inr (.inl ⟨e37, rfl⟩)⟩
      case s18 =>
        intro ρ W hb hc hf hr
        obtain ⟨r41, r37, -⟩ := hr
        have e41 : ρ (.tmp 41) = undef := r41
        clear r41
        have e37 : ρ (.tmp 37) = .bool false := r37
        clear r37
        exact ⟨37, rfl, .inr (.inl ⟨e37, rfl⟩)⟩
      case s19 =>
        intro ρ W hb hc hf hr
        obtain ⟨r1, r37, -⟩ := hr
        have e1 : ρ (.tmp 1) = .pointer (some ⟨w.heap.size, 0, none⟩) := r1
        clear r1
        have e37 : ρ (.tmp 37) = .bool false := r37
        clear r37
        exact ⟨37, rfl, .inr (.inl ⟨e37, rfl⟩)⟩
      case s20 =>
        intro ρ W hb hc hf hr
        obtain ⟨r43, r37, -⟩ := hr
        have e43 : ρ (.tmp 43) = undef := r43
        clear r43
        have e37 : ρ (.tmp 37) = .bool false := r37
        clear r37
        exact ⟨37, rfl, .inr (.inl ⟨e37, rfl⟩)⟩
      case s21 =>
        intro ρ W hb hc hf hr
        obtain ⟨r42, r44, r37, -⟩ := hr
        have e42 : ρ (.tmp 42) = undef := r42
        clear r42
        have e44 : ρ (.tmp 44) = undef := r44
        clear r44
        have e37 : ρ (.tmp 37) = .bool false := r37
        clear r37
        exact ⟨37, rfl, .inr (.inl ⟨e37, rfl⟩)⟩
      case s22 =>
        intro ρ W hb hc hf hr
        obtain ⟨r37, r45, -⟩ := hr
        have e37 : ρ (.tmp 37) = .bool false := r37
        clear r37
        have e45 : ρ (.tmp 45) = undef := r45
        clear r45
        refine under_none rfl ?_
        simp [execOp, e37, hc, go_sem, softUpon, Fact.is, Below.refl]
      case s23 =>
        intro ρ W hb hc hf hr
        obtain ⟨r46, -⟩ := hr
        have e46 : ρ (.tmp 46) = .bool false := r46
        clear r46
        refine under_none rfl ?_
        exact ⟨e46, Below.refl _ _⟩
      case s24 =>
        intro ρ W hb hc hf hr
        obtain ⟨r1, r47, -⟩ := hr
        have e1 : ρ (.tmp 1) = .pointer (some ⟨w.heap.size, 0, none⟩) := r1
        clear r1
        have e47 : ρ (.tmp 47) = .bool false := r47
        clear r47
        exact ⟨47, rfl, .inr (.inl ⟨e47, rfl⟩)⟩
      case s25 =>
        intro ρ W hb hc hf hr
        obtain ⟨r48, r47, -⟩ := hr
        have e48 : ρ (.tmp 48) = undef := r48
        clear r48
        have e47 : ρ (.tmp 47) = .bool false := r47
        clear r47
        exact ⟨47, rfl, .inr (.inl ⟨e47, rfl⟩)⟩
      case s26 =>
        intro ρ W hb hc hf hr
        obtain ⟨r49, r47, -⟩ := hr
        have e49 : ρ (.tmp 49) = undef := r49
        clear r49
        have e47 : ρ (.tmp 47) = .bool false := r47
        clear r47
        exact ⟨47, rfl, .inr (.inl ⟨e47, rfl⟩)⟩
      case s27 =>
        intro ρ W hb hc hf hr
        obtain ⟨r50, r47, -⟩ := hr
        have e50 : ρ (.tmp 50) = undef := r50
        clear r50
        have e47 : ρ (.tmp 47) = .bool false := r47
        clear r47
        exact ⟨47, rfl, .inr (.inl ⟨e47, rfl⟩)⟩
      case s28 =>
        intro ρ W hb hc hf hr
        obtain ⟨r51, r47, -⟩ := hr
        have e51 : ρ (.tmp 51) = undef := r51
        clear r51
        have e47 : ρ (.tmp 47) = .bool false := r47
        clear r47
        exact ⟨47, rfl, .inr (.inl ⟨e47, rfl⟩)⟩
      case s29 =>
        intro ρ W hb hc hf hr
        obtain ⟨r47, r52, -⟩ := hr
        have e47 : ρ (.tmp 47) = .bool false := r47
        clear r47
        have e52 : ρ (.tmp 52) = undef := r52
        clear r52
        refine under_none rfl ?_
        simp [execOp, e47, hc, go_sem, softUpon, Fact.is, Below.refl]
      case s30 =>
        intro ρ W hb hc hf hr
        obtain ⟨r53, -⟩ := hr
        have e53 : ρ (.tmp 53) = .bool false := r53
        clear r53
        refine under_none rfl ?_
        exact ⟨e53, Below.refl _ _⟩
      case fin =>
        intro a w4 hb hd hk
        have h4 : a.tmps.getD 2 undef = .bool false := hk 2
        clear hk
        have hc4 := HBW.out w4 (undrew13 hb)
        go_wp2
        refine bodyPost_ret (results_tmp rfl _ _ _) hd ?_
        exact ⟨by rw [h4, HF.out], hc4⟩
  · have HF := Lib.hid (show RR = false by
      cases RR with
      | false => rfl
      | true => exact absurd (HV.out.1 rfl).1.1.1 h1)
    have G1 := Lib.hid (fun (W : World) => geq13_f (a := tick) (b := 0) W (by omega))
    go_enter Tryd.func15, Tryd.ntmps15
    rw [← HW0.out] at x0 x1 x2 x3 x4 x5
    clear hw0
    go_wp2
    rw [HW0.out]
    refine wp_soft (by kernel_rfl) 88 [(24, [1]), (25, [24]), (26, [25]), (27, [26]), (28, [1, 27]), (29, [28, 27]), (30, [29, 27]), (31, [27, 30]), (32, [31]), (33, [1, 32]), (34, [33, 32]), (35, [34, 32]), (36, [32, 35]), (37, [36]), (38, [1, 37]), (39, [38, 37]), (40, [39, 37]), (41, [40, 37]), (42, [41, 37]), (43, [1, 37]), (44, [43, 37]), (45, [42, 44, 37]), (46, [37, 45]), (47, [46]), (48, [1, 47]), (49, [48, 47]), (50, [49, 47]), (51, [50, 47]), (52, [51, 47]), (53, [47, 52]), (2, [53])]
      [Fact.is (.pointer (some ⟨w.heap.size, 3, none⟩)), Fact.is (.int .i64 tick), Fact.is (.bool false), Fact.is (.bool false), Fact.is (undef), Fact.is (undef), Fact.is (undef), Fact.is (.bool false), Fact.is (.bool false), Fact.is (undef), Fact.is (undef), Fact.is (undef), Fact.is (.bool false), Fact.is (.bool false), Fact.is (undef), Fact.is (undef), Fact.is (undef), Fact.is (undef), Fact.is (undef), Fact.is (undef), Fact.is (undef), Fact.is (undef), Fact.is (.bool false), Fact.is (.bool false), Fact.is (undef), Fact.is (undef), Fact.is (undef), Fact.is (undef), Fact.is (undef), Fact.is (.bool false), Fact.is (.bool false)]
      (by kernel_rfl) rfl rfl ⟨?s0, ?s1, ?s2, ?s3, ?s4, ?s5, ?s6, ?s7, ?s8, ?s9, ?s10, ?s11, ?s12, ?s13, ?s14, ?s15, ?s16, ?s17, ?s18, ?s19, ?s20, ?s21, ?s22, ?s23, ?s24, ?s25, ?s26, ?s27, ?s28, ?s29, ?s30, trivial⟩ ?fin
    case s0 =>
      intro ρ W hb hc hf hr
      obtain ⟨r1, -⟩ := hr
      have e1 : ρ (.tmp 1) = .pointer (some ⟨w.heap.size, 0, none⟩) := r1
      clear r1
      refine under_none rfl ?_
      exact soft_field e1 rfl (fun W => by go_simp)
    case s1 =>
      intro ρ W hb hc hf hr
      obtain ⟨r24, -⟩ := hr
      have e24 : ρ (.tmp 24) = .pointer (some ⟨w.heap.size, 3, none⟩) := r24
      clear r24
      refine under_none rfl ?_
      exact soft_load e24 (LT.out W (undrew13 hb)) rfl
    case s2 =>
      intro ρ W hb hc hf hr
      obtain ⟨r25, -⟩ := hr
      have e25 : ρ (.tmp 25) = .int .i64 tick := r25
      clear r25
      refine under_none rfl ?_
      exact soft_bin e25 (hc _) rfl rfl (G1.out W)
    case s3 =>
      intro ρ W hb hc hf hr
      obtain ⟨r26, -⟩ := hr
      have e26 : ρ (.tmp 26) = .bool false := r26
      clear r26
      refine under_none rfl ?_
      exact ⟨e26, Below.refl _ _⟩
    case s4 =>
      intro ρ W hb hc hf hr
      obtain ⟨r1, r27, -⟩ := hr
      have e1 : ρ (.tmp 1) = .pointer (some ⟨w.heap.size, 0, none⟩) := r1
      clear r1
      have e27 : ρ (.tmp 27) = .bool false := r27
      clear r27
      exact ⟨27, rfl, .inr (.inl ⟨e27, rfl⟩)⟩
    case s5 =>
      intro ρ W hb hc hf hr
      obtain ⟨r28, r27, -⟩ := hr
      have e28 : ρ (.tmp 28) = undef := r28
      clear r28
      have e27 : ρ (.tmp 27) = .bool false := r27
      clear r27
      exact ⟨27, rfl, .inr (.inl ⟨e27, rfl⟩)⟩
    case s6 =>
      intro ρ W hb hc hf hr
      obtain ⟨r29, r27, -⟩ := hr
      have e29 : ρ (.tmp 29) = undef := r29
      clear r29
      have e27 : ρ (.tmp 27) = .bool false := r27
      clear r27
      exact ⟨27, rfl, .inr (.inl ⟨e27, rfl⟩)⟩
    case s7 =>
      intro ρ W hb hc hf hr
      obtain ⟨r27, r30, -⟩ := hr
      have e27 : ρ (.tmp 27) = .bool false := r27
      clear r27
      have e30 : ρ (.tmp 30) = undef := r30
      clear r30
      refine under_none rfl ?_
      simp [execOp, e27, hc, go_sem, softUpon, Fact.is, Below.refl]
    case s8 =>
      intro ρ W hb hc hf hr
      obtain ⟨r31, -⟩ := hr
      have e31 : ρ (.tmp 31) = .bool false := r31
      clear r31
      refine under_none rfl ?_
      exact ⟨e31, Below.refl _ _⟩
    case s9 =>
      intro ρ W hb hc hf hr
      obtain ⟨r1, r32, -⟩ := hr
      have e1 : ρ (.tmp 1) = .pointer (some ⟨w.heap.size, 0, none⟩) := r1
      clear r1
      have e32 : ρ (.tmp 32) = .bool false := r32
      clear r32
      exact ⟨32, rfl, .inr (.inl ⟨e32, rfl⟩)⟩
    case s10 =>
      intro ρ W hb hc hf hr
      obtain ⟨r33, r32, -⟩ := hr
      have e33 : ρ (.tmp 33) = undef := r33
      clear r33
      have e32 : ρ (.tmp 32) = .bool false := r32
      clear r32
      exact ⟨32, rfl, .inr (.inl ⟨e32, rfl⟩)⟩
    case s11 =>
      intro ρ W hb hc hf hr
      obtain ⟨r34, r32, -⟩ := hr
      have e34 : ρ (.tmp 34) = undef := r34
      clear r34
      have e32 : ρ (.tmp 32) = .bool false := r32
      clear r32
      exact ⟨32, rfl, .inr (.inl ⟨e32, rfl⟩)⟩
    case s12 =>
      intro ρ W hb hc hf hr
      obtain ⟨r32, r35, -⟩ := hr
      have e32 : ρ (.tmp 32) = .bool false := r32
      clear r32
      have e35 : ρ (.tmp 35) = undef := r35
      clear r35
      refine under_none rfl ?_
      simp [execOp, e32, hc, go_sem, softUpon, Fact.is, Below.refl]
    case s13 =>
      intro ρ W hb hc hf hr
      obtain ⟨r36, -⟩ := hr
      have e36 : ρ (.tmp 36) = .bool false := r36
      clear r36
      refine under_none rfl ?_
      exact ⟨e36, Below.refl _ _⟩
    case s14 =>
      intro ρ W hb hc hf hr
      obtain ⟨r1, r37, -⟩ := hr
      have e1 : ρ (.tmp 1) = .pointer (some ⟨w.heap.size, 0, none⟩) := r1
      clear r1
      have e37 : ρ (.tmp 37) = .bool false := r37
      clear r37
      exact ⟨37, rfl, .inr (.inl ⟨e37, rfl⟩)⟩
    case s15 =>
      intro ρ W hb hc hf hr
      obtain ⟨r38, r37, -⟩ := hr
      have e38 : ρ (.tmp 38) = undef := r38
      clear r38
      have e37 : ρ (.tmp 37) = .bool false := r37
      clear r37
      exact ⟨37, rfl, .inr (.inl ⟨e37, rfl⟩)⟩
    case s16 =>
      intro ρ W hb hc hf hr
      obtain ⟨r39, r37, -⟩ := hr
      have e39 : ρ (.tmp 39) = undef := r39
      clear r39
      have e37 : ρ (.tmp 37) = .bool false := r37
      clear r37
      exact ⟨37, rfl, .inr (.inl ⟨e37, rfl⟩)⟩
    case s17 =>
      intro ρ W hb hc hf hr
      obtain ⟨r40, r37, -⟩ := hr
      have e40 : ρ (.tmp 40) = undef := r40
      clear r40
      have e37 : ρ (.tmp 37) = .bool false := r37
      clear r37
      exact ⟨37, rfl, .inr (.inl ⟨e37, rfl⟩)⟩
    case s18 =>
      intro ρ W hb hc hf hr
      obtain ⟨r41, r37, -⟩ := hr
      have e41 : ρ (.tmp 41) = undef := r41
      clear r41
      have e37 : ρ (.tmp 37) = .bool false := r37
      clear r37
      exact ⟨37, rfl, .inr (.inl ⟨e37, rfl⟩)⟩
    case s19 =>
      intro ρ W hb hc hf hr
      obtain ⟨r1, r37, -⟩ := hr
      have e1 : ρ (.tmp 1) = .pointer (some ⟨w.heap.size, 0, none⟩) := r1
      clear r1
      have e37 : ρ (.tmp 37) = .bool false := r37
      clear r37
      exact ⟨37, rfl, .inr (.inl ⟨e37, rfl⟩)⟩
    case s20 =>
      intro ρ W hb hc hf hr
      obtain ⟨r43, r37, -⟩ := hr
      have e43 : ρ (.tmp 43) = undef := r43
      clear r43
      have e37 : ρ (.tmp 37) = .bool false := r37
      clear r37
      exact ⟨37, rfl, .inr (.inl ⟨e37, rfl⟩)⟩
    case s21 =>
      intro ρ W hb hc hf hr
      obtain ⟨r42, r44, r37, -⟩ := hr
      have e42 : ρ (.tmp 42) = undef := r42
      clear r42
      have e44 : ρ (.tmp 44) = undef := r44
      clear r44
      have e37 : ρ (.tmp 37) = .bool false := r37
      clear r37
      exact ⟨37, rfl, .inr (.inl ⟨e37, rfl⟩)⟩
    case s22 =>
      intro ρ W hb hc hf hr
      obtain ⟨r37, r45, -⟩ := hr
      have e37 : ρ (.tmp 37) = .bool false := r37
      clear r37
      have e45 : ρ (.tmp 45) = undef := r45
      clear r45
      refine under_none rfl ?_
      simp [execOp, e37, hc, go_sem, softUpon, Fact.is, Below.refl]
    case s23 =>
      intro ρ W hb hc hf hr
      obtain ⟨r46, -⟩ := hr
      have e46 : ρ (.tmp 46) = .bool false := r46
      clear r46
      refine under_none rfl ?_
      exact ⟨e46, Below.refl _ _⟩
    case s24 =>
      intro ρ W hb hc hf hr
      obtain ⟨r1, r47, -⟩ := hr
      have e1 : ρ (.tmp 1) = .pointer (some ⟨w.heap.size, 0, none⟩) := r1
      clear r1
      have e47 : ρ (.tmp 47) = .bool false := r47
      clear r47
      exact ⟨47, rfl, .inr (.inl ⟨e47, rfl⟩)⟩
    case s25 =>
      intro ρ W hb hc hf hr
      obtain ⟨r48, r47, -⟩ := hr
      have e48 : ρ (.tmp 48) = undef := r48
      clear r48
      have e47 : ρ (.tmp 47) = .bool false := r47
      clear r47
      exact ⟨47, rfl, .inr (.inl ⟨e47, rfl⟩)⟩
    case s26 =>
      intro ρ W hb hc hf hr
      obtain ⟨r49, r47, -⟩ := hr
      have e49 : ρ (.tmp 49) = undef := r49
      clear r49
      have e47 : ρ (.tmp 47) = .bool false := r47
      clear r47
      exact ⟨47, rfl, .inr (.inl ⟨e47, rfl⟩)⟩
    case s27 =>
      intro ρ W hb hc hf hr
      obtain ⟨r50, r47, -⟩ := hr
      have e50 : ρ (.tmp 50) = undef := r50
      clear r50
      have e47 : ρ (.tmp 47) = .bool false := r47
      clear r47
      exact ⟨47, rfl, .inr (.inl ⟨e47, rfl⟩)⟩
    case s28 =>
      intro ρ W hb hc hf hr
      obtain ⟨r51, r47, -⟩ := hr
      have e51 : ρ (.tmp 51) = undef := r51
      clear r51
      have e47 : ρ (.tmp 47) = .bool false := r47
      clear r47
      exact ⟨47, rfl, .inr (.inl ⟨e47, rfl⟩)⟩
    case s29 =>
      intro ρ W hb hc hf hr
      obtain ⟨r47, r52, -⟩ := hr
      have e47 : ρ (.tmp 47) = .bool false := r47
      clear r47
      have e52 : ρ (.tmp 52) = undef := r52
      clear r52
      refine under_none rfl ?_
      simp [execOp, e47, hc, go_sem, softUpon, Fact.is, Below.refl]
    case s30 =>
      intro ρ W hb hc hf hr
      obtain ⟨r53, -⟩ := hr
      have e53 : ρ (.tmp 53) = .bool false := r53
      clear r53
      refine under_none rfl ?_
      exact ⟨e53, Below.refl _ _⟩
    case fin =>
      intro a w4 hb hd hk
      have h4 : a.tmps.getD 2 undef = .bool false := hk 2
      clear hk
      have hc4 := HBW.out w4 (undrew13 hb)
      go_wp2
      refine bodyPost_ret (results_tmp rfl _ _ _) hd ?_
      exact ⟨by rw [h4, HF.out], hc4⟩

theorem ret13 {b c : Bool} (h : b = c) : Ending.returned (.bool b) = .returned (.bool c) := by rw [h]
set_option maxHeartbeats 8000000 in
theorem rright13_other (r : Rc.R) (A : Option Addr) (n cap : Nat) (w : World) (hk0 : ¬ (r.kind = 1 ∧ (1 ≤ r.id ∧ r.id ≤ 281474976710656) ∧ (0 ≤ r.cls ∧ r.cls ≤ 7))) (hn : r.sp.length = n) :
    Calls Tryd.prog 15 #[recV r A n cap] w fun e w' => e = .returned (.bool (Rc.right r)) ∧ Below w.heap.size w w' := by
  have hV : Rc.right r = true ↔ (1 ≤ r.id ∧ r.id ≤ 281474976710656) ∧ (0 ≤ r.cls ∧ r.cls ≤ 7) ∧ (2 ≤ r.kind ∧ r.kind ≤ 5) ∧ (r.kind = 4 ∨ r.cls = 0) ∧ r.tick = 0 ∧ r.pin = false ∧ n = 0 := by
    have hl : r.sp = [] ↔ n = 0 := by rw [← hn]; exact List.length_eq_zero_iff.symm
    rw [Rc.right_iff, Rc.may_iff]
    constructor
    · rintro ⟨⟨h1, h2, ⟨h3, -⟩ | ⟨-, h3, h4, h5, h6, h7⟩⟩, -⟩
      · exact absurd ⟨h3, h1, h2⟩ hk0
      · exact ⟨h1, h2, h3, h4, h5, h6, hl.1 h7⟩
    · rintro ⟨h1, h2, h3, h4, h5, h6, h7⟩
      have hk1 : r.kind ≠ 1 := by omega
      exact ⟨⟨h1, h2, .inr ⟨hk1, h3, h4, h5, h6, hl.2 h7⟩⟩, fun h => absurd h hk1⟩
  have hB0 : Below w.heap.size w (w.alloc (.cells (recCs r A n cap) 24)) := (Below.refl _ _).alloc (Nat.le_refl _) _
  obtain ⟨RR, hRR⟩ : ∃ RR, Rc.right r = RR := ⟨_, rfl⟩
  rw [hRR] at hV ⊢
  unfold recV recCs at *
  obtain ⟨kind, id, cls, tick, pin, sp⟩ := r
  simp only at hk0 hV hB0 ⊢
  clear hRR hn
  have HB0 := Lib.hid hB0
  have HV := Lib.hid hV
  clear hB0 hV
  have HT := Lib.hid (show ∀ b : Bool, (b = true ↔ (1 ≤ id ∧ id ≤ 281474976710656) ∧ (0 ≤ cls ∧ cls ≤ 7) ∧ (2 ≤ kind ∧ kind ≤ 5) ∧ (kind = 4 ∨ cls = 0) ∧ tick = 0 ∧ pin = false ∧ n = 0) → b = RR from fun b hb => Bool.eq_iff_iff.2 (hb.trans HV.out.symm))
  by_cases h1 : id < 1
  · have HF := Lib.hid (HT.out false ⟨fun h => by simp at h, fun h => absurd h.1.1 (by omega)⟩)
    clear hk0
    go_enter Tryd.func15, Tryd.ntmps15
    go_wp2
    go_ret
    exact ⟨ret13 HF.out, HB0.out⟩
  by_cases h2 : 281474976710656 < id
  · have HF := Lib.hid (HT.out false ⟨fun h => by simp at h, fun h => absurd h.1.2 (by omega)⟩)
    clear hk0
    go_enter Tryd.func15, Tryd.ntmps15
    go_wp2
    go_ret
    exact ⟨ret13 HF.out, HB0.out⟩
  by_cases h3 : cls < 0
  · have HF := Lib.hid (HT.out false ⟨fun h => by simp at h, fun h => absurd h.2.1.1 (by omega)⟩)
    clear hk0
    go_enter Tryd.func15, Tryd.ntmps15
    go_wp2
    go_ret
    exact ⟨ret13 HF.out, HB0.out⟩
  by_cases h4 : 7 < cls
  · have HF := Lib.hid (HT.out false ⟨fun h => by simp at h, fun h => absurd h.2.1.2 (by omega)⟩)
    clear hk0
    go_enter Tryd.func15, Tryd.ntmps15
    go_wp2
    go_ret
    exact ⟨ret13 HF.out, HB0.out⟩
  have hk1 : kind ≠ 1 := fun h => hk0 ⟨h, by omega, by omega⟩
  have dk : (kind == 1) = false := by rw [beq_eq_false_iff_ne]; exact hk1
  clear hk0 hk1
  go_enter Tryd.func15, Tryd.ntmps15
  go_wp2
  all_goals
    go_ret
    exact ⟨ret13 (HT.out _ (by simp_all <;> omega)), (Below.refl _ _).alloc (Nat.le_refl _) _⟩

theorem rright13_any (r : Rc.R) (A : Option Addr) (n cap : Nat) (w : World) (hn : r.sp.length = n) (hA : Lies w A (flat r.sp)) (hS : Fine r.sp) :
    Calls Tryd.prog 15 #[recV r A n cap] w fun e w' => e = .returned (.bool (Rc.right r)) ∧ Below w.heap.size w w' := by
  by_cases h : r.kind = 1 ∧ (1 ≤ r.id ∧ r.id ≤ 281474976710656) ∧ (0 ≤ r.cls ∧ r.cls ≤ 7)
  · exact rright13_seal r A n cap w h.1 h.2.1 h.2.2 hn hA hS
  · exact rright13_other r A n cap w h hn
end Go.Proofs.YtdfeccmcefcpbaaDoor

