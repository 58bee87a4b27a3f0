/-
  Layer 13, the developers' rec: rightSealed and putSealed, of any record. Assumed: that the spans lie in memory.
-/
import Derived.Test.YtdfeccmcefcpbaaDoorRoB
import Derived.Test.YtdfeccmcefcpbaaDoorRr13

namespace Go.Proofs.YtdfeccmcefcpbaaDoor
open Go.RowKit
set_option maxRecDepth 100000

theorem soft13_call3 {P : Program} {w : World} {F : Fact} {ρ : Operand → Value} {o : Oper} {x y z : Operand} {f : FuncId} {ats : Array TypeId} {vx vy vz : Value} {R : Ending → World → Prop}
    (hf : ∀ f, ρ (.func f) = .func (.func f) #[] #[]) (hx : ρ x = vx) (hy : ρ y = vy) (hz : ρ z = vz) (hc : Calls P f #[vx, vy, vz] w R) (ho : o.op = .call { callee := .value (.func f), args := #[x, y, z], argTypes := ats })
    (hfn : (P.funcs[f]?).map (fun fn => (fn.name == "runtime.NumGoroutine", fn.body.isNone)) = some (false, false)) (hR : ∀ e w', R e w' → ∃ v, e = .returned v ∧ F.φ v w' ∧ Below w.heap.size w w') : softUpon P w F ((execOp ρ o).run P w) := by
  have e : (execOp ρ o).run P w = .ok (.enter f #[vx, vy, vz]) w := by
    simp [execOp, ho, resolve, invoke, hf, hx, hy, hz, Deferred.ofValue, go_sem, enters hfn]
  rw [e]
  exact ⟨rfl, hc.mono hR⟩
theorem eql13_D (W : World) (a b : Int) : (binOp .eql 2 (.int .i64 a) (.int .i64 b)).run Tryd.prog W = .ok (.bool (decide (a = b))) W := by
  by_cases h : a = b
  · subst h; rw [decide_eq_true rfl]; exact eql13_t W a
  · rw [decide_eq_false h]; exact eql13_f W (by rw [beq_eq_false_iff_ne]; exact h)

/-- what rightSealed answers -/
def fitsS (r : Rc.R) : Bool := decide (0 ≤ r.cls ∧ r.cls ≤ 7) && (decide (0 ≤ r.tick ∧ r.tick ≤ 281474976710656) && (Plain.isT r.sp && decide ((r.sp.headD Plain.Sp.zero).t = r.id)))
theorem fits_S (r : Rc.R) (h : r.kind = 1) : Rc.fits r = fitsS r := by
  unfold Rc.fits fitsS
  rw [if_pos h]

set_option maxHeartbeats 8000000 in
theorem dright13S_any (r : Rc.R) (A : Option Addr) (n cap : Nat) (w : World) (hn : r.sp.length = n) (hm : n ≤ maxLen) (hA : Lies w A (flat r.sp)) (hS : Fine r.sp) :
    Calls Tryd.prog 39 #[recV r A n cap] w fun e w' => e = .returned (.bool (fitsS r)) ∧ Below w.heap.size w w' := by
  have hV : fitsS r = (decide (0 ≤ r.cls ∧ r.cls ≤ 7) && (decide (0 ≤ r.tick ∧ r.tick ≤ 281474976710656) && (Plain.isT r.sp && decide ((r.sp.headD Plain.Sp.zero).t = r.id)))) := rfl
  have hbx := Blk.new w (recCs r A n cap) 24
  have HX := Lib.hid (fun (u : World) (h : Below (w.alloc (.cells (recCs r A n cap) 24)).heap.size (w.alloc (.cells (recCs r A n cap) 24)) u) => BoxR.six (BoxR.below hbx h))
  have hB0 : Below w.heap.size w (w.alloc (.cells (recCs r A n cap) 24)) := (Below.refl _ _).alloc (Nat.le_refl _) _
  have hs0 : (w.alloc (.cells (recCs r A n cap) 24)).heap.size = w.heap.size + 1 := by simp
  have HRT := Lib.hid (fun (W : World) (hW : Lies W A (flat r.sp)) => tright_any A n cap r.sp W hn hm hW hS)
  have HAD := Lib.hid (show 1 ≤ n → ∃ ad, A = some ad ∧ ∀ u, Below w.heap.size w u → u.cell? (ad.add (0 * 7)) = some (.int .i64 (r.sp.headD Plain.Sp.zero).t) from fun h1 => by
    obtain ⟨ad, had, -, hcc⟩ := at_span hA 0 (by omega)
    refine ⟨ad, had, fun u hu => ?_⟩
    rw [(hcc u hu).1, head_at (by omega)])
  have HN1 := Lib.hid (show Plain.isT r.sp = true → 1 ≤ n from fun h => by
    by_cases h1 : 1 ≤ n
    · exact h1
    · rw [Plain.isT_empty (by omega)] at h; simp at h)
  have HA0 := Lib.hid hA
  obtain ⟨RR, hRR⟩ : ∃ RR, fitsS r = RR := ⟨_, rfl⟩
  rw [hRR] at hV ⊢
  obtain ⟨IT, hIT⟩ : ∃ IT, Plain.isT r.sp = IT := ⟨_, rfl⟩
  rw [hIT] at hV HRT HN1
  obtain ⟨zt, hzt⟩ : ∃ zt, (r.sp.headD Plain.Sp.zero).t = zt := ⟨_, rfl⟩
  rw [hzt] at hV HAD
  unfold recV recCs at *
  obtain ⟨kind, id, cls, tick, pin, sp⟩ := r
  simp only at hn hA hV HX HRT HA0 hbx hB0 hs0 ⊢
  clear hbx hRR hIT hzt hA hS hn
  obtain ⟨w0, hw0⟩ : ∃ w0, w.alloc (.cells #[.int .i64 kind, .int .i64 id, .int .i64 cls, .int .i64 tick, .bool pin, .slice A n cap] 24) = w0 := ⟨_, rfl⟩
  rw [hw0] at HX hB0 hs0
  have HW0 := Lib.hid hw0
  have HB0 := Lib.hid hB0
  have LT := Lib.hid (fun (u : World) (h : Below w0.heap.size w0 u) => load_num_at (HX.out u h).2.2.2.1)
  have LI := Lib.hid (fun (u : World) (h : Below w0.heap.size w0 u) => load_num_at (HX.out u h).2.1)
  have LC := Lib.hid (fun (u : World) (h : Below w0.heap.size w0 u) => load_int13 (HX.out u h).2.2.1)
  have LS := Lib.hid (fun (u : World) (h : Below w0.heap.size w0 u) => load_spans13 (HX.out u h).2.2.2.2.2)
  have HBW := Lib.hid (fun (u : World) (h : Below w0.heap.size w0 u) => hB0.trans (h.mono hB0.size))
  have HW1 := Lib.hid (fun (W : World) => dwithin13_any 0 7 cls W)
  have HW2 := Lib.hid (fun (W : World) => dwithin13_any 0 281474976710656 tick W)
  obtain ⟨x0, x1, x2, x3, x4, x5⟩ := HX.out w0 (Below.refl _ _)
  obtain ⟨q1, h1⟩ : ∃ q, decide (0 ≤ cls ∧ cls ≤ 7) = q := ⟨_, rfl⟩
  obtain ⟨q2, h2⟩ : ∃ q, decide (0 ≤ tick ∧ tick ≤ 281474976710656) = q := ⟨_, rfl⟩
  rw [h1] at HW1 hV
  rw [h2] at HW2 hV
  clear h1 h2 hs0
  cases q1 with
  | false =>
    have HF := Lib.hid (show RR = false from hV)
    clear hV
    go_enter Tryd.func39, Tryd.ntmps39
    rw [← HW0.out] at x0 x1 x2 x3 x4 x5
    clear hw0
    go_wp2
    rw [HW0.out]
    refine wp_soft (by kernel_rfl) 26 [(3, [1]), (4, [3]), (5, [4]), (6, [5]), (7, [1, 6]), (8, [7, 6]), (9, [8, 6]), (10, [6, 9]), (11, [10]), (12, [1, 11]), (13, [12, 11]), (14, [13, 11]), (15, [11, 14]), (16, [15]), (17, [1, 16]), (18, [17, 16]), (19, [18, 16]), (20, [19, 16]), (21, [20, 16]), (22, [1, 16]), (23, [22, 16]), (24, [21, 23, 16]), (25, [16, 24]), (2, [25])]
      [Fact.is (.pointer (some ⟨w.heap.size, 2, none⟩)), Fact.is (.int .i64 cls), Fact.is (.bool false), Fact.is (.bool false), Fact.is (undef), Fact.is (undef), Fact.is (undef), Fact.is (.bool false), Fact.is (.bool false), Fact.is (undef), Fact.is (undef), Fact.is (undef), Fact.is (.bool false), Fact.is (.bool false), Fact.is (undef), Fact.is (undef), Fact.is (undef), Fact.is (undef), Fact.is (undef), Fact.is (undef), Fact.is (undef), Fact.is (undef), Fact.is (.bool false), Fact.is (.bool false)]
      (by kernel_rfl) rfl rfl ⟨?s0, ?s1, ?s2, ?s3, ?s4, ?s5, ?s6, ?s7, ?s8, ?s9, ?s10, ?s11, ?s12, ?s13, ?s14, ?s15, ?s16, ?s17, ?s18, ?s19, ?s20, ?s21, ?s22, ?s23, trivial⟩ ?fin
    case s0 =>
      intro ρ W hb hc hf hr
      obtain ⟨r1, -⟩ := hr
      have e1 : ρ (.tmp 1) = .pointer (some ⟨w.heap.size, 0, none⟩) := r1
      clear r1
      refine under_none rfl ?_
      exact soft_field e1 rfl (fun W => by go_simp)
    case s1 =>
      intro ρ W hb hc hf hr
      obtain ⟨r3, -⟩ := hr
      have e3 : ρ (.tmp 3) = .pointer (some ⟨w.heap.size, 2, none⟩) := r3
      clear r3
      refine under_none rfl ?_
      exact soft_load e3 (LC.out W (undrew13 hb)) rfl
    case s2 =>
      intro ρ W hb hc hf hr
      obtain ⟨r4, -⟩ := hr
      have e4 : ρ (.tmp 4) = .int .i64 cls := r4
      clear r4
      refine under_none rfl ?_
      exact soft13_call3 hf (hc _) (hc _) e4 (HW1.out W) rfl (by kernel_rfl) same_is
    case s3 =>
      intro ρ W hb hc hf hr
      obtain ⟨r5, -⟩ := hr
      have e5 : ρ (.tmp 5) = .bool false := r5
      clear r5
      refine under_none rfl ?_
      exact ⟨e5, Below.refl _ _⟩
    case s4 =>
      intro ρ W hb hc hf hr
      obtain ⟨r1, r6, -⟩ := hr
      have e1 : ρ (.tmp 1) = .pointer (some ⟨w.heap.size, 0, none⟩) := r1
      clear r1
      have e6 : ρ (.tmp 6) = .bool false := r6
      clear r6
      exact ⟨6, rfl, .inr (.inl ⟨e6, rfl⟩)⟩
    case s5 =>
      intro ρ W hb hc hf hr
      obtain ⟨r7, r6, -⟩ := hr
      have e7 : ρ (.tmp 7) = undef := r7
      clear r7
      have e6 : ρ (.tmp 6) = .bool false := r6
      clear r6
      exact ⟨6, rfl, .inr (.inl ⟨e6, rfl⟩)⟩
    case s6 =>
      intro ρ W hb hc hf hr
      obtain ⟨r8, r6, -⟩ := hr
      have e8 : ρ (.tmp 8) = undef := r8
      clear r8
      have e6 : ρ (.tmp 6) = .bool false := r6
      clear r6
      exact ⟨6, rfl, .inr (.inl ⟨e6, rfl⟩)⟩
    case s7 =>
      intro ρ W hb hc hf hr
      obtain ⟨r6, r9, -⟩ := hr
      have e6 : ρ (.tmp 6) = .bool false := r6
      clear r6
      have e9 : ρ (.tmp 9) = undef := r9
      clear r9
      refine under_none rfl ?_
      simp [execOp, e6, hc, go_sem, softUpon, Fact.is, Below.refl]
    case s8 =>
      intro ρ W hb hc hf hr
      obtain ⟨r10, -⟩ := hr
      have e10 : ρ (.tmp 10) = .bool false := r10
      clear r10
      refine under_none rfl ?_
      exact ⟨e10, Below.refl _ _⟩
    case s9 =>
      intro ρ W hb hc hf hr
      obtain ⟨r1, r11, -⟩ := hr
      have e1 : ρ (.tmp 1) = .pointer (some ⟨w.heap.size, 0, none⟩) := r1
      clear r1
      have e11 : ρ (.tmp 11) = .bool false := r11
      clear r11
      exact ⟨11, rfl, .inr (.inl ⟨e11, rfl⟩)⟩
    case s10 =>
      intro ρ W hb hc hf hr
      obtain ⟨r12, r11, -⟩ := hr
      have e12 : ρ (.tmp 12) = undef := r12
      clear r12
      have e11 : ρ (.tmp 11) = .bool false := r11
      clear r11
      exact ⟨11, rfl, .inr (.inl ⟨e11, rfl⟩)⟩
    case s11 =>
      intro ρ W hb hc hf hr
      obtain ⟨r13, r11, -⟩ := hr
      have e13 : ρ (.tmp 13) = undef := r13
      clear r13
      have e11 : ρ (.tmp 11) = .bool false := r11
      clear r11
      exact ⟨11, rfl, .inr (.inl ⟨e11, rfl⟩)⟩
    case s12 =>
      intro ρ W hb hc hf hr
      obtain ⟨r11, r14, -⟩ := hr
      have e11 : ρ (.tmp 11) = .bool false := r11
      clear r11
      have e14 : ρ (.tmp 14) = undef := r14
      clear r14
      refine under_none rfl ?_
      simp [execOp, e11, hc, go_sem, softUpon, Fact.is, Below.refl]
    case s13 =>
      intro ρ W hb hc hf hr
      obtain ⟨r15, -⟩ := hr
      have e15 : ρ (.tmp 15) = .bool false := r15
      clear r15
      refine under_none rfl ?_
      exact ⟨e15, Below.refl _ _⟩
    case s14 =>
      intro ρ W hb hc hf hr
      obtain ⟨r1, r16, -⟩ := hr
      have e1 : ρ (.tmp 1) = .pointer (some ⟨w.heap.size, 0, none⟩) := r1
      clear r1
      have e16 : ρ (.tmp 16) = .bool false := r16
      clear r16
      exact ⟨16, rfl, .inr (.inl ⟨e16, rfl⟩)⟩
    case s15 =>
      intro ρ W hb hc hf hr
      obtain ⟨r17, r16, -⟩ := hr
      have e17 : ρ (.tmp 17) = undef := r17
      clear r17
      have e16 : ρ (.tmp 16) = .bool false := r16
      clear r16
      exact ⟨16, rfl, .inr (.inl ⟨e16, rfl⟩)⟩
    case s16 =>
      intro ρ W hb hc hf hr
      obtain ⟨r18, r16, -⟩ := hr
      have e18 : ρ (.tmp 18) = undef := r18
      clear r18
      have e16 : ρ (.tmp 16) = .bool false := r16
      clear r16
      exact ⟨16, rfl, .inr (.inl ⟨e16, rfl⟩)⟩
    case s17 =>
      intro ρ W hb hc hf hr
      obtain ⟨r19, r16, -⟩ := hr
      have e19 : ρ (.tmp 19) = undef := r19
      clear r19
      have e16 : ρ (.tmp 16) = .bool false := r16
      clear r16
      exact ⟨16, rfl, .inr (.inl ⟨e16, rfl⟩)⟩
    case s18 =>
      intro ρ W hb hc hf hr
      obtain ⟨r20, r16, -⟩ := hr
      have e20 : ρ (.tmp 20) = undef := r20
      clear r20
      have e16 : ρ (.tmp 16) = .bool false := r16
      clear r16
      exact ⟨16, rfl, .inr (.inl ⟨e16, rfl⟩)⟩
    case s19 =>
      intro ρ W hb hc hf hr
      obtain ⟨r1, r16, -⟩ := hr
      have e1 : ρ (.tmp 1) = .pointer (some ⟨w.heap.size, 0, none⟩) := r1
      clear r1
      have e16 : ρ (.tmp 16) = .bool false := r16
      clear r16
      exact ⟨16, rfl, .inr (.inl ⟨e16, rfl⟩)⟩
    case s20 =>
      intro ρ W hb hc hf hr
      obtain ⟨r22, r16, -⟩ := hr
      have e22 : ρ (.tmp 22) = undef := r22
      clear r22
      have e16 : ρ (.tmp 16) = .bool false := r16
      clear r16
      exact ⟨16, rfl, .inr (.inl ⟨e16, rfl⟩)⟩
    case s21 =>
      intro ρ W hb hc hf hr
      obtain ⟨r21, r23, r16, -⟩ := hr
      have e21 : ρ (.tmp 21) = undef := r21
      clear r21
      have e23 : ρ (.tmp 23) = undef := r23
      clear r23
      have e16 : ρ (.tmp 16) = .bool false := r16
      clear r16
      exact ⟨16, rfl, .inr (.inl ⟨e16, rfl⟩)⟩
    case s22 =>
      intro ρ W hb hc hf hr
      obtain ⟨r16, r24, -⟩ := hr
      have e16 : ρ (.tmp 16) = .bool false := r16
      clear r16
      have e24 : ρ (.tmp 24) = undef := r24
      clear r24
      refine under_none rfl ?_
      simp [execOp, e16, hc, go_sem, softUpon, Fact.is, Below.refl]
    case s23 =>
      intro ρ W hb hc hf hr
      obtain ⟨r25, -⟩ := hr
      have e25 : ρ (.tmp 25) = .bool false := r25
      clear r25
      refine under_none rfl ?_
      exact ⟨e25, Below.refl _ _⟩
    case fin =>
      intro a w4 hb hd hk
      have h4 : a.tmps.getD 2 undef = .bool false := hk 2
      clear hk
      have hc4 := HBW.out w4 (undrew13 hb)
      go_wp2
      refine bodyPost_ret (results_tmp rfl _ _ _) hd ?_
      exact ⟨by rw [h4, HF.out], hc4⟩
  | true =>
    cases q2 with
    | false =>
      have HF := Lib.hid (show RR = false from hV)
      clear hV
      go_enter Tryd.func39, Tryd.ntmps39
      rw [← HW0.out] at x0 x1 x2 x3 x4 x5
      clear hw0
      go_wp2
      rw [HW0.out]
      refine wp_soft (by kernel_rfl) 26 [(3, [1]), (4, [3]), (5, [4]), (6, [5]), (7, [1, 6]), (8, [7, 6]), (9, [8, 6]), (10, [6, 9]), (11, [10]), (12, [1, 11]), (13, [12, 11]), (14, [13, 11]), (15, [11, 14]), (16, [15]), (17, [1, 16]), (18, [17, 16]), (19, [18, 16]), (20, [19, 16]), (21, [20, 16]), (22, [1, 16]), (23, [22, 16]), (24, [21, 23, 16]), (25, [16, 24]), (2, [25])]
        [Fact.is (.pointer (some ⟨w.heap.size, 2, none⟩)), Fact.is (.int .i64 cls), Fact.is (.bool true), Fact.is (.bool true), Fact.is (.pointer (some ⟨w.heap.size, 3, none⟩)), Fact.is (.int .i64 tick), Fact.is (.bool false), Fact.is (.bool false), Fact.is (.bool false), Fact.is (undef), Fact.is (undef), Fact.is (undef), Fact.is (.bool false), Fact.is (.bool false), Fact.is (undef), Fact.is (undef), Fact.is (undef), Fact.is (undef), Fact.is (undef), Fact.is (undef), Fact.is (undef), Fact.is (undef), Fact.is (.bool false), Fact.is (.bool false)]
        (by kernel_rfl) rfl rfl ⟨?s0, ?s1, ?s2, ?s3, ?s4, ?s5, ?s6, ?s7, ?s8, ?s9, ?s10, ?s11, ?s12, ?s13, ?s14, ?s15, ?s16, ?s17, ?s18, ?s19, ?s20, ?s21, ?s22, ?s23, trivial⟩ ?fin
      case s0 =>
        intro ρ W hb hc hf hr
        obtain ⟨r1, -⟩ := hr
        have e1 : ρ (.tmp 1) = .pointer (some ⟨w.heap.size, 0, none⟩) := r1
        clear r1
        refine under_none rfl ?_
        exact soft_field e1 rfl (fun W => by go_simp)
      case s1 =>
        intro ρ W hb hc hf hr
        obtain ⟨r3, -⟩ := hr
        have e3 : ρ (.tmp 3) = .pointer (some ⟨w.heap.size, 2, none⟩) := r3
        clear r3
        refine under_none rfl ?_
        exact soft_load e3 (LC.out W (undrew13 hb)) rfl
      case s2 =>
        intro ρ W hb hc hf hr
        obtain ⟨r4, -⟩ := hr
        have e4 : ρ (.tmp 4) = .int .i64 cls := r4
        clear r4
        refine under_none rfl ?_
        exact soft13_call3 hf (hc _) (hc _) e4 (HW1.out W) rfl (by kernel_rfl) same_is
      case s3 =>
        intro ρ W hb hc hf hr
        obtain ⟨r5, -⟩ := hr
        have e5 : ρ (.tmp 5) = .bool true := r5
        clear r5
        refine under_none rfl ?_
        exact ⟨e5, Below.refl _ _⟩
      case s4 =>
        intro ρ W hb hc hf hr
        obtain ⟨r1, r6, -⟩ := hr
        have e1 : ρ (.tmp 1) = .pointer (some ⟨w.heap.size, 0, none⟩) := r1
        clear r1
        have e6 : ρ (.tmp 6) = .bool true := r6
        clear r6
        refine ⟨6, rfl, .inl ⟨e6, ?_⟩⟩
        exact soft_field e1 rfl (fun W => by go_simp)
      case s5 =>
        intro ρ W hb hc hf hr
        obtain ⟨r7, r6, -⟩ := hr
        have e7 : ρ (.tmp 7) = .pointer (some ⟨w.heap.size, 3, none⟩) := r7
        clear r7
        have e6 : ρ (.tmp 6) = .bool true := r6
        clear r6
        refine ⟨6, rfl, .inl ⟨e6, ?_⟩⟩
        exact soft_load e7 (LT.out W (undrew13 hb)) rfl
      case s6 =>
        intro ρ W hb hc hf hr
        obtain ⟨r8, r6, -⟩ := hr
        have e8 : ρ (.tmp 8) = .int .i64 tick := r8
        clear r8
        have e6 : ρ (.tmp 6) = .bool true := r6
        clear r6
        refine ⟨6, rfl, .inl ⟨e6, ?_⟩⟩
        exact soft13_call3 hf (hc _) (hc _) e8 (HW2.out W) rfl (by kernel_rfl) same_is
      case s7 =>
        intro ρ W hb hc hf hr
        obtain ⟨r6, r9, -⟩ := hr
        have e6 : ρ (.tmp 6) = .bool true := r6
        clear r6
        have e9 : ρ (.tmp 9) = .bool false := r9
        clear r9
        refine under_none rfl ?_
        simp [execOp, e6, e9, go_sem, softUpon, Fact.is, Below.refl]
      case s8 =>
        intro ρ W hb hc hf hr
        obtain ⟨r10, -⟩ := hr
        have e10 : ρ (.tmp 10) = .bool false := r10
        clear r10
        refine under_none rfl ?_
        exact ⟨e10, Below.refl _ _⟩
      case s9 =>
        intro ρ W hb hc hf hr
        obtain ⟨r1, r11, -⟩ := hr
        have e1 : ρ (.tmp 1) = .pointer (some ⟨w.heap.size, 0, none⟩) := r1
        clear r1
        have e11 : ρ (.tmp 11) = .bool false := r11
        clear r11
        exact ⟨11, rfl, .inr (.inl ⟨e11, rfl⟩)⟩
      case s10 =>
        intro ρ W hb hc hf hr
        obtain ⟨r12, r11, -⟩ := hr
        have e12 : ρ (.tmp 12) = undef := r12
        clear r12
        have e11 : ρ (.tmp 11) = .bool false := r11
        clear r11
        exact ⟨11, rfl, .inr (.inl ⟨e11, rfl⟩)⟩
      case s11 =>
        intro ρ W hb hc hf hr
        obtain ⟨r13, r11, -⟩ := hr
        have e13 : ρ (.tmp 13) = undef := r13
        clear r13
        have e11 : ρ (.tmp 11) = .bool false := r11
        clear r11
        exact ⟨11, rfl, .inr (.inl ⟨e11, rfl⟩)⟩
      case s12 =>
        intro ρ W hb hc hf hr
        obtain ⟨r11, r14, -⟩ := hr
        have e11 : ρ (.tmp 11) = .bool false := r11
        clear r11
        have e14 : ρ (.tmp 14) = undef := r14
        clear r14
        refine under_none rfl ?_
        simp [execOp, e11, hc, go_sem, softUpon, Fact.is, Below.refl]
      case s13 =>
        intro ρ W hb hc hf hr
        obtain ⟨r15, -⟩ := hr
        have e15 : ρ (.tmp 15) = .bool false := r15
        clear r15
        refine under_none rfl ?_
        exact ⟨e15, Below.refl _ _⟩
      case s14 =>
        intro ρ W hb hc hf hr
        obtain ⟨r1, r16, -⟩ := hr
        have e1 : ρ (.tmp 1) = .pointer (some ⟨w.heap.size, 0, none⟩) := r1
        clear r1
        have e16 : ρ (.tmp 16) = .bool false := r16
        clear r16
        exact ⟨16, rfl, .inr (.inl ⟨e16, rfl⟩)⟩
      case s15 =>
        intro ρ W hb hc hf hr
        obtain ⟨r17, r16, -⟩ := hr
        have e17 : ρ (.tmp 17) = undef := r17
        clear r17
        have e16 : ρ (.tmp 16) = .bool false := r16
        clear r16
        exact ⟨16, rfl, .inr (.inl ⟨e16, rfl⟩)⟩
      case s16 =>
        intro ρ W hb hc hf hr
        obtain ⟨r18, r16, -⟩ := hr
        have e18 : ρ (.tmp 18) = undef := r18
        clear r18
        have e16 : ρ (.tmp 16) = .bool false := r16
        clear r16
        exact ⟨16, rfl, .inr (.inl ⟨e16, rfl⟩)⟩
      case s17 =>
        intro ρ W hb hc hf hr
        obtain ⟨r19, r16, -⟩ := hr
        have e19 : ρ (.tmp 19) = undef := r19
        clear r19
        have e16 : ρ (.tmp 16) = .bool false := r16
        clear r16
        exact ⟨16, rfl, .inr (.inl ⟨e16, rfl⟩)⟩
      case s18 =>
        intro ρ W hb hc hf hr
        obtain ⟨r20, r16, -⟩ := hr
        have e20 : ρ (.tmp 20) = undef := r20
        clear r20
        have e16 : ρ (.tmp 16) = .bool false := r16
        clear r16
        exact ⟨16, rfl, .inr (.inl ⟨e16, rfl⟩)⟩
      case s19 =>
        intro ρ W hb hc hf hr
        obtain ⟨r1, r16, -⟩ := hr
        have e1 : ρ (.tmp 1) = .pointer (some ⟨w.heap.size, 0, none⟩) := r1
        clear r1
        have e16 : ρ (.tmp 16) = .bool false := r16
        clear r16
        exact ⟨16, rfl, .inr (.inl ⟨e16, rfl⟩)⟩
      case s20 =>
        intro ρ W hb hc hf hr
        obtain ⟨r22, r16, -⟩ := hr
        have e22 : ρ (.tmp 22) = undef := r22
        clear r22
        have e16 : ρ (.tmp 16) = .bool false := r16
        clear r16
        exact ⟨16, rfl, .inr (.inl ⟨e16, rfl⟩)⟩
      case s21 =>
        intro ρ W hb hc hf hr
        obtain ⟨r21, r23, r16, -⟩ := hr
        have e21 : ρ (.tmp 21) = undef := r21
        clear r21
        have e23 : ρ (.tmp 23) = undef := r23
        clear r23
        have e16 : ρ (.tmp 16) = .bool false := r16
        clear r16
        exact ⟨16, rfl, .inr (.inl ⟨e16, rfl⟩)⟩
      case s22 =>
        intro ρ W hb hc hf hr
        obtain ⟨r16, r24, -⟩ := hr
        have e16 : ρ (.tmp 16) = .bool false := r16
        clear r16
        have e24 : ρ (.tmp 24) = undef := r24
        clear r24
        refine under_none rfl ?_
        simp [execOp, e16, hc, go_sem, softUpon, Fact.is, Below.refl]
      case s23 =>
        intro ρ W hb hc hf hr
        obtain ⟨r25, -⟩ := hr
        have e25 : ρ (.tmp 25) = .bool false := r25
        clear r25
        refine under_none rfl ?_
        exact ⟨e25, Below.refl _ _⟩
      case fin =>
        intro a w4 hb hd hk
        have h4 : a.tmps.getD 2 undef = .bool false := hk 2
        clear hk
        have hc4 := HBW.out w4 (undrew13 hb)
        go_wp2
        refine bodyPost_ret (results_tmp rfl _ _ _) hd ?_
        exact ⟨by rw [h4, HF.out], hc4⟩
    | true =>
      cases IT with
      | false =>
        have HF := Lib.hid (show RR = false from hV)
        clear hV
        have HT := Lib.hid (fun (W : World) (h : Below w0.heap.size w0 W) => HRT.out W (HA0.out.below (HBW.out W h)))
        go_enter Tryd.func39, Tryd.ntmps39
        rw [← HW0.out] at x0 x1 x2 x3 x4 x5
        clear hw0
        go_wp2
        rw [HW0.out]
        refine wp_soft (by kernel_rfl) 26 [(3, [1]), (4, [3]), (5, [4]), (6, [5]), (7, [1, 6]), (8, [7, 6]), (9, [8, 6]), (10, [6, 9]), (11, [10]), (12, [1, 11]), (13, [12, 11]), (14, [13, 11]), (15, [11, 14]), (16, [15]), (17, [1, 16]), (18, [17, 16]), (19, [18, 16]), (20, [19, 16]), (21, [20, 16]), (22, [1, 16]), (23, [22, 16]), (24, [21, 23, 16]), (25, [16, 24]), (2, [25])]
          [Fact.is (.pointer (some ⟨w.heap.size, 2, none⟩)), Fact.is (.int .i64 cls), Fact.is (.bool true), Fact.is (.bool true), Fact.is (.pointer (some ⟨w.heap.size, 3, none⟩)), Fact.is (.int .i64 tick), Fact.is (.bool true), Fact.is (.bool true), Fact.is (.bool true), Fact.is (.pointer (some ⟨w.heap.size, 5, none⟩)), Fact.is (.slice A n cap), Fact.is (.bool false), Fact.is (.bool false), Fact.is (.bool false), Fact.is (undef), Fact.is (undef), Fact.is (undef), Fact.is (undef), Fact.is (undef), Fact.is (undef), Fact.is (undef), Fact.is (undef), Fact.is (.bool false), Fact.is (.bool false)]
          (by kernel_rfl) rfl rfl ⟨?s0, ?s1, ?s2, ?s3, ?s4, ?s5, ?s6, ?s7, ?s8, ?s9, ?s10, ?s11, ?s12, ?s13, ?s14, ?s15, ?s16, ?s17, ?s18, ?s19, ?s20, ?s21, ?s22, ?s23, trivial⟩ ?fin
        case s0 =>
          intro ρ W hb hc hf hr
          obtain ⟨r1, -⟩ := hr
          have e1 : ρ (.tmp 1) = .pointer (some ⟨w.heap.size, 0, none⟩) := r1
          clear r1
          refine under_none rfl ?_
          exact soft_field e1 rfl (fun W => by go_simp)
        case s1 =>
          intro ρ W hb hc hf hr
          obtain ⟨r3, -⟩ := hr
          have e3 : ρ (.tmp 3) = .pointer (some ⟨w.heap.size, 2, none⟩) := r3
          clear r3
          refine under_none rfl ?_
          exact soft_load e3 (LC.out W (undrew13 hb)) rfl
        case s2 =>
          intro ρ W hb hc hf hr
          obtain ⟨r4, -⟩ := hr
          have e4 : ρ (.tmp 4) = .int .i64 cls := r4
          clear r4
          refine under_none rfl ?_
          exact soft13_call3 hf (hc _) (hc _) e4 (HW1.out W) rfl (by kernel_rfl) same_is
        case s3 =>
          intro ρ W hb hc hf hr
          obtain ⟨r5, -⟩ := hr
          have e5 : ρ (.tmp 5) = .bool true := r5
          clear r5
          refine under_none rfl ?_
          exact ⟨e5, Below.refl _ _⟩
        case s4 =>
          intro ρ W hb hc hf hr
          obtain ⟨r1, r6, -⟩ := hr
          have e1 : ρ (.tmp 1) = .pointer (some ⟨w.heap.size, 0, none⟩) := r1
          clear r1
          have e6 : ρ (.tmp 6) = .bool true := r6
          clear r6
          refine ⟨6, rfl, .inl ⟨e6, ?_⟩⟩
          exact soft_field e1 rfl (fun W => by go_simp)
        case s5 =>
          intro ρ W hb hc hf hr
          obtain ⟨r7, r6, -⟩ := hr
          have e7 : ρ (.tmp 7) = .pointer (some ⟨w.heap.size, 3, none⟩) := r7
          clear r7
          have e6 : ρ (.tmp 6) = .bool true := r6
          clear r6
          refine ⟨6, rfl, .inl ⟨e6, ?_⟩⟩
          exact soft_load e7 (LT.out W (undrew13 hb)) rfl
        case s6 =>
          intro ρ W hb hc hf hr
          obtain ⟨r8, r6, -⟩ := hr
          have e8 : ρ (.tmp 8) = .int .i64 tick := r8
          clear r8
          have e6 : ρ (.tmp 6) = .bool true := r6
          clear r6
          refine ⟨6, rfl, .inl ⟨e6, ?_⟩⟩
          exact soft13_call3 hf (hc _) (hc _) e8 (HW2.out W) rfl (by kernel_rfl) same_is
        case s7 =>
          intro ρ W hb hc hf hr
          obtain ⟨r6, r9, -⟩ := hr
          have e6 : ρ (.tmp 6) = .bool true := r6
          clear r6
          have e9 : ρ (.tmp 9) = .bool true := r9
          clear r9
          refine under_none rfl ?_
          simp [execOp, e6, e9, go_sem, softUpon, Fact.is, Below.refl]
        case s8 =>
          intro ρ W hb hc hf hr
          obtain ⟨r10, -⟩ := hr
          have e10 : ρ (.tmp 10) = .bool true := r10
          clear r10
          refine under_none rfl ?_
          exact ⟨e10, Below.refl _ _⟩
        case s9 =>
          intro ρ W hb hc hf hr
          obtain ⟨r1, r11, -⟩ := hr
          have e1 : ρ (.tmp 1) = .pointer (some ⟨w.heap.size, 0, none⟩) := r1
          clear r1
          have e11 : ρ (.tmp 11) = .bool true := r11
          clear r11
          refine ⟨11, rfl, .inl ⟨e11, ?_⟩⟩
          exact soft_field e1 rfl (fun W => by go_simp)
        case s10 =>
          intro ρ W hb hc hf hr
          obtain ⟨r12, r11, -⟩ := hr
          have e12 : ρ (.tmp 12) = .pointer (some ⟨w.heap.size, 5, none⟩) := r12
          clear r12
          have e11 : ρ (.tmp 11) = .bool true := r11
          clear r11
          refine ⟨11, rfl, .inl ⟨e11, ?_⟩⟩
          exact soft_load e12 (LS.out W (undrew13 hb)) rfl
        case s11 =>
          intro ρ W hb hc hf hr
          obtain ⟨r13, r11, -⟩ := hr
          have e13 : ρ (.tmp 13) = .slice A n cap := r13
          clear r13
          have e11 : ρ (.tmp 11) = .bool true := r11
          clear r11
          refine ⟨11, rfl, .inl ⟨e11, ?_⟩⟩
          exact soft_call1 hf e13 (HT.out W (undrew13 hb)) rfl (by kernel_rfl) below_is
        case s12 =>
          intro ρ W hb hc hf hr
          obtain ⟨r11, r14, -⟩ := hr
          have e11 : ρ (.tmp 11) = .bool true := r11
          clear r11
          have e14 : ρ (.tmp 14) = .bool false := r14
          clear r14
          refine under_none rfl ?_
          simp [execOp, e11, e14, go_sem, softUpon, Fact.is, Below.refl]
        case s13 =>
          intro ρ W hb hc hf hr
          obtain ⟨r15, -⟩ := hr
          have e15 : ρ (.tmp 15) = .bool false := r15
          clear r15
          refine under_none rfl ?_
          exact ⟨e15, Below.refl _ _⟩
        case s14 =>
          intro ρ W hb hc hf hr
          obtain ⟨r1, r16, -⟩ := hr
          have e1 : ρ (.tmp 1) = .pointer (some ⟨w.heap.size, 0, none⟩) := r1
          clear r1
          have e16 : ρ (.tmp 16) = .bool false := r16
          clear r16
          exact ⟨16, rfl, .inr (.inl ⟨e16, rfl⟩)⟩
        case s15 =>
          intro ρ W hb hc hf hr
          obtain ⟨r17, r16, -⟩ := hr
          have e17 : ρ (.tmp 17) = undef := r17
          clear r17
          have e16 : ρ (.tmp 16) = .bool false := r16
          clear r16
          exact ⟨16, rfl, .inr (.inl ⟨e16, rfl⟩)⟩
        case s16 =>
          intro ρ W hb hc hf hr
          obtain ⟨r18, r16, -⟩ := hr
          have e18 : ρ (.tmp 18) = undef := r18
          clear r18
          have e16 : ρ (.tmp 16) = .bool false := r16
          clear r16
          exact ⟨16, rfl, .inr (.inl ⟨e16, rfl⟩)⟩
        case s17 =>
          intro ρ W hb hc hf hr
          obtain ⟨r19, r16, -⟩ := hr
          have e19 : ρ (.tmp 19) = undef := r19
          clear r19
          have e16 : ρ (.tmp 16) = .bool false := r16
          clear r16
          exact ⟨16, rfl, .inr (.inl ⟨e16, rfl⟩)⟩
        case s18 =>
          intro ρ W hb hc hf hr
          obtain ⟨r20, r16, -⟩ := hr
          have e20 : ρ (.tmp 20) = undef := r20
          clear r20
          have e16 : ρ (.tmp 16) = .bool false := r16
          clear r16
          exact ⟨16, rfl, .inr (.inl ⟨e16, rfl⟩)⟩
        case s19 =>
          intro ρ W hb hc hf hr
          obtain ⟨r1, r16, -⟩ := hr
          have e1 : ρ (.tmp 1) = .pointer (some ⟨w.heap.size, 0, none⟩) := r1
          clear r1
          have e16 : ρ (.tmp 16) = .bool false := r16
          clear r16
          exact ⟨16, rfl, .inr (.inl ⟨e16, rfl⟩)⟩
        case s20 =>
          intro ρ W hb hc hf hr
          obtain ⟨r22, r16, -⟩ := hr
          have e22 : ρ (.tmp 22) = undef := r22
          clear r22
          have e16 : ρ (.tmp 16) = .bool false := r16
          clear r16
          exact ⟨16, rfl, .inr (.inl ⟨e16, rfl⟩)⟩
        case s21 =>
          intro ρ W hb hc hf hr
          obtain ⟨r21, r23, r16, -⟩ := hr
          have e21 : ρ (.tmp 21) = undef := r21
          clear r21
          have e23 : ρ (.tmp 23) = undef := r23
          clear r23
          have e16 : ρ (.tmp 16) = .bool false := r16
          clear r16
          exact ⟨16, rfl, .inr (.inl ⟨e16, rfl⟩)⟩
        case s22 =>
          intro ρ W hb hc hf hr
          obtain ⟨r16, r24, -⟩ := hr
          have e16 : ρ (.tmp 16) = .bool false := r16
          clear r16
          have e24 : ρ (.tmp 24) = undef := r24
          clear r24
          refine under_none rfl ?_
          simp [execOp, e16, hc, go_sem, softUpon, Fact.is, Below.refl]
        case s23 =>
          intro ρ W hb hc hf hr
          obtain ⟨r25, -⟩ := hr
          have e25 : ρ (.tmp 25) = .bool false := r25
          clear r25
          refine under_none rfl ?_
          exact ⟨e25, Below.refl _ _⟩
        case fin =>
          intro a w4 hb hd hk
          have h4 : a.tmps.getD 2 undef = .bool false := hk 2
          clear hk
          have hc4 := HBW.out w4 (undrew13 hb)
          go_wp2
          refine bodyPost_ret (results_tmp rfl _ _ _) hd ?_
          exact ⟨by rw [h4, HF.out], hc4⟩
      | true =>
        obtain ⟨D, hD⟩ : ∃ D, decide (zt = id) = D := ⟨_, rfl⟩
        have G4 := Lib.hid (fun (W : World) => eql13_D W zt id)
        rw [hD] at hV G4
        have HF := Lib.hid (show RR = D from hV)
        clear hV hD
        have HT := Lib.hid (fun (W : World) (h : Below w0.heap.size w0 W) => HRT.out W (HA0.out.below (HBW.out W h)))
        obtain ⟨ad, rfl, hcc⟩ := HAD.out (HN1.out rfl)
        have h1n := HN1.out rfl
        have L0 := Lib.hid (fun (u : World) (h : Below w0.heap.size w0 u) => load_num_at (hcc u (HBW.out u h)))
        clear hcc
        go_enter Tryd.func39, Tryd.ntmps39
        rw [← HW0.out] at x0 x1 x2 x3 x4 x5
        clear hw0
        go_wp2
        rw [HW0.out]
        refine wp_soft (by kernel_rfl) 26 [(3, [1]), (4, [3]), (5, [4]), (6, [5]), (7, [1, 6]), (8, [7, 6]), (9, [8, 6]), (10, [6, 9]), (11, [10]), (12, [1, 11]), (13, [12, 11]), (14, [13, 11]), (15, [11, 14]), (16, [15]), (17, [1, 16]), (18, [17, 16]), (19, [18, 16]), (20, [19, 16]), (21, [20, 16]), (22, [1, 16]), (23, [22, 16]), (24, [21, 23, 16]), (25, [16, 24]), (2, [25])]
          [Fact.is (.pointer (some ⟨w.heap.size, 2, none⟩)), Fact.is (.int .i64 cls), Fact.is (.bool true), Fact.is (.bool true), Fact.is (.pointer (some ⟨w.heap.size, 3, none⟩)), Fact.is (.int .i64 tick), Fact.is (.bool true), Fact.is (.bool true), Fact.is (.bool true), Fact.is (.pointer (some ⟨w.heap.size, 5, none⟩)), Fact.is (.slice (some ad) n cap), Fact.is (.bool true), Fact.is (.bool true), Fact.is (.bool true), Fact.is (.pointer (some ⟨w.heap.size, 5, none⟩)), Fact.is (.slice (some ad) n cap), Fact.is (.pointer (some (Addr.add ad (0 * 7)))), Fact.is (.pointer (some (Addr.add ad (0 * 7)))), Fact.is (.int .i64 zt), Fact.is (.pointer (some ⟨w.heap.size, 1, none⟩)), Fact.is (.int .i64 id), Fact.is (.bool D), Fact.is (.bool D), Fact.is (.bool D)]
          (by kernel_rfl) rfl rfl ⟨?s0, ?s1, ?s2, ?s3, ?s4, ?s5, ?s6, ?s7, ?s8, ?s9, ?s10, ?s11, ?s12, ?s13, ?s14, ?s15, ?s16, ?s17, ?s18, ?s19, ?s20, ?s21, ?s22, ?s23, trivial⟩ ?fin
        case s0 =>
          intro ρ W hb hc hf hr
          obtain ⟨r1, -⟩ := hr
          have e1 : ρ (.tmp 1) = .pointer (some ⟨w.heap.size, 0, none⟩) := r1
          clear r1
          refine under_none rfl ?_
          exact soft_field e1 rfl (fun W => by go_simp)
        case s1 =>
          intro ρ W hb hc hf hr
          obtain ⟨r3, -⟩ := hr
          have e3 : ρ (.tmp 3) = .pointer (some ⟨w.heap.size, 2, none⟩) := r3
          clear r3
          refine under_none rfl ?_
          exact soft_load e3 (LC.out W (undrew13 hb)) rfl
        case s2 =>
          intro ρ W hb hc hf hr
          obtain ⟨r4, -⟩ := hr
          have e4 : ρ (.tmp 4) = .int .i64 cls := r4
          clear r4
          refine under_none rfl ?_
          exact soft13_call3 hf (hc _) (hc _) e4 (HW1.out W) rfl (by kernel_rfl) same_is
        case s3 =>
          intro ρ W hb hc hf hr
          obtain ⟨r5, -⟩ := hr
          have e5 : ρ (.tmp 5) = .bool true := r5
          clear r5
          refine under_none rfl ?_
          exact ⟨e5, Below.refl _ _⟩
        case s4 =>
          intro ρ W hb hc hf hr
          obtain ⟨r1, r6, -⟩ := hr
          have e1 : ρ (.tmp 1) = .pointer (some ⟨w.heap.size, 0, none⟩) := r1
          clear r1
          have e6 : ρ (.tmp 6) = .bool true := r6
          clear r6
          refine ⟨6, rfl, .inl ⟨e6, ?_⟩⟩
          exact soft_field e1 rfl (fun W => by go_simp)
        case s5 =>
          intro ρ W hb hc hf hr
          obtain ⟨r7, r6, -⟩ := hr
          have e7 : ρ (.tmp 7) = .pointer (some ⟨w.heap.size, 3, none⟩) := r7
          clear r7
          have e6 : ρ (.tmp 6) = .bool true := r6
          clear r6
          refine ⟨6, rfl, .inl ⟨e6, ?_⟩⟩
          exact soft_load e7 (LT.out W (undrew13 hb)) rfl
        case s6 =>
          intro ρ W hb hc hf hr
          obtain ⟨r8, r6, -⟩ := hr
          have e8 : ρ (.tmp 8) = .int .i64 tick := r8
          clear r8
          have e6 : ρ (.tmp 6) = .bool true := r6
          clear r6
          refine ⟨6, rfl, .inl ⟨e6, ?_⟩⟩
          exact soft13_call3 hf (hc _) (hc _) e8 (HW2.out W) rfl (by kernel_rfl) same_is
        case s7 =>
          intro ρ W hb hc hf hr
          obtain ⟨r6, r9, -⟩ := hr
          have e6 : ρ (.tmp 6) = .bool true := r6
          clear r6
          have e9 : ρ (.tmp 9) = .bool true := r9
          clear r9
          refine under_none rfl ?_
          simp [execOp, e6, e9, go_sem, softUpon, Fact.is, Below.refl]
        case s8 =>
          intro ρ W hb hc hf hr
          obtain ⟨r10, -⟩ := hr
          have e10 : ρ (.tmp 10) = .bool true := r10
          clear r10
          refine under_none rfl ?_
          exact ⟨e10, Below.refl _ _⟩
        case s9 =>
          intro ρ W hb hc hf hr
          obtain ⟨r1, r11, -⟩ := hr
          have e1 : ρ (.tmp 1) = .pointer (some ⟨w.heap.size, 0, none⟩) := r1
          clear r1
          have e11 : ρ (.tmp 11) = .bool true := r11
          clear r11
          refine ⟨11, rfl, .inl ⟨e11, ?_⟩⟩
          exact soft_field e1 rfl (fun W => by go_simp)
        case s10 =>
          intro ρ W hb hc hf hr
          obtain ⟨r12, r11, -⟩ := hr
          have e12 : ρ (.tmp 12) = .pointer (some ⟨w.heap.size, 5, none⟩) := r12
          clear r12
          have e11 : ρ (.tmp 11) = .bool true := r11
          clear r11
          refine ⟨11, rfl, .inl ⟨e11, ?_⟩⟩
          exact soft_load e12 (LS.out W (undrew13 hb)) rfl
        case s11 =>
          intro ρ W hb hc hf hr
          obtain ⟨r13, r11, -⟩ := hr
          have e13 : ρ (.tmp 13) = .slice (some ad) n cap := r13
          clear r13
          have e11 : ρ (.tmp 11) = .bool true := r11
          clear r11
          refine ⟨11, rfl, .inl ⟨e11, ?_⟩⟩
          exact soft_call1 hf e13 (HT.out W (undrew13 hb)) rfl (by kernel_rfl) below_is
        case s12 =>
          intro ρ W hb hc hf hr
          obtain ⟨r11, r14, -⟩ := hr
          have e11 : ρ (.tmp 11) = .bool true := r11
          clear r11
          have e14 : ρ (.tmp 14) = .bool true := r14
          clear r14
          refine under_none rfl ?_
          simp [execOp, e11, e14, go_sem, softUpon, Fact.is, Below.refl]
        case s13 =>
          intro ρ W hb hc hf hr
          obtain ⟨r15, -⟩ := hr
          have e15 : ρ (.tmp 15) = .bool true := r15
          clear r15
          refine under_none rfl ?_
          exact ⟨e15, Below.refl _ _⟩
        case s14 =>
          intro ρ W hb hc hf hr
          obtain ⟨r1, r16, -⟩ := hr
          have e1 : ρ (.tmp 1) = .pointer (some ⟨w.heap.size, 0, none⟩) := r1
          clear r1
          have e16 : ρ (.tmp 16) = .bool true := r16
          clear r16
          refine ⟨16, rfl, .inl ⟨e16, ?_⟩⟩
          exact soft_field e1 rfl (fun W => by go_simp)
        case s15 =>
          intro ρ W hb hc hf hr
          obtain ⟨r17, r16, -⟩ := hr
          have e17 : ρ (.tmp 17) = .pointer (some ⟨w.heap.size, 5, none⟩) := r17
          clear r17
          have e16 : ρ (.tmp 16) = .bool true := r16
          clear r16
          refine ⟨16, rfl, .inl ⟨e16, ?_⟩⟩
          exact soft_load e17 (LS.out W (undrew13 hb)) rfl
        case s16 =>
          intro ρ W hb hc hf hr
          obtain ⟨r18, r16, -⟩ := hr
          have e18 : ρ (.tmp 18) = .slice (some ad) n cap := r18
          clear r18
          have e16 : ρ (.tmp 16) = .bool true := r16
          clear r16
          refine ⟨16, rfl, .inl ⟨e16, ?_⟩⟩
          exact soft_index7 e18 (hc _) (by omega) rfl
        case s17 =>
          intro ρ W hb hc hf hr
          obtain ⟨r19, r16, -⟩ := hr
          have e19 : ρ (.tmp 19) = .pointer (some (Addr.add ad (0 * 7))) := r19
          clear r19
          have e16 : ρ (.tmp 16) = .bool true := r16
          clear r16
          refine ⟨16, rfl, .inl ⟨e16, ?_⟩⟩
          exact soft_field e19 rfl (fun W => by go_simp)
        case s18 =>
          intro ρ W hb hc hf hr
          obtain ⟨r20, r16, -⟩ := hr
          have e20 : ρ (.tmp 20) = .pointer (some (Addr.add ad (0 * 7))) := r20
          clear r20
          have e16 : ρ (.tmp 16) = .bool true := r16
          clear r16
          refine ⟨16, rfl, .inl ⟨e16, ?_⟩⟩
          exact soft_load e20 (L0.out W (undrew13 hb)) rfl
        case s19 =>
          intro ρ W hb hc hf hr
          obtain ⟨r1, r16, -⟩ := hr
          have e1 : ρ (.tmp 1) = .pointer (some ⟨w.heap.size, 0, none⟩) := r1
          clear r1
          have e16 : ρ (.tmp 16) = .bool true := r16
          clear r16
          refine ⟨16, rfl, .inl ⟨e16, ?_⟩⟩
          exact soft_field e1 rfl (fun W => by go_simp)
        case s20 =>
          intro ρ W hb hc hf hr
          obtain ⟨r22, r16, -⟩ := hr
          have e22 : ρ (.tmp 22) = .pointer (some ⟨w.heap.size, 1, none⟩) := r22
          clear r22
          have e16 : ρ (.tmp 16) = .bool true := r16
          clear r16
          refine ⟨16, rfl, .inl ⟨e16, ?_⟩⟩
          exact soft_load e22 (LI.out W (undrew13 hb)) rfl
        case s21 =>
          intro ρ W hb hc hf hr
          obtain ⟨r21, r23, r16, -⟩ := hr
          have e21 : ρ (.tmp 21) = .int .i64 zt := r21
          clear r21
          have e23 : ρ (.tmp 23) = .int .i64 id := r23
          clear r23
          have e16 : ρ (.tmp 16) = .bool true := r16
          clear r16
          refine ⟨16, rfl, .inl ⟨e16, ?_⟩⟩
          exact soft_bin e21 e23 rfl rfl (G4.out W)
        case s22 =>
          intro ρ W hb hc hf hr
          obtain ⟨r16, r24, -⟩ := hr
          have e16 : ρ (.tmp 16) = .bool true := r16
          clear r16
          have e24 : ρ (.tmp 24) = .bool D := r24
          clear r24
          refine under_none rfl ?_
          simp [execOp, e16, e24, go_sem, softUpon, Fact.is, Below.refl]
        case s23 =>
          intro ρ W hb hc hf hr
          obtain ⟨r25, -⟩ := hr
          have e25 : ρ (.tmp 25) = .bool D := r25
          clear r25
          refine under_none rfl ?_
          exact ⟨e25, Below.refl _ _⟩
        case fin =>
          intro a w4 hb hd hk
          have h4 : a.tmps.getD 2 undef = .bool D := hk 2
          clear hk
          have hc4 := HBW.out w4 (undrew13 hb)
          go_wp2
          refine bodyPost_ret (results_tmp rfl _ _ _) hd ?_
          exact ⟨by rw [h4, HF.out], hc4⟩

set_option maxHeartbeats 4000000 in
theorem dput13S_any (r : Rc.R) (A : Option Addr) (n cap : Nat) (w : World) (hc : 0 ≤ r.cls ∧ r.cls ≤ 7) (hn : r.sp.length = n) (hm : n ≤ maxLen) (hA : Lies w A (flat r.sp)) (hS : Fine r.sp) :
    Calls Tryd.prog 40 #[recV r A n cap] w (Made w ([UInt8.ofNat (Rc.cp r)] ++ Plain.put r.tick ++ Plain.tput r.sp)) := by
  obtain ⟨i0, hi, hz0, hz1, hz2⟩ := info_parts infoU8
  obtain ⟨q, hq⟩ : ∃ q : Nat, Rc.cp r = q := ⟨_, rfl⟩
  have hq16 := (Rc.cp_small r hc).1
  have hqv : Rc.cp r = r.cls.toNat + if r.pin then 8 else 0 := rfl
  rw [hq] at hq16 hqv ⊢
  obtain ⟨kind, id, cls, tick, pin, sp⟩ := r
  simp only at hc hn hA hS hqv ⊢
  clear hq
  obtain ⟨c, rfl⟩ := Int.eq_ofNat_of_zero_le hc.1
  rw [Int.toNat_natCast] at hqv
  have hbx := Blk.new w (recCs ⟨kind, id, (c : Int), tick, pin, sp⟩ A n cap) 24
  have HX := Lib.hid (fun (u : World) (h : Below (w.alloc (.cells (recCs ⟨kind, id, (c : Int), tick, pin, sp⟩ A n cap) 24)).heap.size (w.alloc (.cells (recCs ⟨kind, id, (c : Int), tick, pin, sp⟩ A n cap) 24)) u) => BoxR.six (BoxR.below hbx h))
  simp only [recCs] at HX
  obtain ⟨w0, hw0⟩ : ∃ w0, w.alloc (.cells #[.int .i64 kind, .int .i64 id, .int .i64 (c : Int), .int .i64 tick, .bool pin, .slice A n cap] 24) = w0 := ⟨_, rfl⟩
  have hB0 : Below w.heap.size w w0 := by rw [← hw0]; exact (Below.refl _ _).alloc (Nat.le_refl _) _
  have hs0 : w0.heap.size = w.heap.size + 1 := by rw [← hw0]; simp
  rw [hw0] at HX
  have HW0 := Lib.hid hw0
  obtain ⟨x0, x1, x2, x3, x4, x5⟩ := HX.out w0 (Below.refl _ _)
  have HL1 := Lib.hid (show Lies (w0.alloc (.cells #[.int .u8 (q : Int)] 5)) (some ⟨w0.heap.size, 0, none⟩) (cells [UInt8.ofNat q]) by
    rw [cells_u8 q (by omega)]; exact Lies.new w0 #[.int .u8 (q : Int)] 5)
  have HB1 := Lib.hid (hB0.alloc (by omega) (.cells #[.int .u8 (q : Int)] 5))
  have HB01 := Lib.hid (show Below w0.heap.size w0 (w0.alloc (.cells #[.int .u8 (q : Int)] 5)) from (Below.refl _ _).alloc (Nat.le_refl _) _)
  have HP := Lib.hid (put_any (some ⟨w0.heap.size, 0, none⟩) 1 [UInt8.ofNat q] tick (w0.alloc (.cells #[.int .u8 (q : Int)] 5)) (by simp) HL1.out)
  have HT := Lib.hid (fun (u : World) (h : Below w.heap.size w u) => tput_any A n cap sp u hn hm (hA.below h) hS)
  have hplen := Plain.put_length tick
  have hple := Plain.size_le tick
  have htl := Plain.tput_len sp
  rw [hs0] at HP
  unfold recV recCs
  simp only
  have HLE := Lib.hid (show ([UInt8.ofNat q] ++ Plain.put tick).length + (Plain.tput sp).length ≤ 10000 by rw [List.length_append, hplen]; simp; omega)
  have HFIN := Lib.hid (show ∀ (v : Value) (w' : World), w'.ownsRow w.heap.size 5 1 v (([UInt8.ofNat q] ++ Plain.put tick).length + (Plain.tput sp).length) (cells ([UInt8.ofNat q] ++ Plain.put tick) ++ cells (Plain.tput sp)) → Below w.heap.size w w' → Made w (([UInt8.ofNat q] ++ Plain.put tick) ++ Plain.tput sp) (.returned v) w' from
    fun v w' ho hb => ⟨v, rfl, by rw [cells_append, List.length_append]; exact ho, hb⟩)
  have HTC := Lib.hid (cells_one (Plain.tput sp))
  have HTL := Lib.hid (cells_length (Plain.tput sp))
  clear hplen hple htl hn hA hS hm
  generalize ([UInt8.ofNat q] ++ Plain.put tick) ++ Plain.tput sp = out at *
  generalize [UInt8.ofNat q] ++ Plain.put tick = mid at *
  generalize Plain.tput sp = tb at *
  have hpin : pin = true ∧ (wrap64 ((c : Int) + 8) = (c : Int) + 8 ∧ ((c : Int) + 8) % 256 = (q : Int)) ∨ pin = false ∧ ((c : Int) % 256 = (q : Int)) := by
    cases pin
    · right; exact ⟨rfl, by simp at hqv; omega⟩
    · left; exact ⟨rfl, IntWalk.wrap64_in _ (by omega), by simp at hqv; omega⟩
  clear hqv hc
  rcases hpin with ⟨rfl, hcw, hcq⟩ | ⟨rfl, hcq⟩
  all_goals
    go_enter Tryd.func40, Tryd.ntmps40
    rw [← HW0.out] at x0 x1 x2 x3 x4 x5
    clear hw0
    go_wp2_with fail
    rw [HW0.out, hcq]
    refine HP.out.mono ?_
    rintro e w2 hM
    obtain ⟨v, rfl, ho, hb2⟩ := hM.up HB1.out
    have hb02 : Below w0.heap.size w0 w2 := HB01.out.trans (hM.choose_spec.2.2.mono HB01.out.size)
    obtain ⟨y0, y1, y2, y3, y4, y5⟩ := HX.out w2 hb02
    have HO := Lib.hid ho
    have HB2 := Lib.hid hb2
    clear x0 x1 x2 x3 x4 x5 ho hb2 hb02 hM
    go_wp2_with fail
    refine (HT.out w2 HB2.out).mono ?_
    rintro e w3 ⟨v3, rfl, ho3, hb3⟩
    obtain ⟨A3, c3, rfl, -, -, hl3, hL3⟩ := own_form ho3
    rw [HTL.out] at hl3
    have HO2 := Lib.hid (own_keep HO.out hb3)
    have HB3 := Lib.hid (HB2.out.trans (hb3.mono HB2.out.size))
    have HL3 := Lib.hid hL3
    clear ho3 hb3 hL3 y0 y1 y2 y3 y4 y5
    go_wp2_with (at_builtin; refine wpList_app rfl _ _ 25 rfl w.heap.size 5 i0 (.int .u8 0) Tryd.underlying25 hi hz0 hz1 hz2 rfl v mid.length (cells mid) rfl HO2.out A3 tb.length c3 (cells tb) rfl HTL.out HL3.out HTC.out (by have := HLE.out; omega) HB3.out.size ?_)
    intro v4 w4 ho4 hg4 _
    have hb4 : Below w.heap.size w w4 := HB3.out.grown hg4 HB3.out.size (fun g hg => (HO2.out.lt g hg).1)
    have HO4 := Lib.hid ho4
    clear ho4 hg4
    go_wp2
    go_ret
    exact HFIN.out _ _ HO4.out hb4
end Go.Proofs.YtdfeccmcefcpbaaDoor

