/-
  Layer 13, the developers' rec: Get; and that the package keeps its contracts. Assumed: that the bytes and the spans lie in memory, and that a type has its handle.
-/
import Derived.Test.YtdfeccmcefcpbaaDoorRoF
import Derived.Test.YtdfeccmcefcpbaaDoorHd13

namespace Go.Proofs.YtdfeccmcefcpbaaDoor
open Go.RowKit
set_option maxRecDepth 100000

def Fact.og (o : Option Rc.R) : Fact := ⟨fun v w => ∃ A cap, v = .tuple #[recV (o.getD Rc.zero) A (o.getD Rc.zero).sp.length cap, .bool o.isSome] ∧ (o.getD Rc.zero).sp.length ≤ cap ∧ cap ≤ maxLen ∧ Lies w A (flat (o.getD Rc.zero).sp), fun _ _ _ ⟨A, c, e, h1, h2, h⟩ hb => ⟨A, c, e, h1, h2, h.below hb⟩⟩
def Fact.rv (r : Rc.R) : Fact := ⟨fun v w => ∃ A cap, v = recV r A r.sp.length cap ∧ r.sp.length ≤ cap ∧ cap ≤ maxLen ∧ Lies w A (flat r.sp), fun _ _ _ ⟨A, c, e, h1, h2, h⟩ hb => ⟨A, c, e, h1, h2, h.below hb⟩⟩
theorem og_is {w : World} {o : Option Rc.R} : ∀ (e : Ending) (w' : World), OGives w o e w' → ∃ v, e = .returned v ∧ (Fact.og o).φ v w' ∧ Below w.heap.size w w' := fun _ _ ⟨A, c, he, h1, h2, h3, _, hb⟩ => ⟨_, he, ⟨A, c, rfl, h1, h2, h3⟩, hb⟩
theorem soft13_slice {P : Program} {w : World} {ρ : Operand → Value} {o : Oper} {x y : Operand} {t : TypeId} {vx vy u : Value} (hx : ρ x = vx) (hy : ρ y = vy) (hr : (Instr.sliceAt t vx (some vy) none none).run P w = .ok u w) (ho : o.op = .slice t x (some y) none none) : softUpon P w (Fact.is u) ((execOp ρ o).run P w) := by
  have e : (execOp ρ o).run P w = .ok (.value u) w := by simp [execOp, ho, hx, hy, hr]
  rw [e]
  exact ⟨rfl, Below.refl _ _⟩
theorem soft13_callV2 {P : Program} {w : World} {F : Fact} {ρ : Operand → Value} {o : Oper} {x g : Operand} {f : FuncId} {ats : Array TypeId} {vx vc vd : Value} {R : Ending → World → Prop}
    (hx : ρ x = vx) (hg : ρ g = .func (.func f) #[] #[vc, vd]) (hc : Calls P f #[vx, vc, vd] w R) (ho : o.op = .call { callee := .value g, args := #[x], argTypes := ats })
    (hfn : (P.funcs[f]?).map (fun fn => (fn.name == "runtime.NumGoroutine", fn.body.isNone)) = some (false, false)) (hR : ∀ e w', R e w' → ∃ v, e = .returned v ∧ F.φ v w' ∧ Below w.heap.size w w') : softUpon P w F ((execOp ρ o).run P w) := by
  have e : (execOp ρ o).run P w = .ok (.enter f #[vx, vc, vd]) w := by
    simp [execOp, ho, resolve, invoke, hg, hx, Deferred.ofValue, go_sem, enters hfn]
  rw [e]
  exact ⟨rfl, hc.mono hR⟩
theorem soft13_ext0 {P : Program} {w : World} {ρ : Operand → Value} {o : Oper} {x : Operand} {q : Option Rc.R} (hx : (Fact.og q).φ (ρ x) w) (ho : o.op = .extract x 0) : softUpon P w (Fact.rv (q.getD Rc.zero)) ((execOp ρ o).run P w) := by
  obtain ⟨A, c, e1, h⟩ := hx
  have e : (execOp ρ o).run P w = .ok (.value (recV (q.getD Rc.zero) A (q.getD Rc.zero).sp.length c)) w := by simp [execOp, ho, e1, go_sem]
  rw [e]
  exact ⟨⟨A, c, rfl, h⟩, Below.refl _ _⟩
theorem soft13_allocR {w : World} {ρ : Operand → Value} {o : Oper} {B : Nat} (hB : B ≤ w.heap.size) (ho : o.op = .alloc 24) : softUpon Tryd.prog w (Fact.new13 B #[.int .i64 0, .int .i64 0, .int .i64 0, .int .i64 0, .bool false, .slice none 0 0] 24) ((execOp ρ o).run Tryd.prog w) := by
  have e : (execOp ρ o).run Tryd.prog w = .ok (.value (.pointer (some ⟨w.heap.size, 0, none⟩))) (w.alloc (.cells #[.int .i64 0, .int .i64 0, .int .i64 0, .int .i64 0, .bool false, .slice none 0 0] 24)) := by
    simp [execOp, ho]
    go_simp
  rw [e]
  exact ⟨⟨_, rfl, hB, Blk.new _ _ _⟩, (Below.refl _ _).alloc (Nat.le_refl _) _⟩

/-! the answers -/
def withK (k : Nat) (q : Rc.R) : Rc.R := ⟨(k : Int), q.id, q.cls, q.tick, q.pin, q.sp⟩
theorem getK_S (c : List UInt8) : Rc.getK 1 c = (getS0 c).map (withK 1) := by
  have h : Rc.getK 1 c = Rc.getS c := by unfold Rc.getK; rw [if_pos rfl]
  rw [h]
  unfold getS0
  cases hs : Rc.getS c with
  | none => rfl
  | some q =>
    have hk := (Rc.getS_back hs).1
    simp only [Option.map_some, withK, Option.some.injEq]
    exact Rc.R.ext' hk rfl rfl rfl rfl rfl
theorem getK_C (k : Nat) (hk : 2 ≤ k ∧ k ≤ 5) (c : List UInt8) : Rc.getK k c = (getC0 (decide ((k : Int) = 4)) c).map (withK k) := by
  unfold Rc.getK
  rw [if_neg (by omega), if_pos hk]
  have h4 : decide ((k : Int) = 4) = decide (k = 4) := by by_cases h : k = 4 <;> simp [h]; omega
  rw [h4]
  unfold Rc.getC getC0
  simp only [decide_eq_true_eq]
  by_cases hq : (Plain.get c).2.2 ≠ 0 ∨ c.length ≠ (Plain.get c).2.1 + (if k = 4 then 1 else 0)
  · rw [if_pos hq, if_pos hq]; rfl
  · rw [if_neg hq, if_neg hq]; rfl
theorem getK_no (k : Nat) (hk : ¬ (1 ≤ k ∧ k ≤ 5)) (c : List UInt8) : Rc.getK k c = none := by
  unfold Rc.getK
  rw [if_neg (by omega), if_neg (by omega)]
theorem getK_fine {k : Nat} {c : List UInt8} {r : Rc.R} (h : Rc.getK k c = some r) : Fine r.sp := by
  obtain ⟨-, -, h3 | h3⟩ := Rc.getK_back h
  · intro z hz
    have := (Plain.Sp.right_iff z).1 (Plain.isT_right h3 z hz)
    unfold maxLen
    omega
  · rw [h3]; intro z hz; cases hz

set_option maxHeartbeats 16000000 in
theorem dget13_any (A : Option Addr) (n cap : Nat) (x : List UInt8) (w : World) (hH : Handle w) (hn : x.length = n) (hc : n ≤ cap) (hm : cap ≤ maxLen) (hf : n ≤ 1099511627776) (hA : Lies w A (cells x)) :
    Calls Tryd.prog 12 #[.slice A n cap] w (RGives13 w (Rc.rget x)) := by
  have hB0 : Below w.heap.size w (w.alloc (.cells #[.int .i64 0, .int .i64 0, .int .i64 0, .int .i64 0, .bool false, .slice none 0 0] 24)) := (Below.refl _ _).alloc (Nat.le_refl _) _
  have HZ0 := Lib.hid (Blk.new w #[.int .i64 0, .int .i64 0, .int .i64 0, .int .i64 0, .bool false, .slice none 0 0] 24)
  have HB0 := Lib.hid hB0
  cases x with
  | nil =>
    subst hn
    have HR := Lib.hid g13_none
    clear hB0 hA
    go_enter Tryd.func12, Tryd.ntmps12
    go_wp2_with (first | fail | refine wpList_storeR rfl _ _ rfl w.heap.size rfl 0 0 0 0 false none 0 0 rfl _ _ _ _ _ _ HZ0.out ?k9)
    case k9 =>
      intro w19 hb19 hk19
      obtain ⟨c0, c1, c2, c3, c4, c5⟩ := six13 hb19
      have HB19 := Lib.hid (Kept.below HB0.out hk19 (by simp))
      clear hb19 hk19
      go_wp2
      refine bodyPost_ret (v := .tuple #[.agg #[.int .i64 0, .int .i64 0, .int .i64 0, .int .i64 0, .bool false, .slice none 0 0], .int .i64 11]) (by simp [results, Tryd.results12, go_sem, c0, c1, c2, c3, c4, c5, Result.andThen]) rfl ?_
      rw [HR.out]
      exact ⟨none, 0, rfl, Nat.le_refl _, by unfold maxLen; omega, Lies.nil, (fun x hx => by simp [Rc.zero] at hx), HB19.out⟩

  | cons k8 cx =>
  obtain ⟨k, hk8⟩ : ∃ k, k8.toNat = k := ⟨_, rfl⟩
  have hk256 : k < 256 := by rw [← hk8]; exact k8.toNat_lt
  have hn1 : 1 ≤ n := by rw [← hn]; simp
  have hcx : cx.length = n - 1 := by rw [← hn]; simp
  obtain ⟨ad, rfl, -⟩ := hA.at_ (k := 0) (by rw [cells_length, hn]; omega)
  have HX0 := Lib.hid (fun (u : World) (h : Below w.heap.size w u) => show u.cell? ad = some (.int .u8 (k : Int)) by
    obtain ⟨ad', e, -, h3⟩ := (hA.below h).at_ (k := 0) (by rw [cells_length, hn]; omega)
    injection e with e; subst e
    rw [show ad = ad.add 0 from rfl, h3, ← hk8]
    simp [cells])
  have hm' := hm
  unfold maxLen at hm'
  have hLd : Lies w (cutA (some ad) cap 1) (cells cx) := by
    have h := hA.drop (k := 1) (cap := cap) (by rw [cells_length, hn]; omega)
    rw [cells_drop] at h
    exact h
  have HSL := Lib.hid (fun (W : World) => show (Instr.sliceAt 25 (.slice (some ad) n cap) (some (.int .i64 1)) none none).run Tryd.prog W = .ok (.slice (cutA (some ad) cap 1) (n - 1) (cap - 1)) W from slice_lo (some ad) n cap 1 W (by omega) hc (by omega))
  generalize cutA (some ad) cap 1 = CA at *
  have HGS := Lib.hid (fun (W : World) (h : Below w.heap.size w W) => dget13S_any CA (n - 1) (cap - 1) cx W (handle13_below hH h) hcx (by omega) (by unfold maxLen; omega) (by omega) (hLd.below h))
  have HGC := Lib.hid (fun (c : Bool) (gm gn gc : Nat) (W : World) (hC : Cap13 W gm gn gc c) (h : Below w.heap.size w W) => dget13C_any c gm gn gc CA (n - 1) (cap - 1) cx W hC hcx (by omega) (hLd.below h))
  have HRN := Lib.hid (fun (h : Rc.getK k cx = none) => Rc.rget_none (k := k8) (c := cx) (by rw [hk8]; exact h))
  have HRO := Lib.hid (fun (r : Rc.R) (h : Rc.getK k cx = some r) => Rc.rget_some (k := k8) (c := cx) (r := r) (by rw [hk8]; exact h))
  obtain ⟨GX, hGX⟩ : ∃ GX, Rc.rget (k8 :: cx) = GX := ⟨_, rfl⟩
  rw [hGX] at HRN HRO ⊢
  have HSH := Lib.hid (shapes13_any (w.alloc (.cells #[.int .i64 0, .int .i64 0, .int .i64 0, .int .i64 0, .bool false, .slice none 0 0] 24)))
  have y0 := HX0.out _ hB0
  have dl : ((n : Int) == 0) = false := by rw [beq_eq_false_iff_ne]; omega
  clear hGX hB0 hA hLd hn hcx hk8 hH hm
  by_cases hk : 1 ≤ (k : Int) ∧ (k : Int) ≤ 5
  rotate_left
  · have HR := Lib.hid (HRN.out (getK_no k (by omega) cx))
    clear HGS HGC HRN HRO
    go_enter Tryd.func12, Tryd.ntmps12
    go_wp2_with fail
    refine HSH.out.mono ?_
    rintro e w1 ⟨b, rfl, hs, hb1⟩
    have HB1 := Lib.hid (HB0.out.trans (hb1.mono HB0.out.size))
    have HZ1 := Lib.hid (show Blk w1 w.heap.size _ _ from (hb1.block _ HZ0.out.lt).trans HZ0.out)
    obtain ⟨u, hlk, -, -, h3⟩ := hs.look (k : Int)
    have hu := h3 hk
    subst hu
    rw [decide_eq_false hk] at hlk
    unfold noV at hlk
    clear hb1 hs h3 hk y0
    go_wp2_with (first | fail | refine wpList_storeR rfl _ _ rfl w.heap.size rfl 0 0 0 0 false none 0 0 rfl _ _ _ _ _ _ (blk_past HZ1.out _) ?k9)
    case k9 =>
      intro w19 hb19 hk19
      obtain ⟨c0, c1, c2, c3, c4, c5⟩ := six13 hb19
      have HB19 := Lib.hid (Kept.below (HB1.out.alloc HB1.out.size _) hk19 (by simp))
      clear hb19 hk19
      go_wp2
      refine bodyPost_ret (v := .tuple #[.agg #[.int .i64 0, .int .i64 0, .int .i64 0, .int .i64 0, .bool false, .slice none 0 0], .int .i64 12]) (by simp [results, Tryd.results12, go_sem, c0, c1, c2, c3, c4, c5, Result.andThen]) rfl ?_
      rw [HR.out]
      exact ⟨none, 0, rfl, Nat.le_refl _, by unfold maxLen; omega, Lies.nil, (fun x hx => by simp [Rc.zero] at hx), HB19.out⟩
  by_cases hks : (k : Int) = 1
  · have HKS := Lib.hid hks
    have HK := Lib.hid hk
    clear hks hk
    go_enter Tryd.func12, Tryd.ntmps12
    go_wp2_with fail
    refine HSH.out.mono ?_
    rintro e w1 ⟨b, rfl, hs, hb1⟩
    have HB1 := Lib.hid (HB0.out.trans (hb1.mono HB0.out.size))
    have HZ1 := Lib.hid (show Blk w1 w.heap.size _ _ from (hb1.block _ HZ0.out.lt).trans HZ0.out)
    obtain ⟨u, hlk, h1, h2, -⟩ := hs.look (k : Int)
    have hu := h1 HKS.out
    subst hu
    rw [decide_eq_true HK.out] at hlk
    unfold sealV at hlk
    obtain ⟨w5, hw5⟩ : ∃ w5, w1.alloc (.cells #[.func (.func 39) #[] #[], .func (.func 40) #[] #[], .func (.func 41) #[] #[]] 48) = w5 := ⟨_, rfl⟩
    have HB5 := Lib.hid (show Below w.heap.size w w5 by rw [← hw5]; exact HB1.out.alloc HB1.out.size _)
    have HB15 := Lib.hid (show Below w1.heap.size w1 w5 by rw [← hw5]; exact (Below.refl _ _).alloc (Nat.le_refl _) _)
    have HZ5 := Lib.hid (show Blk w5 w.heap.size _ _ by rw [← hw5]; exact blk_past HZ1.out _)
    have hs5 : Blk w5 w1.heap.size #[.func (.func 39) #[] #[], .func (.func 40) #[] #[], .func (.func 41) #[] #[]] 48 := by rw [← hw5]; exact Blk.new _ _ _
    have HS5 := Lib.hid hs5
    have LF := Lib.hid (fun (u : World) (h : Below w5.heap.size w5 u) => show (Instr.loadAt 46 (.pointer (some ⟨w1.heap.size, 2, none⟩))).run Tryd.prog u = .ok (.func (.func 41) #[] #[]) u by
      have c2 : u.cell? ⟨w1.heap.size, 2, none⟩ = some (.func (.func 41) #[] #[]) := Blk.cell ((h.block _ HS5.out.lt).trans HS5.out) 2
      clear HGS HGC HSL hlk hw5
      go_simp)
    have HGX := Lib.hid (fun (u : World) (h : Below w5.heap.size w5 u) => HGS.out u (HB5.out.trans (h.mono HB5.out.size)))
    have HKO := Lib.hid (show Rc.getK k cx = (getS0 cx).map (withK k) by rw [show k = 1 by have := HKS.out; omega]; exact getK_S cx)
    generalize getS0 cx = O at *
    have HW5 := Lib.hid hw5
    clear hb1 hs h1 h2 hs5 hw5 y0
    go_wp2
    rw [HW5.out]
    refine wp_lateP (by kernel_rfl) 25 (fun v => ∃ u, v = .tuple #[u, .bool O.isSome]) 44 [(26, [5]), (27, [26]), (28, [0]), (29, [28]), (30, [27, 29]), (25, [30]), (31, [25]), (32, [25]), (7, []), (1009, [7, 31]), (1010, [32])]
      [Fact.is (.pointer (some ⟨w1.heap.size, 2, none⟩)), Fact.is (.func (.func 41) #[] #[]), Fact.is (.slice (some ad) n cap), Fact.is (.slice CA (n - 1) (cap - 1)), Fact.og O, Fact.og O, Fact.rv (O.getD Rc.zero), Fact.is (.bool O.isSome), Fact.new13 w5.heap.size #[.int .i64 0, .int .i64 0, .int .i64 0, .int .i64 0, .bool false, .slice none 0 0] 24, default, default]
      [1, 1, 1, 1, 1, 1, 1, 0, 1, 2, 2] [9, 10] [7, 6] [26, 27, 28, 29, 30, 25, 31, 32, 7, 6] ((fun p vs w' => ∃ g A9 c9, vs.getD 0 undef = .pointer (some ⟨g, 0, none⟩) ∧ w5.heap.size ≤ g ∧ Blk w' g (recCs (O.getD Rc.zero) A9 (O.getD Rc.zero).sp.length c9) 24 ∧ (O.getD Rc.zero).sp.length ≤ c9 ∧ c9 ≤ maxLen ∧ Lies w' A9 (flat (O.getD Rc.zero).sp) ∧ Below w5.heap.size w5 w' ∧ (p = 2 → vs.getD 1 undef = .bool O.isSome)))
      (by kernel_rfl) (by kernel_rfl) rfl rfl (fun j v w hs h => by have e : some 5 = some j := hs; injection e with e; subst e; obtain ⟨A9, c9, e, -⟩ := h; exact ⟨_, e⟩) (by kernel_rfl) ⟨?s0, ?s1, ?s2, ?s3, ?s4, ?s5, ?s6, ?s7, ?s8, trivial⟩ ?late ?fin
    case s0 =>
      intro ρ W hb hc hf hr
      obtain ⟨r5, -⟩ := hr
      have e5 : ρ (.tmp 5) = .pointer (some ⟨w1.heap.size, 0, none⟩) := r5
      clear r5
      refine under_none rfl ?_
      exact soft_field e5 rfl (fun W => by go_simp)
    case s1 =>
      intro ρ W hb hc hf hr
      obtain ⟨r26, -⟩ := hr
      have e26 : ρ (.tmp 26) = .pointer (some ⟨w1.heap.size, 2, none⟩) := r26
      clear r26
      refine under_none rfl ?_
      exact soft_load e26 (LF.out W (undrew13 hb)) rfl
    case s2 =>
      intro ρ W hb hc hf hr
      obtain ⟨r0, -⟩ := hr
      have e0 : ρ (.tmp 0) = .slice (some ad) n cap := r0
      clear r0
      refine under_none rfl ?_
      exact ⟨e0, Below.refl _ _⟩
    case s3 =>
      intro ρ W hb hc hf hr
      obtain ⟨r28, -⟩ := hr
      have e28 : ρ (.tmp 28) = .slice (some ad) n cap := r28
      clear r28
      refine under_none rfl ?_
      exact soft13_slice e28 (hc _) (HSL.out W) rfl
    case s4 =>
      intro ρ W hb hc hf hr
      obtain ⟨r27, r29, -⟩ := hr
      have e27 : ρ (.tmp 27) = .func (.func 41) #[] #[] := r27
      clear r27
      have e29 : ρ (.tmp 29) = .slice CA (n - 1) (cap - 1) := r29
      clear r29
      refine under_none rfl ?_
      exact soft13_callV0 e29 e27 (HGX.out W (undrew13 hb)) rfl (by kernel_rfl) og_is
    case s5 =>
      intro ρ W hb hc hf hr
      obtain ⟨r30, -⟩ := hr
      refine under_none rfl ?_
      exact soft13_move r30 rfl
    case s6 =>
      intro ρ W hb hc hf hr
      obtain ⟨r25, -⟩ := hr
      refine under_none rfl ?_
      exact soft13_ext0 r25 rfl
    case s7 =>
      refine ⟨rfl, _, rfl, ?_⟩
      intro ρ W hc hf hp hr
      replace hp := hp rfl
      clear hr
      exact free13_ext hp rfl
    case s8 =>
      intro ρ W hb hc hf hr
      clear hr
      refine under_none rfl ?_
      exact soft13_allocR (undrew13 hb).size rfl
    case late =>
      intro p j o hj ho a W hsz h0 h1 hfr hou
      match p, hj with
      | 0, hj =>
        obtain rfl : 9 = j := Option.some.inj hj
        obtain rfl := Option.some.inj ho
        clear hj ho
        obtain ⟨hb, hhard⟩ := h0 rfl
        have r7 : (Fact.new13 w5.heap.size #[.int .i64 0, .int .i64 0, .int .i64 0, .int .i64 0, .bool false, .slice none 0 0] 24).φ (a.tmps.getD 7 undef) W := hhard 7 8 rfl rfl
        have r31 : (Fact.rv (O.getD Rc.zero)).φ (a.tmps.getD 31 undef) W := hhard 31 6 rfl rfl
        clear h0 h1 hhard hfr hou
        obtain ⟨g, e7, hg, hB⟩ := r7
        obtain ⟨A9, c9, e31, hl9, hm9, hL9⟩ := r31
        have e7' : a.eval (.tmp 7) = .pointer (some ⟨g, 0, none⟩) := e7
        have e31' : a.eval (.tmp 31) = recV (O.getD Rc.zero) A9 (O.getD Rc.zero).sp.length c9 := e31
        obtain ⟨w', hr, hb', hk⟩ := run_storeR (O.getD Rc.zero).kind (O.getD Rc.zero).id (O.getD Rc.zero).cls (O.getD Rc.zero).tick (O.getD Rc.zero).pin A9 (O.getD Rc.zero).sp.length c9 hB
        refine late13_store (x := .tmp 7) (y := .tmp 31) (w' := w') rfl (by rw [e7', e31']; exact hr) ⟨undef, rfl, ?_⟩
        exact ⟨g, A9, c9, e7, hg, hb', hl9, hm9, lies_other13 hL9 hB (by simp) hk, Kept.below (undrew13 hb) hk (by simpa using hg), fun h => absurd h (by omega)⟩
      | 1, hj =>
        obtain rfl : 10 = j := Option.some.inj hj
        obtain rfl := Option.some.inj ho
        clear hj ho
        have hP := h1 (by omega)
        have e32 : a.eval (.tmp 32) = .bool O.isSome := hfr 32 7 rfl rfl (by kernel_rfl)
        clear h0 h1 hfr hou
        obtain ⟨g, A9, c9, h1, h2, h3, h4, h5, h6, h7, -⟩ := hP
        refine late_assign rfl e32 ⟨_, rfl, ?_⟩
        exact ⟨g, A9, c9, by simpa [Act.put, Array.getD_eq_getD_getElem?, hsz] using h1, h2, h3, h4, h5, h6, h7, fun _ => by simp [Act.put, Array.getD_eq_getD_getElem?, hsz]⟩
      | q + 2, hj => cases hj
    case fin =>
      intro a w6 ha hP
      obtain ⟨g, A9, c9, hX7, hg, hb6, hl9, hm9, hL9, hb56, hX6⟩ := hP
      have e7 : a.tmps.getD 7 undef = .pointer (some ⟨g, 0, none⟩) := hX7
      have e6 : a.tmps.getD 6 undef = .bool O.isSome := hX6 rfl
      clear hX7 hX6
      simp only [List.foldl_cons, List.foldl_nil, e7, e6] at ha
      clear e7 e6
      generalize a.tmps.getD 26 undef = v26 at ha
      generalize a.tmps.getD 27 undef = v27 at ha
      generalize a.tmps.getD 28 undef = v28 at ha
      generalize a.tmps.getD 29 undef = v29 at ha
      generalize a.tmps.getD 30 undef = v30 at ha
      generalize a.tmps.getD 25 undef = v25 at ha
      generalize a.tmps.getD 31 undef = v31 at ha
      generalize a.tmps.getD 32 undef = v32 at ha
      simp only [Act.put, List.setIfInBounds_toArray, List.set_cons_succ, List.set_cons_zero] at ha
      subst ha
      have HB6 := Lib.hid (HB5.out.trans (hb56.mono HB5.out.size))
      have HZ6 := Lib.hid (show Blk w6 w.heap.size _ _ from (hb56.block _ HZ5.out.lt).trans HZ5.out)
      have HG := Lib.hid (show w.heap.size < g by have := HB5.out.size; have := HZ5.out.lt; omega)
      have hb6' : Blk w6 g #[.int .i64 (O.getD Rc.zero).kind, .int .i64 (O.getD Rc.zero).id, .int .i64 (O.getD Rc.zero).cls, .int .i64 (O.getD Rc.zero).tick, .bool (O.getD Rc.zero).pin, .slice A9 (O.getD Rc.zero).sp.length c9] 24 := hb6
      have HBR := Lib.hid hb6'
      obtain ⟨q0, -, -, -, -, -⟩ := six13 hb6'
      have f0 := hb6'.frozen 0
      have HL6 := Lib.hid hL9
      have HLM := Lib.hid (And.intro hl9 hm9)
      clear hb6 hb6' hb56 hg hL9 hl9 hm9 LF HGX
      cases O with
      | none =>
        have HR := Lib.hid (HRN.out HKO.out)
        clear HRO HRN
        go_wp2_with (first | fail | refine wpList_storeF rfl _ _ _ rfl g 0 rfl _ rfl _ _ HBR.out (by go_simp) ?k5)
        case k5 =>
          intro w8 hb8 hk8
          have HB8 := Lib.hid (Kept.below HB6.out hk8 (by simp; have := HG.out; omega))
          have HZ8 := Lib.hid (hk8.blk HZ6.out (by simp; have := HG.out; omega))
          clear hb8 hk8 q0 f0
          go_wp2_with (first | fail | refine wpList_storeR rfl _ _ rfl w.heap.size rfl 0 0 0 0 false none 0 0 rfl _ _ _ _ _ _ HZ8.out ?k9)
          case k9 =>
            intro w19 hb19 hk19
            obtain ⟨c0, c1, c2, c3, c4, c5⟩ := six13 hb19
            have HB19 := Lib.hid (Kept.below HB8.out hk19 (by simp))
            clear hb19 hk19
            go_wp2
            refine bodyPost_ret (v := .tuple #[.agg #[.int .i64 0, .int .i64 0, .int .i64 0, .int .i64 0, .bool false, .slice none 0 0], .int .i64 12]) (by simp [results, Tryd.results12, go_sem, c0, c1, c2, c3, c4, c5, Result.andThen]) rfl ?_
            rw [HR.out]
            exact ⟨none, 0, rfl, Nat.le_refl _, by unfold maxLen; omega, Lies.nil, (fun x hx => by simp [Rc.zero] at hx), HB19.out⟩
      | some q =>
        obtain ⟨qk, qi, qc, qt, qp, qs⟩ := q
        have hro : GX = if Rc.right ⟨(k : Int), qi, qc, qt, qp, qs⟩ = true then (⟨(k : Int), qi, qc, qt, qp, qs⟩, 0) else (Rc.zero, 12) := HRO.out _ HKO.out
        have hfi : Fine qs := getK_fine (show Rc.getK k cx = some (withK k ⟨qk, qi, qc, qt, qp, qs⟩) from HKO.out)
        simp only [Option.getD_some, Option.isSome_some] at HBR HL6 HLM q0 ⊢
        obtain ⟨nn, hnn⟩ : ∃ nn, qs.length = nn := ⟨_, rfl⟩
        rw [hnn] at HBR HLM
        have hlm := HLM.out.1
        have hmm := HLM.out.2
        have HRT := Lib.hid (fun (W : World) (h : Lies W A9 (flat qs)) => dright13_any ⟨(k : Int), qi, qc, qt, qp, qs⟩ A9 nn c9 W hnn (by omega) h hfi)
        obtain ⟨RR, hRR⟩ : ∃ RR, Rc.right ⟨(k : Int), qi, qc, qt, qp, qs⟩ = RR := ⟨_, rfl⟩
        rw [hRR] at HRT hro
        have HRR := Lib.hid hro
        have HFI := Lib.hid hfi
        have HNN := Lib.hid hnn
        unfold recV recCs at HRT
        simp only at HRT
        clear hRR hro hfi HRO HRN hnn hlm hmm
        go_wp2_with (first | fail | refine wpList_storeF rfl _ _ _ rfl g 0 rfl _ rfl _ _ HBR.out (by go_simp) ?k5)
        case k5 =>
          intro w8 hb8 hk8
          have hb8' : Blk w8 g #[.int .i64 (k : Int), .int .i64 qi, .int .i64 qc, .int .i64 qt, .bool qp, .slice A9 nn c9] 24 := hb8
          have HB8 := Lib.hid (Kept.below HB6.out hk8 (by simp; have := HG.out; omega))
          have HZ8 := Lib.hid (hk8.blk HZ6.out (by simp; have := HG.out; omega))
          have HL8 := Lib.hid (lies_other13 HL6.out HBR.out (by simp) hk8)
          have HBR8 := Lib.hid hb8'
          clear q0 f0
          obtain ⟨q0, q1, q2, q3, q4, q5⟩ := six13 hb8'
          clear hb8 hb8' hk8
          have HRX := Lib.hid (HRT.out w8 HL8.out)
          cases RR with
          | false =>
            have HR := Lib.hid (show GX = (Rc.zero, 12) by rw [HRR.out]; rfl)
            go_wp2_with fail
            refine HRX.out.mono ?_
            rintro e w9 ⟨rfl, hb9⟩
            have HB9 := Lib.hid (HB8.out.trans (hb9.mono HB8.out.size))
            have HZ9 := Lib.hid (show Blk w9 w.heap.size _ _ from (hb9.block _ HZ8.out.lt).trans HZ8.out)
            clear hb9 q0 q1 q2 q3 q4 q5
            go_wp2_with (first | fail | refine wpList_storeR rfl _ _ rfl w.heap.size rfl 0 0 0 0 false none 0 0 rfl _ _ _ _ _ _ HZ9.out ?k9)
            case k9 =>
              intro w19 hb19 hk19
              obtain ⟨c0, c1, c2, c3, c4, c5⟩ := six13 hb19
              have HB19 := Lib.hid (Kept.below HB9.out hk19 (by simp))
              clear hb19 hk19
              go_wp2
              refine bodyPost_ret (v := .tuple #[.agg #[.int .i64 0, .int .i64 0, .int .i64 0, .int .i64 0, .bool false, .slice none 0 0], .int .i64 12]) (by simp [results, Tryd.results12, go_sem, c0, c1, c2, c3, c4, c5, Result.andThen]) rfl ?_
              rw [HR.out]
              exact ⟨none, 0, rfl, Nat.le_refl _, by unfold maxLen; omega, Lies.nil, (fun x hx => by simp [Rc.zero] at hx), HB19.out⟩
          | true =>
            have HR := Lib.hid (show GX = (⟨(k : Int), qi, qc, qt, qp, qs⟩, 0) by rw [HRR.out]; rfl)
            go_wp2_with fail
            refine HRX.out.mono ?_
            rintro e w9 ⟨rfl, hb9⟩
            have HB9 := Lib.hid (HB8.out.trans (hb9.mono HB8.out.size))
            have HZ9 := Lib.hid (show Blk w9 w.heap.size _ _ from (hb9.block _ HZ8.out.lt).trans HZ8.out)
            have hbr9 := (hb9.block _ HBR8.out.lt).trans HBR8.out
            have HL9 := Lib.hid (HL8.out.below hb9)
            clear hb9 q0 q1 q2 q3 q4 q5
            obtain ⟨q0, q1, q2, q3, q4, q5⟩ := six13 hbr9
            clear hbr9
            go_wp2_with (first | fail | refine wpList_storeR rfl _ _ rfl w.heap.size rfl (k : Int) qi qc qt qp A9 nn c9 rfl _ _ _ _ _ _ HZ9.out ?k9)
            case k9 =>
              intro w19 hb19 hk19
              obtain ⟨c0, c1, c2, c3, c4, c5⟩ := six13 hb19
              have HB19 := Lib.hid (Kept.below HB9.out hk19 (by simp))
              have HL19 := Lib.hid (lies_other13 HL9.out HZ9.out (by simp) hk19)
              clear hb19 hk19 q0 q1 q2 q3 q4 q5
              go_wp2
              refine bodyPost_ret (v := .tuple #[.agg #[.int .i64 (k : Int), .int .i64 qi, .int .i64 qc, .int .i64 qt, .bool qp, .slice A9 nn c9], .int .i64 0]) (by simp [results, Tryd.results12, go_sem, c0, c1, c2, c3, c4, c5, Result.andThen]) rfl ?_
              rw [HR.out]
              exact ⟨A9, c9, by rw [HNN.out]; rfl, by rw [HNN.out]; exact HLM.out.1, HLM.out.2, HL19.out, HFI.out, HB19.out⟩
  · have HKS := Lib.hid hks
    have HK := Lib.hid hk
    clear hks hk
    go_enter Tryd.func12, Tryd.ntmps12
    go_wp2_with fail
    refine HSH.out.mono ?_
    rintro e w1 ⟨b, rfl, hs, hb1⟩
    have HB1 := Lib.hid (HB0.out.trans (hb1.mono HB0.out.size))
    have HZ1 := Lib.hid (show Blk w1 w.heap.size _ _ from (hb1.block _ HZ0.out.lt).trans HZ0.out)
    obtain ⟨u, hlk, h1, h2, -⟩ := hs.look (k : Int)
    obtain ⟨gm, gn, gc, hu, hcap⟩ := h2 (by have := HK.out; have := HKS.out; omega)
    have HCAP := Lib.hid hcap
    subst hu
    rw [decide_eq_true HK.out] at hlk
    unfold chgV at hlk
    obtain ⟨w5, hw5⟩ : ∃ w5, w1.alloc (.cells #[.func (.func 55) #[] #[.pointer (some ⟨gm, 0, none⟩)], .func (.func 56) #[] #[.pointer (some ⟨gc, 0, none⟩)], .func (.func 57) #[] #[.pointer (some ⟨gn, 0, none⟩), .pointer (some ⟨gc, 0, none⟩)]] 48) = w5 := ⟨_, rfl⟩
    have HB5 := Lib.hid (show Below w.heap.size w w5 by rw [← hw5]; exact HB1.out.alloc HB1.out.size _)
    have HB15 := Lib.hid (show Below w1.heap.size w1 w5 by rw [← hw5]; exact (Below.refl _ _).alloc (Nat.le_refl _) _)
    have HZ5 := Lib.hid (show Blk w5 w.heap.size _ _ by rw [← hw5]; exact blk_past HZ1.out _)
    have hs5 : Blk w5 w1.heap.size #[.func (.func 55) #[] #[.pointer (some ⟨gm, 0, none⟩)], .func (.func 56) #[] #[.pointer (some ⟨gc, 0, none⟩)], .func (.func 57) #[] #[.pointer (some ⟨gn, 0, none⟩), .pointer (some ⟨gc, 0, none⟩)]] 48 := by rw [← hw5]; exact Blk.new _ _ _
    have HS5 := Lib.hid hs5
    have LF := Lib.hid (fun (u : World) (h : Below w5.heap.size w5 u) => show (Instr.loadAt 46 (.pointer (some ⟨w1.heap.size, 2, none⟩))).run Tryd.prog u = .ok (.func (.func 57) #[] #[.pointer (some ⟨gn, 0, none⟩), .pointer (some ⟨gc, 0, none⟩)]) u by
      have c2 : u.cell? ⟨w1.heap.size, 2, none⟩ = some (.func (.func 57) #[] #[.pointer (some ⟨gn, 0, none⟩), .pointer (some ⟨gc, 0, none⟩)]) := Blk.cell ((h.block _ HS5.out.lt).trans HS5.out) 2
      clear HGS HGC HSL hlk hw5
      go_simp)
    have HGX := Lib.hid (fun (u : World) (h : Below w5.heap.size w5 u) => HGC.out (decide ((k : Int) = 4)) gm gn gc u ((HCAP.out.below HB15.out).below h) (HB5.out.trans (h.mono HB5.out.size)))
    clear hcap
    have HKO := Lib.hid (getK_C k (by have := HK.out; have := HKS.out; omega) cx)
    generalize getC0 (decide ((k : Int) = 4)) cx = O at *
    have HW5 := Lib.hid hw5
    clear hb1 hs h1 h2 hs5 hw5 y0
    go_wp2
    rw [HW5.out]
    refine wp_lateP (by kernel_rfl) 25 (fun v => ∃ u, v = .tuple #[u, .bool O.isSome]) 44 [(26, [5]), (27, [26]), (28, [0]), (29, [28]), (30, [27, 29]), (25, [30]), (31, [25]), (32, [25]), (7, []), (1009, [7, 31]), (1010, [32])]
      [Fact.is (.pointer (some ⟨w1.heap.size, 2, none⟩)), Fact.is (.func (.func 57) #[] #[.pointer (some ⟨gn, 0, none⟩), .pointer (some ⟨gc, 0, none⟩)]), Fact.is (.slice (some ad) n cap), Fact.is (.slice CA (n - 1) (cap - 1)), Fact.og O, Fact.og O, Fact.rv (O.getD Rc.zero), Fact.is (.bool O.isSome), Fact.new13 w5.heap.size #[.int .i64 0, .int .i64 0, .int .i64 0, .int .i64 0, .bool false, .slice none 0 0] 24, default, default]
      [1, 1, 1, 1, 1, 1, 1, 0, 1, 2, 2] [9, 10] [7, 6] [26, 27, 28, 29, 30, 25, 31, 32, 7, 6] ((fun p vs w' => ∃ g A9 c9, vs.getD 0 undef = .pointer (some ⟨g, 0, none⟩) ∧ w5.heap.size ≤ g ∧ Blk w' g (recCs (O.getD Rc.zero) A9 (O.getD Rc.zero).sp.length c9) 24 ∧ (O.getD Rc.zero).sp.length ≤ c9 ∧ c9 ≤ maxLen ∧ Lies w' A9 (flat (O.getD Rc.zero).sp) ∧ Below w5.heap.size w5 w' ∧ (p = 2 → vs.getD 1 undef = .bool O.isSome)))
      (by kernel_rfl) (by kernel_rfl) rfl rfl (fun j v w hs h => by have e : some 5 = some j := hs; injection e with e; subst e; obtain ⟨A9, c9, e, -⟩ := h; exact ⟨_, e⟩) (by kernel_rfl) ⟨?s0, ?s1, ?s2, ?s3, ?s4, ?s5, ?s6, ?s7, ?s8, trivial⟩ ?late ?fin
    case s0 =>
      intro ρ W hb hc hf hr
      obtain ⟨r5, -⟩ := hr
      have e5 : ρ (.tmp 5) = .pointer (some ⟨w1.heap.size, 0, none⟩) := r5
      clear r5
      refine under_none rfl ?_
      exact soft_field e5 rfl (fun W => by go_simp)
    case s1 =>
      intro ρ W hb hc hf hr
      obtain ⟨r26, -⟩ := hr
      have e26 : ρ (.tmp 26) = .pointer (some ⟨w1.heap.size, 2, none⟩) := r26
      clear r26
      refine under_none rfl ?_
      exact soft_load e26 (LF.out W (undrew13 hb)) rfl
    case s2 =>
      intro ρ W hb hc hf hr
      obtain ⟨r0, -⟩ := hr
      have e0 : ρ (.tmp 0) = .slice (some ad) n cap := r0
      clear r0
      refine under_none rfl ?_
      exact ⟨e0, Below.refl _ _⟩
    case s3 =>
      intro ρ W hb hc hf hr
      obtain ⟨r28, -⟩ := hr
      have e28 : ρ (.tmp 28) = .slice (some ad) n cap := r28
      clear r28
      refine under_none rfl ?_
      exact soft13_slice e28 (hc _) (HSL.out W) rfl
    case s4 =>
      intro ρ W hb hc hf hr
      obtain ⟨r27, r29, -⟩ := hr
      have e27 : ρ (.tmp 27) = .func (.func 57) #[] #[.pointer (some ⟨gn, 0, none⟩), .pointer (some ⟨gc, 0, none⟩)] := r27
      clear r27
      have e29 : ρ (.tmp 29) = .slice CA (n - 1) (cap - 1) := r29
      clear r29
      refine under_none rfl ?_
      exact soft13_callV2 e29 e27 (HGX.out W (undrew13 hb)) rfl (by kernel_rfl) og_is
    case s5 =>
      intro ρ W hb hc hf hr
      obtain ⟨r30, -⟩ := hr
      refine under_none rfl ?_
      exact soft13_move r30 rfl
    case s6 =>
      intro ρ W hb hc hf hr
      obtain ⟨r25, -⟩ := hr
      refine under_none rfl ?_
      exact soft13_ext0 r25 rfl
    case s7 =>
      refine ⟨rfl, _, rfl, ?_⟩
      intro ρ W hc hf hp hr
      replace hp := hp rfl
      clear hr
      exact free13_ext hp rfl
    case s8 =>
      intro ρ W hb hc hf hr
      clear hr
      refine under_none rfl ?_
      exact soft13_allocR (undrew13 hb).size rfl
    case late =>
      intro p j o hj ho a W hsz h0 h1 hfr hou
      match p, hj with
      | 0, hj =>
        obtain rfl : 9 = j := Option.some.inj hj
        obtain rfl := Option.some.inj ho
        clear hj ho
        obtain ⟨hb, hhard⟩ := h0 rfl
        have r7 : (Fact.new13 w5.heap.size #[.int .i64 0, .int .i64 0, .int .i64 0, .int .i64 0, .bool false, .slice none 0 0] 24).φ (a.tmps.getD 7 undef) W := hhard 7 8 rfl rfl
        have r31 : (Fact.rv (O.getD Rc.zero)).φ (a.tmps.getD 31 undef) W := hhard 31 6 rfl rfl
        clear h0 h1 hhard hfr hou
        obtain ⟨g, e7, hg, hB⟩ := r7
        obtain ⟨A9, c9, e31, hl9, hm9, hL9⟩ := r31
        have e7' : a.eval (.tmp 7) = .pointer (some ⟨g, 0, none⟩) := e7
        have e31' : a.eval (.tmp 31) = recV (O.getD Rc.zero) A9 (O.getD Rc.zero).sp.length c9 := e31
        obtain ⟨w', hr, hb', hk⟩ := run_storeR (O.getD Rc.zero).kind (O.getD Rc.zero).id (O.getD Rc.zero).cls (O.getD Rc.zero).tick (O.getD Rc.zero).pin A9 (O.getD Rc.zero).sp.length c9 hB
        refine late13_store (x := .tmp 7) (y := .tmp 31) (w' := w') rfl (by rw [e7', e31']; exact hr) ⟨undef, rfl, ?_⟩
        exact ⟨g, A9, c9, e7, hg, hb', hl9, hm9, lies_other13 hL9 hB (by simp) hk, Kept.below (undrew13 hb) hk (by simpa using hg), fun h => absurd h (by omega)⟩
      | 1, hj =>
        obtain rfl : 10 = j := Option.some.inj hj
        obtain rfl := Option.some.inj ho
        clear hj ho
        have hP := h1 (by omega)
        have e32 : a.eval (.tmp 32) = .bool O.isSome := hfr 32 7 rfl rfl (by kernel_rfl)
        clear h0 h1 hfr hou
        obtain ⟨g, A9, c9, h1, h2, h3, h4, h5, h6, h7, -⟩ := hP
        refine late_assign rfl e32 ⟨_, rfl, ?_⟩
        exact ⟨g, A9, c9, by simpa [Act.put, Array.getD_eq_getD_getElem?, hsz] using h1, h2, h3, h4, h5, h6, h7, fun _ => by simp [Act.put, Array.getD_eq_getD_getElem?, hsz]⟩
      | q + 2, hj => cases hj
    case fin =>
      intro a w6 ha hP
      obtain ⟨g, A9, c9, hX7, hg, hb6, hl9, hm9, hL9, hb56, hX6⟩ := hP
      have e7 : a.tmps.getD 7 undef = .pointer (some ⟨g, 0, none⟩) := hX7
      have e6 : a.tmps.getD 6 undef = .bool O.isSome := hX6 rfl
      clear hX7 hX6
      simp only [List.foldl_cons, List.foldl_nil, e7, e6] at ha
      clear e7 e6
      generalize a.tmps.getD 26 undef = v26 at ha
      generalize a.tmps.getD 27 undef = v27 at ha
      generalize a.tmps.getD 28 undef = v28 at ha
      generalize a.tmps.getD 29 undef = v29 at ha
      generalize a.tmps.getD 30 undef = v30 at ha
      generalize a.tmps.getD 25 undef = v25 at ha
      generalize a.tmps.getD 31 undef = v31 at ha
      generalize a.tmps.getD 32 undef = v32 at ha
      simp only [Act.put, List.setIfInBounds_toArray, List.set_cons_succ, List.set_cons_zero] at ha
      subst ha
      have HB6 := Lib.hid (HB5.out.trans (hb56.mono HB5.out.size))
      have HZ6 := Lib.hid (show Blk w6 w.heap.size _ _ from (hb56.block _ HZ5.out.lt).trans HZ5.out)
      have HG := Lib.hid (show w.heap.size < g by have := HB5.out.size; have := HZ5.out.lt; omega)
      have hb6' : Blk w6 g #[.int .i64 (O.getD Rc.zero).kind, .int .i64 (O.getD Rc.zero).id, .int .i64 (O.getD Rc.zero).cls, .int .i64 (O.getD Rc.zero).tick, .bool (O.getD Rc.zero).pin, .slice A9 (O.getD Rc.zero).sp.length c9] 24 := hb6
      have HBR := Lib.hid hb6'
      obtain ⟨q0, -, -, -, -, -⟩ := six13 hb6'
      have f0 := hb6'.frozen 0
      have HL6 := Lib.hid hL9
      have HLM := Lib.hid (And.intro hl9 hm9)
      clear hb6 hb6' hb56 hg hL9 hl9 hm9 LF HGX
      cases O with
      | none =>
        have HR := Lib.hid (HRN.out HKO.out)
        clear HRO HRN
        go_wp2_with (first | fail | refine wpList_storeF rfl _ _ _ rfl g 0 rfl _ rfl _ _ HBR.out (by go_simp) ?k5)
        case k5 =>
          intro w8 hb8 hk8
          have HB8 := Lib.hid (Kept.below HB6.out hk8 (by simp; have := HG.out; omega))
          have HZ8 := Lib.hid (hk8.blk HZ6.out (by simp; have := HG.out; omega))
          clear hb8 hk8 q0 f0
          go_wp2_with (first | fail | refine wpList_storeR rfl _ _ rfl w.heap.size rfl 0 0 0 0 false none 0 0 rfl _ _ _ _ _ _ HZ8.out ?k9)
          case k9 =>
            intro w19 hb19 hk19
            obtain ⟨c0, c1, c2, c3, c4, c5⟩ := six13 hb19
            have HB19 := Lib.hid (Kept.below HB8.out hk19 (by simp))
            clear hb19 hk19
            go_wp2
            refine bodyPost_ret (v := .tuple #[.agg #[.int .i64 0, .int .i64 0, .int .i64 0, .int .i64 0, .bool false, .slice none 0 0], .int .i64 12]) (by simp [results, Tryd.results12, go_sem, c0, c1, c2, c3, c4, c5, Result.andThen]) rfl ?_
            rw [HR.out]
            exact ⟨none, 0, rfl, Nat.le_refl _, by unfold maxLen; omega, Lies.nil, (fun x hx => by simp [Rc.zero] at hx), HB19.out⟩
      | some q =>
        obtain ⟨qk, qi, qc, qt, qp, qs⟩ := q
        have hro : GX = if Rc.right ⟨(k : Int), qi, qc, qt, qp, qs⟩ = true then (⟨(k : Int), qi, qc, qt, qp, qs⟩, 0) else (Rc.zero, 12) := HRO.out _ HKO.out
        have hfi : Fine qs := getK_fine (show Rc.getK k cx = some (withK k ⟨qk, qi, qc, qt, qp, qs⟩) from HKO.out)
        simp only [Option.getD_some, Option.isSome_some] at HBR HL6 HLM q0 ⊢
        obtain ⟨nn, hnn⟩ : ∃ nn, qs.length = nn := ⟨_, rfl⟩
        rw [hnn] at HBR HLM
        have hlm := HLM.out.1
        have hmm := HLM.out.2
        have HRT := Lib.hid (fun (W : World) (h : Lies W A9 (flat qs)) => dright13_any ⟨(k : Int), qi, qc, qt, qp, qs⟩ A9 nn c9 W hnn (by omega) h hfi)
        obtain ⟨RR, hRR⟩ : ∃ RR, Rc.right ⟨(k : Int), qi, qc, qt, qp, qs⟩ = RR := ⟨_, rfl⟩
        rw [hRR] at HRT hro
        have HRR := Lib.hid hro
        have HFI := Lib.hid hfi
        have HNN := Lib.hid hnn
        unfold recV recCs at HRT
        simp only at HRT
        clear hRR hro hfi HRO HRN hnn hlm hmm
        go_wp2_with (first | fail | refine wpList_storeF rfl _ _ _ rfl g 0 rfl _ rfl _ _ HBR.out (by go_simp) ?k5)
        case k5 =>
          intro w8 hb8 hk8
          have hb8' : Blk w8 g #[.int .i64 (k : Int), .int .i64 qi, .int .i64 qc, .int .i64 qt, .bool qp, .slice A9 nn c9] 24 := hb8
          have HB8 := Lib.hid (Kept.below HB6.out hk8 (by simp; have := HG.out; omega))
          have HZ8 := Lib.hid (hk8.blk HZ6.out (by simp; have := HG.out; omega))
          have HL8 := Lib.hid (lies_other13 HL6.out HBR.out (by simp) hk8)
          have HBR8 := Lib.hid hb8'
          clear q0 f0
          obtain ⟨q0, q1, q2, q3, q4, q5⟩ := six13 hb8'
          clear hb8 hb8' hk8
          have HRX := Lib.hid (HRT.out w8 HL8.out)
          cases RR with
          | false =>
            have HR := Lib.hid (show GX = (Rc.zero, 12) by rw [HRR.out]; rfl)
            go_wp2_with fail
            refine HRX.out.mono ?_
            rintro e w9 ⟨rfl, hb9⟩
            have HB9 := Lib.hid (HB8.out.trans (hb9.mono HB8.out.size))
            have HZ9 := Lib.hid (show Blk w9 w.heap.size _ _ from (hb9.block _ HZ8.out.lt).trans HZ8.out)
            clear hb9 q0 q1 q2 q3 q4 q5
            go_wp2_with (first | fail | refine wpList_storeR rfl _ _ rfl w.heap.size rfl 0 0 0 0 false none 0 0 rfl _ _ _ _ _ _ HZ9.out ?k9)
            case k9 =>
              intro w19 hb19 hk19
              obtain ⟨c0, c1, c2, c3, c4, c5⟩ := six13 hb19
              have HB19 := Lib.hid (Kept.below HB9.out hk19 (by simp))
              clear hb19 hk19
              go_wp2
              refine bodyPost_ret (v := .tuple #[.agg #[.int .i64 0, .int .i64 0, .int .i64 0, .int .i64 0, .bool false, .slice none 0 0], .int .i64 12]) (by simp [results, Tryd.results12, go_sem, c0, c1, c2, c3, c4, c5, Result.andThen]) rfl ?_
              rw [HR.out]
              exact ⟨none, 0, rfl, Nat.le_refl _, by unfold maxLen; omega, Lies.nil, (fun x hx => by simp [Rc.zero] at hx), HB19.out⟩
          | true =>
            have HR := Lib.hid (show GX = (⟨(k : Int), qi, qc, qt, qp, qs⟩, 0) by rw [HRR.out]; rfl)
            go_wp2_with fail
            refine HRX.out.mono ?_
            rintro e w9 ⟨rfl, hb9⟩
            have HB9 := Lib.hid (HB8.out.trans (hb9.mono HB8.out.size))
            have HZ9 := Lib.hid (show Blk w9 w.heap.size _ _ from (hb9.block _ HZ8.out.lt).trans HZ8.out)
            have hbr9 := (hb9.block _ HBR8.out.lt).trans HBR8.out
            have HL9 := Lib.hid (HL8.out.below hb9)
            clear hb9 q0 q1 q2 q3 q4 q5
            obtain ⟨q0, q1, q2, q3, q4, q5⟩ := six13 hbr9
            clear hbr9
            go_wp2_with (first | fail | refine wpList_storeR rfl _ _ rfl w.heap.size rfl (k : Int) qi qc qt qp A9 nn c9 rfl _ _ _ _ _ _ HZ9.out ?k9)
            case k9 =>
              intro w19 hb19 hk19
              obtain ⟨c0, c1, c2, c3, c4, c5⟩ := six13 hb19
              have HB19 := Lib.hid (Kept.below HB9.out hk19 (by simp))
              have HL19 := Lib.hid (lies_other13 HL9.out HZ9.out (by simp) hk19)
              clear hb19 hk19 q0 q1 q2 q3 q4 q5
              go_wp2
              refine bodyPost_ret (v := .tuple #[.agg #[.int .i64 (k : Int), .int .i64 qi, .int .i64 qc, .int .i64 qt, .bool qp, .slice A9 nn c9], .int .i64 0]) (by simp [results, Tryd.results12, go_sem, c0, c1, c2, c3, c4, c5, Result.andThen]) rfl ?_
              rw [HR.out]
              exact ⟨A9, c9, by rw [HNN.out]; rfl, by rw [HNN.out]; exact HLM.out.1, HLM.out.2, HL19.out, HFI.out, HB19.out⟩

theorem recOk : RecOk where
  right r A n cap w hn hc hm hA hS := dright13_any r A n cap w hn (by omega) hA hS
  put r A n cap w hn hc hm hA hS := dput13_any r A n cap w hn (by omega) hA hS
  cost l A n cap w hn hc hm hA hS := dcost13_any A n cap l w hn (by omega) hA hS
  get A n cap x w hH hn hc hm hf hA := dget13_any A n cap x w hH hn hc hm hf hA
end Go.Proofs.YtdfeccmcefcpbaaDoor

