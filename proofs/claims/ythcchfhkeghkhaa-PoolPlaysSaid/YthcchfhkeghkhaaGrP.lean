/-
  Layer 16: turntablelaw16.great: whether calls are too much: what its 'no' says, of any calls. Nothing is assumed but that they lie in memory.
-/
import Derived.Test.YthcchfhkeghkhaaOpP
import Derived.Test.YthcchfhkeghkhaaTrR6
import Derived.Lib.MinMax

namespace Go.Proofs.Ythcchfhkeghkhaa
open Go.RowKit Go.Maps
set_option maxRecDepth 100000

/-- all spans of calls, of each no more than 301 -/
def cut16 (l : List O16) : List Plain.Sp := l.flatMap fun o => o.l.take 301
theorem cut16_snoc (l : List O16) (o : O16) : cut16 (l ++ [o]) = cut16 l ++ o.l.take 301 := by simp [cut16]
theorem cut16_len (l : List O16) : (cut16 l).length ≤ 301 * l.length := by
  induction l with
  | nil => simp [cut16]
  | cons o l ih =>
    have e : cut16 (o :: l) = o.l.take 301 ++ cut16 l := rfl
    rw [e, List.length_append, List.length_take, List.length_cons]; omega
theorem cut16_few {l : List O16} (h : (cut16 l).length ≤ 300) : (∀ o ∈ l, o.l.length ≤ 300) ∧ (l.map fun o => o.l.length).sum ≤ 300 := by
  have key : ∀ l : List O16, (cut16 l).length ≤ 300 → (∀ o ∈ l, o.l.length ≤ 300) ∧ (l.map fun o => o.l.length).sum = (cut16 l).length := by
    intro l
    induction l with
    | nil => intro _; exact ⟨fun o ho => (by cases ho), rfl⟩
    | cons o l ih =>
      intro h
      have e : cut16 (o :: l) = o.l.take 301 ++ cut16 l := rfl
      rw [e, List.length_append, List.length_take] at h
      obtain ⟨h1, h2⟩ := ih (by omega)
      refine ⟨fun x hx => ?_, ?_⟩
      · rcases List.mem_cons.1 hx with rfl | hx
        · omega
        · exact h1 x hx
      · rw [e, List.length_append, List.length_take, List.map_cons, List.sum_cons, h2]; omega
  obtain ⟨h1, h2⟩ := key l h
  exact ⟨h1, by rw [h2]; exact h⟩
theorem flat_take7 (l : List Plain.Sp) (k : Nat) : (flat l).take (k * 7) = flat (l.take k) := by
  induction l generalizing k with
  | nil => simp [flat]
  | cons x l ih =>
    rcases k with _ | k
    · simp [flat]
    · have h : flat (x :: l) = spanCells x ++ flat l := rfl
      have h2 : flat ((x :: l).take (k + 1)) = spanCells x ++ flat (l.take k) := rfl
      rw [h, h2, List.take_append, spanCells_length, ← ih k, List.take_of_length_le (by rw [spanCells_length]; omega)]
      congr 2
      omega
theorem flat_one7 (l : List Plain.Sp) : ∀ u ∈ flat l, u.oneCell' = true := by
  intro u hu
  obtain ⟨x, -, hx⟩ := List.mem_flatMap.1 hu
  simp only [spanCells, List.mem_cons, List.not_mem_nil, or_false] at hx
  rcases hx with rfl | rfl | rfl | rfl | rfl | rfl | rfl <;> rfl

theorem soft_min16 {w : World} {ρ : Operand → Value} {o : Oper} {x y : Operand} {ats : Array TypeId} {a b c : Int} (hx : ρ x = .int .i64 a) (hy : ρ y = .int .i64 b) (hab : min a b = c) (ho : o.op = .call { callee := .builtin .min, args := #[x, y], argTypes := ats }) : softUpon Try.prog w (Fact.is (.int .i64 c)) ((execOp ρ o).run Try.prog w) := by
  subst hab
  have e : (execOp ρ o).run Try.prog w = .ok (.value (.int .i64 (min a b))) w := by
    simp only [execOp, ho, resolve, invoke, builtin, Sem.run_bind, Sem.run_pure, Result.andThen_ok, List.map_toArray, List.map_cons, List.map_nil, hx, hy, Lib.run_min_ints]
  rw [e]
  exact ⟨rfl, Below.refl _ _⟩
theorem soft_index16 {w : World} {ρ : Operand → Value} {o : Oper} {x y : Operand} {ad : Addr} {n cap k : Nat} (hx : ρ x = .slice (some ad) n cap) (hy : ρ y = .int .i64 (k : Int)) (h : k < n) (ho : o.op = .indexAddr 22 x y) : softUpon Try.prog w (Fact.is (.pointer (some (Addr.add ad (k * 3))))) ((execOp ρ o).run Try.prog w) := by
  have hr : (Instr.indexAt 22 (.slice (some ad) n cap) (.int .i64 (k : Int))).run Try.prog w = .ok (.pointer (some (Addr.add ad (k * 3)))) w := by go_simp
  have e : (execOp ρ o).run Try.prog w = .ok (.value (.pointer (some (Addr.add ad (k * 3))))) w := by
    simp [execOp, ho, hx, hy, hr]
  rw [e]
  exact ⟨rfl, Below.refl _ _⟩
theorem run_loadSs (W : World) (a : Addr) (v : Value) (h : W.cell? a = some v) : (Instr.loadAt 29 (.pointer (some a))).run Try.prog W = .ok v W := by
  go_simp
theorem late_app16 {W : World} {a : Act} {o : Oper} {s x : Operand} {B n m : Nat} {l k : List Plain.Sp} {K : Act → World → Prop} {Q : Exit → Act → World → Prop} (hs : W.ownsRow B 45 7 (a.eval s) n (flat l)) (hx : (Fact.lie m (flat k)).φ (a.eval x) W) (hm : k.length = m) (hb : n + m ≤ 100000) (hB : B ≤ W.heap.size) (ho : o.op = .call { callee := .builtin .append, args := #[s, x], argTypes := #[29, 29] })
    (hK : ∀ v w', w'.ownsRow B 45 7 v (n + m) (flat (l ++ k)) → (∀ u0, Below B u0 W → Below B u0 w') → K (a.put o.dst v) w') : o.wp Try.prog a W K Q := by
  obtain ⟨i0, hi, hz0, hz1, hz2⟩ := info_parts infoSp
  refine late_app Try.underlying29 hi hz0 hz1 hz2 rfl (by decide) hs hx (by rw [flat_length, hm]) (flat_one7 k) (by unfold maxLen; omega) (by omega) hB ho fun v w' h => hK v w' ?_
  rw [flat_append]
  exact h
theorem row_form16 {w : World} {base size n : Nat} {v : Value} {e : TypeId} {xs : List Value} (h : w.ownsRow base e size v n xs) : ∃ A cap, v = .slice A n cap ∧ n ≤ cap ∧ cap ≤ maxLen ∧ (n = 0 ∨ Lies w A xs) ∧ (∀ ad, A = some ad → base ≤ ad.block) := by
  rcases h.2 with ⟨rfl, h0⟩ | ⟨g, cap, cur, rfl, hb, hg, h1, h2, h3⟩
  · subst h0
    exact ⟨none, 0, rfl, Nat.le_refl _, Nat.zero_le _, .inl rfl, fun _ e => (by cases e)⟩
  · exact ⟨_, cap, rfl, h1, h2, .inr (.inr ⟨_, rfl, (h.lt g rfl).2, h.cells (g := g) rfl⟩), fun ad e => (by cases e; exact hb)⟩
/-- what the last operations come to: the row is longer -/
def TwoG (B m q : Nat) (l k : List Plain.Sp) (w0 : World) (_W : World) (p : Nat) (vs : List Value) (w : World) : Prop :=
  Below B w0 w ∧ w.ownsRow B 45 7 (vs.getD 0 undef) (m + q) (flat (l ++ k)) ∧ (p = 2 → vs.getD 1 undef = vs.getD 0 undef)

/-- what its 'no' says -/
def Great16 (w : World) (n : Nat) (l : List O16) (e : Ending) (w' : World) : Prop := ∃ g, e = .returned (.bool g) ∧ (g = false → n ≤ 40 ∧ (∀ o ∈ l, o.l.length ≤ 300) ∧ (l.map fun o => o.l.length).sum ≤ 300) ∧ Below w.heap.size w w'
set_option maxHeartbeats 8000000 in
theorem great16_any (A : Option Addr) (n cap : Nat) (l : List O16) (w : World) (hn : l.length = n) (hc : n ≤ cap) (_hm : cap ≤ maxLen) (hA : Lies w A (flatO16 l)) (hI : ∀ o ∈ l, O16In w o) :
    Calls Try.prog 12 #[.slice A n cap] w (Great16 w n l) := by
  obtain ⟨i0, hi, hz0, hz1, hz2⟩ := info_parts infoSp
  have HN := Lib.hid hn
  have HA := Lib.hid hA
  have HI := Lib.hid hI
  unfold maxLen at _hm
  clear hn hA hI
  go_enter Try.func12, Try.ntmps12
  go_wp2
  go_loopw [3, 4] (fun s3 s4 wr => ∃ (k m : Nat) (A3 : Option Addr) (c3 : Nat), s4 = .int .i64 (k : Int) ∧ k ≤ n ∧ k ≤ 60 ∧ s3 = .slice A3 m c3 ∧ (cut16 (l.take k)).length = m ∧ m ≤ 301 * k ∧ wr.ownsRow w.heap.size 45 7 (.slice A3 m c3) m (flat (cut16 (l.take k))) ∧ Below w.heap.size w wr) (fun _ i _ => n - (intOf i).toNat)
  case atStart => exact ⟨0, 0, none, 0, rfl, Nat.zero_le _, by omega, rfl, rfl, by omega, World.ownsRow_nil _ _ _ _, Below.refl _ _⟩
  case round =>
    obtain ⟨k, m, A3, c3, rfl, hk, hk60, rfl, hm3, hm301, hrow, hbr⟩ := hrel
    have HROW := Lib.hid hrow
    have HBR := Lib.hid hbr
    have HM3 := Lib.hid hm3
    clear hrow hbr hm3
    have hgo : (k < n ∧ k < 60) ∨ ¬ (k < n ∧ k < 60) := by omega
    rcases hgo with hgo | hgo
    · have t1 : decide ((k : Int) < (n : Int)) = true := decide_eq_true (by omega)
      have t2 : decide ((k : Int) < 60) = true := decide_eq_true (by omega)
      have hkl : k < l.length := by rw [HN.out]; exact hgo.1
      have hkn := hgo.1
      obtain ⟨ad, rfl, hadb, hcl⟩ := at_o16 HA.out k hkl
      have HT := Lib.hid (show l.take (k + 1) = l.take k ++ [l[k]] from List.take_succ_eq_append_getElem hkl)
      have HO := Lib.hid (HI.out _ (List.getElem_mem hkl))
      obtain ⟨-, x1, -⟩ := hcl wr HBR.out
      obtain ⟨o, ho⟩ : ∃ o, l[k]'hkl = o := ⟨_, rfl⟩
      rw [ho] at x1 HT HO
      have hole := HO.out.le
      have hocp := HO.out.cap
      unfold maxLen at hocp
      obtain ⟨on, hon⟩ : ∃ on, o.l.length = on := ⟨_, rfl⟩
      rw [hon] at x1 hole
      have HON := Lib.hid hon
      obtain ⟨oA, hoA⟩ : ∃ oA, o.A = oA := ⟨_, rfl⟩
      obtain ⟨oc, hoc⟩ : ∃ oc, o.cap = oc := ⟨_, rfl⟩
      rw [hoA, hoc] at x1
      rw [hoc] at hole hocp
      have HOL := Lib.hid (show Lies wr oA (flat o.l) by rw [← hoA]; exact HO.out.lies.below HBR.out)
      have HX1 := Lib.hid (fun (W : World) (hW : Below wr.heap.size wr W) => show W.cell? ⟨(ad.add (k * 3)).block, (ad.add (k * 3)).off + 1, none⟩ = some (.slice oA on oc) by
        have := (hcl W (HBR.out.trans (hW.mono HBR.out.size))).2.1
        rwa [ho, hon, hoA, hoc] at this)
      have hk59 := hgo.2
      clear hcl ho hgo hon hoA hoc
      obtain ⟨q, hqq⟩ : ∃ q, min on 301 = q := ⟨_, rfl⟩
      have hq : min (on : Int) 301 = (q : Int) := by omega
      have hqn : q ≤ on := by omega
      have hbd : Below wr.heap.size wr wr.drew := (Below.refl _ _).drew
      go_wp2
      refine wp_late (by kernel_rfl) 37 [(15, [3]), (16, [0]), (17, [4]), (18, [16, 17]), (19, [18]), (20, [19]), (21, [0]), (22, [4]), (23, [21, 22]), (24, [23]), (25, [24]), (26, [25]), (27, [26]), (28, [20, 27]), (1014, [15, 28]), (1015, [29])]
        [Fact.is (.slice A3 m c3), Fact.is (.slice (some ad) n cap), Fact.is (.int .i64 (k : Int)), Fact.is (.pointer (some (Addr.add ad (k * 3)))), Fact.is (.pointer (some ⟨((Addr.add ad (k * 3))).block, ((Addr.add ad (k * 3))).off + 1, none⟩)), Fact.is (.slice oA on oc), Fact.is (.slice (some ad) n cap), Fact.is (.int .i64 (k : Int)), Fact.is (.pointer (some (Addr.add ad (k * 3)))), Fact.is (.pointer (some ⟨((Addr.add ad (k * 3))).block, ((Addr.add ad (k * 3))).off + 1, none⟩)), Fact.is (.slice oA on oc), Fact.is (.int .i64 on), Fact.is (.int .i64 (q : Int)), Fact.lie q (flat (o.l.take q)), default, default]
        [0, 1, 1, 1, 1, 1, 1, 1, 1, 1, 1, 1, 1, 1, 2, 2] [14, 15] [29, 3] [15, 16, 17, 18, 19, 20, 21, 22, 23, 24, 25, 26, 27, 28, 29, 3] (TwoG w.heap.size m q (cut16 (l.take k)) (o.l.take q) w wr)
        (by kernel_rfl) (by kernel_rfl) rfl rfl ⟨?s0, ?s1, ?s2, ?s3, ?s4, ?s5, ?s6, ?s7, ?s8, ?s9, ?s10, ?s11, ?s12, ?s13, trivial⟩ ?late ?fin
      case s0 =>
        refine ⟨rfl, _, rfl, ?_⟩
        intro ρ W hc hf hr
        obtain ⟨r3, -⟩ := hr
        have e3 : ρ (.tmp 3) = .slice A3 m c3 := r3
        clear r3
        simp [execOp, e3]
      case s1 =>
        intro ρ W hb hc hf hr
        obtain ⟨r0, -⟩ := hr
        have e0 : ρ (.tmp 0) = .slice (some ad) n cap := r0
        clear r0
        refine under_none rfl ?_
        exact ⟨e0, Below.refl _ _⟩
      case s2 =>
        intro ρ W hb hc hf hr
        obtain ⟨r4, -⟩ := hr
        have e4 : ρ (.tmp 4) = .int .i64 (k : Int) := r4
        clear r4
        refine under_none rfl ?_
        exact ⟨e4, Below.refl _ _⟩
      case s3 =>
        intro ρ W hb hc hf hr
        obtain ⟨r16, r17, -⟩ := hr
        have e16 : ρ (.tmp 16) = .slice (some ad) n cap := r16
        clear r16
        have e17 : ρ (.tmp 17) = .int .i64 (k : Int) := r17
        clear r17
        refine under_none rfl ?_
        exact soft_index16 e16 e17 hkn rfl
      case s4 =>
        intro ρ W hb hc hf hr
        obtain ⟨r18, -⟩ := hr
        have e18 : ρ (.tmp 18) = .pointer (some (Addr.add ad (k * 3))) := r18
        clear r18
        refine under_none rfl ?_
        exact soft_field e18 rfl (fun W => by go_simp)
      case s5 =>
        intro ρ W hb hc hf hr
        obtain ⟨r19, -⟩ := hr
        have e19 : ρ (.tmp 19) = .pointer (some ⟨((Addr.add ad (k * 3))).block, ((Addr.add ad (k * 3))).off + 1, none⟩) := r19
        clear r19
        refine under_none rfl ?_
        exact soft_load e19 (run_loadSs W _ _ (HX1.out W (hbd.trans (hb.mono (by simp))))) rfl
      case s6 =>
        intro ρ W hb hc hf hr
        obtain ⟨r0, -⟩ := hr
        have e0 : ρ (.tmp 0) = .slice (some ad) n cap := r0
        clear r0
        refine under_none rfl ?_
        exact ⟨e0, Below.refl _ _⟩
      case s7 =>
        intro ρ W hb hc hf hr
        obtain ⟨r4, -⟩ := hr
        have e4 : ρ (.tmp 4) = .int .i64 (k : Int) := r4
        clear r4
        refine under_none rfl ?_
        exact ⟨e4, Below.refl _ _⟩
      case s8 =>
        intro ρ W hb hc hf hr
        obtain ⟨r21, r22, -⟩ := hr
        have e21 : ρ (.tmp 21) = .slice (some ad) n cap := r21
        clear r21
        have e22 : ρ (.tmp 22) = .int .i64 (k : Int) := r22
        clear r22
        refine under_none rfl ?_
        exact soft_index16 e21 e22 hkn rfl
      case s9 =>
        intro ρ W hb hc hf hr
        obtain ⟨r23, -⟩ := hr
        have e23 : ρ (.tmp 23) = .pointer (some (Addr.add ad (k * 3))) := r23
        clear r23
        refine under_none rfl ?_
        exact soft_field e23 rfl (fun W => by go_simp)
      case s10 =>
        intro ρ W hb hc hf hr
        obtain ⟨r24, -⟩ := hr
        have e24 : ρ (.tmp 24) = .pointer (some ⟨((Addr.add ad (k * 3))).block, ((Addr.add ad (k * 3))).off + 1, none⟩) := r24
        clear r24
        refine under_none rfl ?_
        exact soft_load e24 (run_loadSs W _ _ (HX1.out W (hbd.trans (hb.mono (by simp))))) rfl
      case s11 =>
        intro ρ W hb hc hf hr
        obtain ⟨r25, -⟩ := hr
        have e25 : ρ (.tmp 25) = .slice oA on oc := r25
        clear r25
        refine under_none rfl ?_
        simp [e25, go_sem, softUpon, Fact.is, Below.refl]
      case s12 =>
        intro ρ W hb hc hf hr
        obtain ⟨r26, -⟩ := hr
        have e26 : ρ (.tmp 26) = .int .i64 on := r26
        clear r26
        refine under_none rfl ?_
        exact soft_min16 e26 (hc _) hq rfl
      case s13 =>
        intro ρ W hb hc hf hr
        obtain ⟨r20, r27, -⟩ := hr
        have e20 : ρ (.tmp 20) = .slice oA on oc := r20
        clear r20
        have e27 : ρ (.tmp 27) = .int .i64 (q : Int) := r27
        clear r27
        refine under_none rfl ?_
        exact soft_takeL e20 e27 HON.out hqn hole hocp (HOL.out.below (hbd.trans (hb.mono (by simp)))) rfl
      case late =>
        intro p j o hj ho a W hsz h0 h1 hfr hou
        match p, hj with
        | 0, hj =>
          obtain rfl : 14 = j := Option.some.inj hj
          obtain rfl := Option.some.inj ho
          clear hj ho
          obtain ⟨hb, hhard⟩ := h0 rfl
          have e15 : a.eval (.tmp 15) = .slice A3 m c3 := hfr 15 0 rfl rfl (by kernel_rfl)
          have r28 : (Fact.lie q (flat (o.l.take q))).φ (a.tmps.getD 28 undef) W := hhard 28 13 rfl rfl
          clear h0 h1 hhard hfr hou
          have hW := hbd.trans (hb.mono (by simp))
          have hWB := HBR.out.trans (hW.mono HBR.out.size)
          refine late_app16 (s := .tmp 15) (x := .tmp 28) (n := m) (m := q) (l := cut16 (l.take k)) (k := o.l.take q) (by rw [e15]; exact row_keep HROW.out hW) r28 (by rw [List.length_take, HON.out]; omega) (by omega) hWB.size rfl fun v w' ho hbb => ⟨v, rfl, ?_⟩
          exact ⟨hbb _ hWB, by simpa [Act.put, Array.getD_eq_getD_getElem?, hsz] using ho, fun h => absurd h (by omega)⟩
        | 1, hj =>
          obtain rfl : 15 = j := Option.some.inj hj
          obtain rfl := Option.some.inj ho
          clear hj ho
          have hP := h1 (by omega)
          clear h0 h1 hfr hou
          obtain ⟨hb, ho, -⟩ := hP
          refine late_assign rfl rfl ⟨_, rfl, ?_⟩
          exact ⟨hb, by simpa [Act.put, Array.getD_eq_getD_getElem?, hsz] using ho, fun _ => by simp [Act.put, Act.eval, Array.getD_eq_getD_getElem?, hsz]⟩
        | q + 2, hj => cases hj
      case fin =>
        intro a w2 ha hP
        obtain ⟨hB2, ho2, he2⟩ := hP
        have e3 : a.tmps.getD 3 undef = a.tmps.getD 29 undef := by simpa using he2 rfl
        have hr2 : w2.ownsRow w.heap.size 45 7 (a.tmps.getD 29 undef) (m + q) (flat (cut16 (l.take k) ++ o.l.take q)) := ho2
        clear he2 ho2
        obtain ⟨v29, e29⟩ : ∃ v, a.tmps.getD 29 undef = v := ⟨_, rfl⟩
        rw [e29] at e3 hr2
        simp only [List.foldl_cons, List.foldl_nil, e3, e29] at ha
        clear e3 e29
        generalize a.tmps.getD 15 undef = v15 at ha
        generalize a.tmps.getD 16 undef = v16 at ha
        generalize a.tmps.getD 17 undef = v17 at ha
        generalize a.tmps.getD 18 undef = v18 at ha
        generalize a.tmps.getD 19 undef = v19 at ha
        generalize a.tmps.getD 20 undef = v20 at ha
        generalize a.tmps.getD 21 undef = v21 at ha
        generalize a.tmps.getD 22 undef = v22 at ha
        generalize a.tmps.getD 23 undef = v23 at ha
        generalize a.tmps.getD 24 undef = v24 at ha
        generalize a.tmps.getD 25 undef = v25 at ha
        generalize a.tmps.getD 26 undef = v26 at ha
        generalize a.tmps.getD 27 undef = v27 at ha
        generalize a.tmps.getD 28 undef = v28 at ha
        simp only [Act.put, List.setIfInBounds_toArray, List.set_cons_succ, List.set_cons_zero] at ha
        subst ha
        have HTC := Lib.hid (show cut16 (l.take k) ++ o.l.take q = cut16 (l.take (k + 1)) by
          rw [HT.out, cut16_snoc]
          congr 1
          rw [← hqq]
          rcases Nat.le_total on 301 with h | h
          · rw [Nat.min_eq_left h, List.take_of_length_le (by rw [HON.out]; omega), List.take_of_length_le (by rw [HON.out]; omega)]
          · rw [Nat.min_eq_right h])
        rw [HTC.out] at hr2
        obtain ⟨A4, c4, rfl, -⟩ := row_form16 hr2
        have HR2 := Lib.hid hr2
        have HB2 := Lib.hid hB2
        have HLN := Lib.hid (show (cut16 (l.take (k + 1))).length = m + q by rw [← HTC.out, List.length_append, HM3.out, List.length_take, HON.out]; omega)
        clear hr2 hB2
        go_wp2
        go_roundw
        case rel => exact ⟨k + 1, m + q, A4, c4, by go_num, by omega, by omega, rfl, HLN.out, by omega, HR2.out, HB2.out⟩
        case measure => simp [intOf]; omega
    · have HB := HBR.out
      have hk9 : k = n ∨ (k = 60 ∧ 60 < n) ∨ (k = 60 ∧ k = n) := by omega
      by_cases hkn : k = n
      · subst hkn
        have t1 : decide ((k : Int) < (k : Int)) = false := decide_eq_false (by omega)
        rw [List.take_of_length_le (by rw [HN.out]; omega)] at HROW HM3
        by_cases h40 : 40 < k
        · have t4 : decide ((40 : Int) < (k : Int)) = true := decide_eq_true (by omega)
          go_wp2
          go_ret
          exact ⟨true, rfl, fun h => (by cases h), HB⟩
        · have t4 : decide ((40 : Int) < (k : Int)) = false := decide_eq_false (by omega)
          obtain ⟨A5, c5, e5, h51, h52, h53, -⟩ := row_form16 HROW.out
          injection e5 with e5 _ e6
          subst e5 e6
          have HLI := Lib.hid (show Lies wr A3 (flat (cut16 l)) from h53.elim (fun h => .inl (by have e := List.eq_nil_of_length_eq_zero (HM3.out.trans h); rw [e]; rfl)) id)
          clear h53
          go_wp2_with fail
          refine (great_any A3 m c3 (cut16 l) wr HM3.out h51 h52 HLI.out).mono ?_
          rintro e w2 ⟨g, rfl, hg, d2⟩
          have HB2 := Lib.hid (HB.trans (d2.mono HB.size))
          have HG := Lib.hid (show g = false → (cut16 l).length ≤ 300 from fun h => by rw [HM3.out]; exact hg h)
          clear d2 hg
          go_wp2
          go_ret
          exact ⟨g, rfl, fun h => ⟨by omega, cut16_few (HG.out h)⟩, HB2.out⟩
      · have t1 : decide ((k : Int) < (n : Int)) = true := decide_eq_true (by omega)
        have t2 : decide ((k : Int) < 60) = false := decide_eq_false (by omega)
        have t4 : decide ((40 : Int) < (n : Int)) = true := decide_eq_true (by omega)
        go_wp2
        go_ret
        exact ⟨true, rfl, fun h => (by cases h), HB⟩

end Go.Proofs.Ythcchfhkeghkhaa
