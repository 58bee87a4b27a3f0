/-
  Layer 6: order.Victims: what it answers, of any items, of what is to come in, and of a budget. Assumed: that the items lie in memory, and that there are at most a thousand.
-/
import Derived.Test.YtkhlgjkbkpbhiaaVicA
import Derived.WalkMore
import Derived.RangeFuncNested

namespace Go.Proofs.Ytkhlgjkbkpbhiaa
open Go.RowKit Go.Shelf
set_option maxRecDepth 100000
attribute [local go_sem] Oper.semAt_some

def nums (ids : List Int) : List Value := ids.map fun i => .int .i64 i
theorem nums_length (ids : List Int) : (nums ids).length = ids.length := by simp [nums]
theorem nums_snoc (ids : List Int) (i : Int) : nums (ids ++ [i]) = nums ids ++ [.int .i64 i] := by simp [nums]
theorem infoL : (Try.prog.info? 2).map (fun i => (i.zero, i.size, i.bytes)) = some (some (.int .i64 0), 1, 8) := by kernel_rfl
/-- a slice of numbers that was handed back -/
def GivesN (w w' : World) (ids : List Int) (v : Value) : Prop := ∃ A cap, v = .slice A ids.length cap ∧ ids.length ≤ cap ∧ cap ≤ maxLen ∧ Lies w' A (nums ids) ∧ Below w.heap.size w w'
theorem GivesN.nil {w w' : World} (h : Below w.heap.size w w') : GivesN w w' [] (.slice none 0 0) := ⟨none, 0, rfl, Nat.le_refl _, Nat.zero_le _, .inl rfl, h⟩
theorem GivesN.own {w w' : World} {l : List Int} {v : Value} {B : Nat} (ho : w'.ownsRow B 2 1 v l.length (nums l)) (h : Below w.heap.size w w') : GivesN w w' l v := by
  rcases ho.2 with ⟨rfl, h0⟩ | ⟨g, cap, cur, rfl, hb, hg, h1, h2, h3⟩
  · have : l = [] := List.eq_nil_of_length_eq_zero h0
    subst this
    exact GivesN.nil h
  · exact ⟨_, cap, rfl, h1, h2, .inr ⟨_, rfl, (ho.lt g rfl).2, ho.cells (g := g) rfl⟩, h⟩

/-- the same, in new memory -/
def GivesF (w w' : World) (ids : List Int) (v : Value) : Prop := ∃ A cap, v = .slice A ids.length cap ∧ ids.length ≤ cap ∧ cap ≤ maxLen ∧ Lies w' A (nums ids) ∧ Below w.heap.size w w' ∧ ∀ ad, A = some ad → w.heap.size ≤ ad.block
theorem GivesF.nil {w w' : World} (h : Below w.heap.size w w') : GivesF w w' [] (.slice none 0 0) := ⟨none, 0, rfl, Nat.le_refl _, Nat.zero_le _, .inl rfl, h, fun _ e => by cases e⟩
theorem GivesF.own {w w' : World} {l : List Int} {v : Value} (ho : w'.ownsRow w.heap.size 2 1 v l.length (nums l)) (h : Below w.heap.size w w') : GivesF w w' l v := by
  rcases ho.2 with ⟨rfl, h0⟩ | ⟨g, cap, cur, rfl, hb, hg, h1, h2, h3⟩
  · have : l = [] := List.eq_nil_of_length_eq_zero h0
    subst this
    exact GivesF.nil h
  · exact ⟨_, cap, rfl, h1, h2, .inr ⟨_, rfl, (ho.lt g rfl).2, ho.cells (g := g) rfl⟩, h, fun ad e => by cases e; exact hb⟩
theorem GivesF.n {w w' : World} {l : List Int} {v : Value} (h : GivesF w w' l v) : GivesN w w' l v := by
  obtain ⟨A, cap, h1, h2, h3, h4, h5, _⟩ := h
  exact ⟨A, cap, h1, h2, h3, h4, h5⟩

set_option maxHeartbeats 4000000 in
theorem victims_no (A : Option Addr) (n cap : Nat) (l : List Plain.It) (x b : Int) (w : World) (hn : l.length = n) (hm : n ≤ 1000) (hA : Lies w A (flatI l)) (hF : Plain.fits l x b = false) :
    Calls Try.prog 9 #[.slice A n cap, .int .i64 x, .int .i64 b] w fun e w' => e = .returned (.tuple #[.slice none 0 0, .bool false]) ∧ Below w.heap.size w w' := by
  have hB0 : Below w.heap.size w (w.alloc (.cells #[.int .i64 b] 3)) := (Below.refl _ w).alloc (Nat.le_refl _) _
  have HC := Lib.hid (cost_any A n cap l (w.alloc (.cells #[.int .i64 b] 3)) hn hm (hA.below hB0))
  have hcb := Plain.costs_bound l
  have hF2 : ¬ ((0 ≤ x ∧ x ≤ 1099511627776) ∧ (0 ≤ b ∧ b ≤ 1099511627776) ∧ x + Plain.pins l ≤ b) := by simpa [Plain.fits] using hF
  rw [hn] at hcb
  generalize Plain.costs l = CL at *
  generalize Plain.pins l = PL at *
  have bx := Blk.new w #[.int .i64 b] 3
  have HB0 := Lib.hid hB0
  have H1 := Lib.hid (fun (r : Bool) (h : decide ((0 : Int) ≤ x ∧ x ≤ 1099511627776) = r) (W : World) => withinI_any x 0 1099511627776 r h W)
  have H2 := Lib.hid (fun (r : Bool) (h : decide ((0 : Int) ≤ b ∧ b ≤ 1099511627776) = r) (W : World) => withinI_any b 0 1099511627776 r h W)
  clear hB0 hA hF
  go_enter Try.func9, Try.ntmps9
  go_wp2_with fail
  go_step3
  go_wp2_with fail
  refine HC.out.mono ?_
  rintro e w1 ⟨rfl, d1⟩
  have b1 := (Kept.of d1 []).blk bx (by simp)
  have z0 : w1.cell? ⟨w.heap.size, 0, none⟩ = some (.int .i64 b) := b1.cell 0
  have HB1 := Lib.hid (HB0.out.trans (d1.mono HB0.out.size))
  clear bx b1 d1
  by_cases h1 : 0 ≤ x ∧ x ≤ 1099511627776
  · go_wp2_with fail
    refine (H1.out true (decide_eq_true h1) _).mono ?_
    rintro e w2 ⟨rfl, rfl⟩
    by_cases h2 : 0 ≤ b ∧ b ≤ 1099511627776
    · have hq : b < x + PL := by omega
      have wq : IntKind.i64.wrap (x + PL) = x + PL := by rw [IntKind.wrap_i64]; omega
      go_wp2_with fail
      refine (H2.out true (decide_eq_true h2) _).mono ?_
      rintro e w2 ⟨rfl, rfl⟩
      go_wp2
      rw [Exit.noGoto_ret]
      go_returns
      exact ⟨rfl, HB1.out⟩
    · go_wp2_with fail
      refine (H2.out false (decide_eq_false h2) _).mono ?_
      rintro e w2 ⟨rfl, rfl⟩
      go_wp2
      rw [Exit.noGoto_ret]
      go_returns
      exact ⟨rfl, HB1.out⟩
  · go_wp2_with fail
    refine (H1.out false (decide_eq_false h1) _).mono ?_
    rintro e w2 ⟨rfl, rfl⟩
    go_wp2
    rw [Exit.noGoto_ret]
    go_returns
    exact ⟨rfl, HB1.out⟩

/-! the numbers of those that go -/
def csum (pre : List RIt) : Int := (pre.map fun x => x.1.cost).sum
theorem csum_snoc (pre : List RIt) (x : RIt) : csum (pre ++ [x]) = csum pre + x.1.cost := by simp [csum]
theorem csum_bound (pre : List RIt) : 0 ≤ csum pre ∧ csum pre ≤ 1048576 * pre.length := by
  induction pre using Plain.snocInd with
  | h0 => simp [csum]
  | hs l x ih =>
    have := (Plain.It.right_iff x.1).1 x.2
    rw [csum_snoc, List.length_append, List.length_singleton]
    omega
def rids (pre : List RIt) : List Int := pre.map fun x => x.1.id
theorem rids_snoc (pre : List RIt) (x : RIt) : rids (pre ++ [x]) = rids pre ++ [x.1.id] := by simp [rids]
/-- so far there was no room -/
def Run (b left : Int) (pre : List RIt) : Prop := ∀ T, Plain.vic b left (pre.map (·.1) ++ T) = pre.map (·.1) ++ Plain.vic b (left - csum pre) T
theorem run_nil (b left : Int) : Run b left [] := fun T => by simp [csum]
theorem run_snoc {b left : Int} {pre : List RIt} (h : Run b left pre) (x : RIt) (hx : ¬ left - csum pre ≤ b) : Run b left (pre ++ [x]) := fun T => by
  rw [List.map_append, List.append_assoc, h, List.append_assoc]
  congr 1
  show Plain.vic b _ (x.1 :: T) = x.1 :: Plain.vic b _ T
  rw [Plain.vic, if_neg hx, csum_snoc]
  congr 2
  omega
theorem run_done {b left : Int} {pre : List RIt} {l : List Plain.It} (h : Run b left pre) (hl : pre.map (·.1) = l) : (Plain.vic b left l).map (·.id) = rids pre := by
  have := h []
  rw [List.append_nil, hl] at this
  rw [this, ← hl]
  simp [Plain.vic, rids]
theorem run_stop {b left : Int} {pre : List RIt} {x : RIt} {l : List Plain.It} (h : Run b left pre) (hl : ∃ r, (pre ++ [x]).map (·.1) ++ r = l) (hx : left - csum pre ≤ b) : (Plain.vic b left l).map (·.id) = rids pre := by
  obtain ⟨r, hr⟩ := hl
  rw [List.map_append, List.append_assoc] at hr
  rw [← hr, h]
  simp [Plain.vic, rids, hx]
theorem boxed_from {β : Type} (n B : Nat) (t : TypeId) (f : β → Value) : OwnFrom n (fun s W => Boxed W B t (f s)) := fun s W W' row h hg hr => h.kept hg (fun e => by
  obtain ⟨_, o, ho, hc⟩ := hr B e.symm
  rw [show W.heap[B]? = _ from h] at ho; cases ho; cases hc)
theorem pure_from {β : Type} (n : Nat) (f : β → Prop) : OwnFrom n (fun s (_ : World) => f s) := fun _ _ _ _ h _ _ => h
theorem KeepsT.grown {X Y : World} {row : Option Nat} (h : X.grownBy Y row) (hr : ∀ r, row = some r → ∀ cs m, X.heap[r]? ≠ some (.cells cs 24 m)) : KeepsT X Y :=
  ⟨h.size, fun g cs m hg => (h.block g (Array.getElem?_eq_some_iff.1 hg).1 (fun e => hr g e.symm cs m hg)).trans hg⟩

set_option maxHeartbeats 8000000 in
theorem victims_yes (A : Option Addr) (n cap : Nat) (l : List Plain.It) (x b : Int) (w : World) (hn : l.length = n) (hm : n ≤ 1000) (hA : Lies w A (flatI l)) (hF : Plain.fits l x b = true) :
    Calls Try.prog 9 #[.slice A n cap, .int .i64 x, .int .i64 b] w fun e w' => ∃ v, e = .returned (.tuple #[v, .bool true]) ∧ GivesF w w' ((Plain.vic b (x + Plain.costs l) (Plain.inOrder l)).map (·.id)) v := by
  obtain ⟨i0, hi, hz0, hz1, hz2⟩ := info_parts infoL
  have hB0 : Below w.heap.size w (w.alloc (.cells #[.int .i64 b] 3)) := (Below.refl _ w).alloc (Nat.le_refl _) _
  have HC := Lib.hid (cost_any A n cap l (w.alloc (.cells #[.int .i64 b] 3)) hn hm (hA.below hB0))
  have hcb := Plain.costs_bound l
  have hF2 : ((0 ≤ x ∧ x ≤ 1099511627776) ∧ (0 ≤ b ∧ b ≤ 1099511627776) ∧ x + Plain.pins l ≤ b) := by simpa [Plain.fits] using hF
  rw [hn] at hcb
  have hiol : (Plain.inOrder l).length ≤ 1000 := by have := Plain.inOrder_length l; omega
  generalize Plain.costs l = CL at *
  generalize Plain.pins l = PL at *
  obtain ⟨h1, h2, h3⟩ := hF2
  obtain ⟨LF, hLF⟩ : ∃ LF, x + CL = LF := ⟨_, rfl⟩
  rw [hLF]
  have wl : IntKind.i64.wrap (x + CL) = LF := by rw [IntKind.wrap_i64]; omega
  have hlf : 0 ≤ LF ∧ LF ≤ 1200000000000 := by omega
  clear hLF
  have bx := Blk.new w #[.int .i64 b] 3
  have HB0 := Lib.hid hB0
  have H1 := Lib.hid (fun (W : World) => withinI_any x 0 1099511627776 true (decide_eq_true h1) W)
  have H2 := Lib.hid (fun (W : World) => withinI_any b 0 1099511627776 true (decide_eq_true h2) W)
  have HA := Lib.hid hA
  have HN := Lib.hid hn
  clear hB0 hA hF hn
  refine (callsIn_wide (n := 3)).1 ?_
  have hf11 : Fence.wide.fn 11 := trivial
  have hf22 : Fence.wide.fn 22 := trivial
  have hf23 : Fence.wide.fn 23 := trivial
  refine callsIn_of_wp_marks Try.func9 rfl trivial ?_ rfl
  simp only [Try.ntmps9, List.size_toArray, List.length_cons, List.length_nil, Nat.reduceAdd, Nat.reduceSub, Array.replicate_succ, Array.replicate_zero, List.push_toArray, List.append_toArray, List.nil_append, List.cons_append]
  gi_wp2_with fail
  refine wpIn_wide.2 (wp_scope_straight ((wpIn_wide (n := 3)).1 ?_))
  gi_wp2_with fail
  refine (callsIn_wide.2 HC.out).mono ?_
  rintro e w1 ⟨rfl, d1⟩
  have b1 := (Kept.of d1 []).blk bx (by simp)
  have z0 : w1.cell? ⟨w.heap.size, 0, none⟩ = some (.int .i64 b) := b1.cell 0
  have HB1 := Lib.hid (HB0.out.trans (d1.mono HB0.out.size))
  have HBX := Lib.hid b1
  clear bx b1 d1
  gi_wp2_with fail
  refine (callsIn_wide.2 (H1.out _)).mono ?_
  rintro e w2 ⟨rfl, rfl⟩
  gi_wp2_with fail
  refine (callsIn_wide.2 (H2.out _)).mono ?_
  rintro e w2 ⟨rfl, rfl⟩
  have hq : ¬ b < x + PL := by omega
  have wq : IntKind.i64.wrap (x + PL) = x + PL := by rw [IntKind.wrap_i64]; omega
  gi_wp2_with fail
  refine wpIn_label ?_
  gi_wp2_with (gi_at_call 23; refine (turn_in Fence.wide _ trivial rfl A n cap _).mono ?_; rintro e w' ⟨rfl, rfl⟩)
  have hs1 := HB1.out.size
  have bO := Boxed.new w1 26 (.slice none 0 0)
  have bL := Boxed.new (w1.alloc (.cells #[.slice none 0 0] 26)) 3 (.int .i64 LF)
  have bN := Boxed.new ((w1.alloc (.cells #[.slice none 0 0] 26)).alloc (.cells #[.int .i64 LF] 3)) 22 (.slice A n cap)
  rw [World.size_alloc] at bL
  rw [World.size_alloc, World.size_alloc] at bN
  have bB : Boxed w1 w.heap.size 3 (.int .i64 b) := HBX.out
  obtain ⟨W0, hW0⟩ : ∃ W0, ((w1.alloc (.cells #[.slice none 0 0] 26)).alloc (.cells #[.int .i64 LF] 3)).alloc (.cells #[.slice A n cap] 22) = W0 := ⟨_, rfl⟩
  have hB3 : Below w.heap.size w W0 := by rw [← hW0]; exact ((HB1.out.alloc hs1 _).alloc (by simp; omega) _).alloc (by simp; omega) _
  have hO3 : Boxed W0 w1.heap.size 26 (.slice none 0 0) := by rw [← hW0]; exact (bO.alloc _).alloc _
  have hL3 : Boxed W0 (w1.heap.size + 1) 3 (.int .i64 LF) := by rw [← hW0]; exact bL.alloc _
  have hB4 : Boxed W0 w.heap.size 3 (.int .i64 b) := by rw [← hW0]; exact ((bB.alloc _).alloc _).alloc _
  have hN3 : Boxed W0 (w1.heap.size + 1 + 1) 22 (.slice A n cap) := by rw [← hW0]; exact bN
  have hs0 : W0.heap.size = w1.heap.size + 3 := by rw [← hW0]; simp
  rw [hW0]
  clear bO bL bN bB hW0
  have HIO := Lib.hid (show (Plain.inOrder l).length ≤ 1000 from hiol)
  refine wpIn_rangeFunc_ownH rfl (by omega) (gf := 27) (lb := #[.pointer (some ⟨w1.heap.size + 1 + 1, 0, none⟩)]) rfl trivial (enters_of Try.func27 (by kernel_rfl) rfl)
    (turn_stops _ (by omega) (w1.heap.size + 1 + 1) A n cap l w W0 HN.out hm hN3.cell hN3.lt HA.out hB3) (fun h k => h.trans k)
    (fun W l o o' _ h2 h3 _ => KeepsT.grown (grownBy_putObj' W l o') (fun r e cs m hc => by cases e; rw [h2] at hc; cases hc; cases h3)) (Below.refl _ _) (fun _ => rfl)
    (fun pre W => (∃ v, Boxed W w1.heap.size 26 v ∧ W.ownsRow w.heap.size 2 1 v pre.length (nums (rids pre)) ∧ True) ∧ Boxed W (w1.heap.size + 1) 3 (.int .i64 (LF - csum pre)) ∧ Boxed W w.heap.size 3 (.int .i64 b) ∧ Below w.heap.size w W ∧ Run b LF pre)
    (fun c pre' W => (∃ v, Boxed W w1.heap.size 26 v ∧ W.ownsRow w.heap.size 2 1 v (pre'.length - 1) (nums (rids pre'.dropLast)) ∧ True) ∧ Below w.heap.size w W ∧ (c = .exit 0 ∧ ∃ pre y, pre' = pre ++ [y] ∧ Run b LF pre ∧ LF - csum pre ≤ b))
    (OwnFrom.and (Own.from (holdsRow_own w.heap.size w1.heap.size 26 2 1 (fun pre : List RIt => pre.length) (fun pre => nums (rids pre)) (fun _ _ => True)) _) (OwnFrom.and (boxed_from _ _ _ _) (OwnFrom.and (boxed_from _ _ _ _) (OwnFrom.and (ownFrom_below (Nat.le_refl _) (by omega)) (pure_from _ _)))))
    (fun c => OwnFrom.and (Own.from (holdsRow_own w.heap.size w1.heap.size 26 2 1 (fun pre : List RIt => pre.length - 1) (fun pre => nums (rids pre.dropLast)) (fun _ _ => True)) _) (OwnFrom.and (ownFrom_below (Nat.le_refl _) (by omega)) (pure_from _ _)))
    ⟨⟨_, hO3, World.ownsRow_nil _ _ _ _, trivial⟩, by simpa [csum] using hL3, hB4, hB3, run_nil _ _⟩
    (fun y a' W => ∃ g, a' = { tmps := #[.slice A n cap, .int .i64 x, .int .i64 b, undef, undef, .pointer (some ⟨w.heap.size, 0, none⟩), .slice none 0 0, .bool false, .int .i64 CL, .int .i64 PL, .pointer (some ⟨w1.heap.size, 0, none⟩), .pointer (some ⟨w1.heap.size + 1, 0, none⟩), .pointer (some ⟨g, 0, none⟩), .tuple #[.int .i64 CL, .int .i64 PL], .slice A n cap, .tuple #[.int .i64 CL, .int .i64 PL], .int .i64 CL, .int .i64 PL, .int .i64 x, .bool true, .bool false, .bool false, .int .i64 b, .bool true, .bool false, .bool false, .bool false, .int .i64 x, .int .i64 PL, .int .i64 (x + PL), .int .i64 b, .bool (decide (b < x + PL)), .bool (decide (b < x + PL)), .int .i64 x, .int .i64 CL, .int .i64 LF, .slice A n cap, .func (.func 27) #[] #[.pointer (some ⟨w1.heap.size + 1 + 1, 0, none⟩)], itV y.1, undef, undef, undef, undef, undef, undef, undef, undef, undef, undef, undef, undef, undef], defers := [] } ∧ Blk W g #[.int .i64 y.1.id, .int .i64 y.1.cls, .int .i64 y.1.tick, .int .i64 y.1.cost, .bool y.1.pin] 24)
    (fun y a' s W W' row h hg hr => by
      obtain ⟨g, ea, hb⟩ := h
      refine ⟨g, ea, (hg.block g hb.lt (fun e => ?_)).trans hb⟩
      obtain ⟨_, o, ho, hc⟩ := hr g e.symm
      rw [show W.heap[g]? = _ from hb] at ho; cases ho; cases hc) ?assign ?body ?done ?stop
  case assign =>
    rintro l' pre y W K hI hK
    have hkt : KeepsT W (W.alloc (.cells #[.int .i64 y.1.id, .int .i64 y.1.cls, .int .i64 y.1.tick, .int .i64 y.1.cost, .bool y.1.pin] 24)) := KeepsT.grown (World.grownBy_alloc W _ none) (fun r e => by cases e)
    have hkf : KeepsFrom W0.heap.size W (W.alloc (.cells #[.int .i64 y.1.id, .int .i64 y.1.cls, .int .i64 y.1.tick, .int .i64 y.1.cost, .bool y.1.pin] 24)) := (KeepsOthers.alloc W _).from _
    have HK := Lib.hid (hK { tmps := #[.slice A n cap, .int .i64 x, .int .i64 b, undef, undef, .pointer (some ⟨w.heap.size, 0, none⟩), .slice none 0 0, .bool false, .int .i64 CL, .int .i64 PL, .pointer (some ⟨w1.heap.size, 0, none⟩), .pointer (some ⟨w1.heap.size + 1, 0, none⟩), .pointer (some ⟨W.heap.size, 0, none⟩), .tuple #[.int .i64 CL, .int .i64 PL], .slice A n cap, .tuple #[.int .i64 CL, .int .i64 PL], .int .i64 CL, .int .i64 PL, .int .i64 x, .bool true, .bool false, .bool false, .int .i64 b, .bool true, .bool false, .bool false, .bool false, .int .i64 x, .int .i64 PL, .int .i64 (x + PL), .int .i64 b, .bool (decide (b < x + PL)), .bool (decide (b < x + PL)), .int .i64 x, .int .i64 CL, .int .i64 LF, .slice A n cap, .func (.func 27) #[] #[.pointer (some ⟨w1.heap.size + 1 + 1, 0, none⟩)], itV y.1, undef, undef, undef, undef, undef, undef, undef, undef, undef, undef, undef, undef, undef], defers := [] } _ hkf hkt (by
      obtain ⟨⟨v, q1, q2, _⟩, q3, q4, q5, q6⟩ := hI
      exact ⟨⟨v, q1.alloc _, q2.alloc _, trivial⟩, q3.alloc _, q4.alloc _, q5.alloc q5.size _, q6⟩) ⟨_, rfl, Blk.new _ _ _⟩)
    clear hK hI hkt hkf
    obtain ⟨⟨yi, yc, yt, ys, yp⟩, hyr⟩ := y
    gi_wp2
    exact HK.out
  case body =>
    rintro l' pre y a' W _ _ ⟨⟨v, hv, hrow, -⟩, hl, hb, hB, hR⟩ ⟨g, rfl, hg⟩ hlt
    have hp1000 : pre.length < 1000 := by have := HIO.out; omega
    have hcs := csum_bound pre
    have hyr := (Plain.It.right_iff y.1).1 y.2
    have hrun := run_snoc hR y
    have HR := Lib.hid hR
    have HRS := Lib.hid hrun
    have HCS := Lib.hid (show LF - csum (pre ++ [y]) = LF - csum pre - y.1.cost by rw [csum_snoc]; omega)
    have HRI := Lib.hid (show nums (rids pre) ++ [.int .i64 y.1.id] = nums (rids (pre ++ [y])) by rw [rids_snoc, nums_snoc])
    clear hR hrun
    have hcl := hl.cell
    have hcb := hb.cell
    have hcv := hv.cell
    have hg0 : W.cell? ⟨g, 0, none⟩ = some (.int .i64 y.1.id) := hg.cell 0
    have hgT : ∀ cs m, W.heap[g]? = some (.cells cs 2 m) → False := fun cs m h => by rw [show W.heap[g]? = _ from hg] at h; cases h
    obtain ⟨ye, hye⟩ : ∃ ye, y.1 = ye := ⟨_, rfl⟩
    rw [hye] at hg hyr HCS HRI hg0
    obtain ⟨yi, yc, yt, ys, yp⟩ := ye
    simp only at hg hyr HCS HRI hg0
    obtain ⟨cs0, hcs0⟩ : ∃ cs0, csum pre = cs0 := ⟨_, rfl⟩
    have HC0 := Lib.hid hcs0
    rw [hcs0] at hcs hl HRS HCS hcl
    clear hcs0
    by_cases hle : LF - cs0 ≤ b
    · simp only [hye]
      gi_wp2
      exact ⟨(KeepsOthers.refl _).from _, ⟨v, hv, by rw [List.dropLast_concat, List.length_append, List.length_singleton, Nat.add_sub_cancel]; exact hrow⟩, hB, rfl, pre, ⟨y.1, y.2, rfl⟩, HR.out, by rw [HC0.out]; exact hle⟩
    · simp only [hye]
      have wsub : IntKind.i64.wrap (LF - cs0 - ys) = LF - cs0 - ys := by rw [IntKind.wrap_i64]; omega
      have hbsz := hB.size
      have hgne : some g ≠ v.ownBlock := by
        rcases hrow.2 with ⟨rfl, _⟩ | ⟨g2, cap1, cur, rfl, hbg, hgh, _⟩
        · simp [Value.ownBlock]
        · intro e
          have e' : g = g2 := by simpa [Value.ownBlock] using e
          subst e'; exact hgT _ _ hgh
      have hgO : g ≠ w1.heap.size := by
        intro e; subst e
        have h2 := Eq.trans (Eq.symm (show W.heap[w1.heap.size]? = _ from hv)) (show W.heap[w1.heap.size]? = _ from hg)
        cases h2
      have hgL : g ≠ w1.heap.size + 1 := by
        intro e; subst e
        have h2 := Eq.trans (Eq.symm (show W.heap[w1.heap.size + 1]? = _ from hl)) (show W.heap[w1.heap.size + 1]? = _ from hg)
        cases h2
      have hvT : ∀ r, v.ownBlock = some r → ∀ cs m, (W.alloc (.cells #[.int .i64 yi] 2)).heap[r]? ≠ some (.cells cs 24 m) := fun r e cs m h => by
        rcases (hrow.alloc (.cells #[.int .i64 yi] 2)).2 with ⟨rfl, _⟩ | ⟨g2, cap1, cur, rfl, hbg, hgh, _⟩
        · simp [Value.ownBlock] at e
        · have e' : g2 = r := by simpa [Value.ownBlock] using e
          subst e'; rw [hgh] at h; cases h
      have HVT := Lib.hid hvT
      have HGT := Lib.hid hgT
      clear hvT hgT
      gi_wp2_with (gi_at_builtin; refine wpListIn_append_own _ rfl _ _ 26 rfl w.heap.size 2 i0 (.int .i64 0) 1 8 Try.underlying26 hi hz0 hz1 hz2 rfl (by decide) _ _ _ rfl (hrow.alloc _) ⟨W.heap.size, 0, none⟩ 1 1 [.int .i64 yi] rfl rfl (cell_one_new _ _ _) (by simp [Value.oneCell']) (by unfold maxLen; omega) (by omega) (by simp; omega) ?_; intro v' Wa hown' hgrow _; obtain ⟨g', cap', rfl⟩ := ownsRow_succ hown'; obtain ⟨hv1, hv2, hr2, hk2, hb2⟩ := hv.appended (by decide) hrow hbsz (by omega) hown' hgrow; have hc1 := hv1.cell; have hf1 := hv1.frozen; have hl1 : Boxed Wa (w1.heap.size + 1) 3 (.int .i64 (LF - cs0)) := (hl.alloc _).kept hgrow (hl.not_row (by decide) hrow); have hl2 := hl1.kept (grownBy_setCell' Wa w1.heap.size (.slice (some ⟨g', 0, none⟩) (pre.length + 1) cap')) (by simp); have hlc1 := hl1.cell; have hlc2 := hl2.cell; have hlf2 := hl2.frozen; have hlf1 := hl1.frozen; have hg1 : Blk Wa g _ _ := (hgrow.block g (by simp; have := hg.lt; omega) hgne).trans ((heap_alloc_old W _ hg.lt).trans hg); have hg2 : Blk (Wa.setCell ⟨w1.heap.size, 0, none⟩ (.slice (some ⟨g', 0, none⟩) (pre.length + 1) cap')) g _ _ := ((grownBy_setCell' Wa w1.heap.size _).block g hg1.lt (by simpa using hgO)).trans hg1; have hgc1 : Wa.cell? ⟨g, 3, none⟩ = some (.int .i64 ys) := hg1.cell 3; have hgc2 : (Wa.setCell ⟨w1.heap.size, 0, none⟩ (.slice (some ⟨g', 0, none⟩) (pre.length + 1) cap')).cell? ⟨g, 3, none⟩ = some (.int .i64 ys) := hg2.cell 3)
      have hl3 := hl2.set (.int .i64 (LF - cs0 - ys))
      have hT1 : KeepsT W Wa := (KeepsT.grown (World.grownBy_alloc W _ none) (fun r e => by cases e)).trans (KeepsT.grown hgrow HVT.out)
      have hT2 : KeepsT Wa (Wa.setCell ⟨w1.heap.size, 0, none⟩ (.slice (some ⟨g', 0, none⟩) (pre.length + 1) cap')) := KeepsT.grown (grownBy_setCell' Wa w1.heap.size _) (fun r e cs m h => by cases e; rw [show Wa.heap[w1.heap.size]? = _ from hv1] at h; cases h)
      have gL := grownBy_setCell' (Wa.setCell ⟨w1.heap.size, 0, none⟩ (.slice (some ⟨g', 0, none⟩) (pre.length + 1) cap')) (w1.heap.size + 1) (.int .i64 (LF - cs0 - ys))
      have hT3 := KeepsT.grown gL (fun r e cs m h => by cases e; rw [show (Wa.setCell ⟨w1.heap.size, 0, none⟩ (.slice (some ⟨g', 0, none⟩) (pre.length + 1) cap')).heap[w1.heap.size + 1]? = _ from hl2] at h; cases h)
      have hbb : Boxed Wa w.heap.size 3 (.int .i64 b) := (hb.alloc _).kept hgrow (hb.not_row (by decide) hrow)
      have hbb2 := (hbb.kept (grownBy_setCell' Wa w1.heap.size (.slice (some ⟨g', 0, none⟩) (pre.length + 1) cap')) (by intro e; simp at e; rw [e] at hb; have h2 := Eq.trans (Eq.symm (show W.heap[w1.heap.size]? = _ from hv)) (show W.heap[w1.heap.size]? = _ from hb); cases h2)).kept gL (by intro e; simp at e; omega)
      have hrow3 := hr2.kept gL (.inr (hl2.not_row (by decide) hr2).symm)
      have hv3 := hv2.kept gL (by intro e; simp at e)
      refine ⟨(hk2.trans (KeepsOthers.setCell _ _ _)).from _, (hT1.trans hT2).trans hT3, ⟨_, hv3, ?_⟩, ?_, hbb2, (hB.trans hb2).grown gL (by have := hb2.size; omega) (fun j e => by cases e; omega), HRS.out (by omega)⟩
      · rw [← HRI.out, List.length_append]; exact hrow3
      · rw [HCS.out]; exact hl3
  case done =>
    rintro D ys W hD hS ⟨⟨v, hv, hrow, -⟩, hl, hb, hB, hR⟩ hK
    have hcv := hv.cell
    gi_wp2
    rw [Exit.noGoto_ret]
    refine ⟨by simp, .inl ⟨_, _, rfl, run_takeDeferred hK, ?_⟩⟩
    have hne : some D ≠ v.ownBlock := by
      rcases hrow.2 with ⟨rfl, _⟩ | ⟨g, cap1, cur, rfl, hbg, hgh, _⟩
      · simp [Value.ownBlock]
      · intro e
        have e' : D = g := by simpa [Value.ownBlock] using e
        subst e'; rw [hK] at hgh; cases hgh
    refine ⟨_, by simp [results, Try.results9, go_sem], v, rfl, ?_⟩
    rw [run_done hR hS]
    exact GivesF.own (by have := hrow.kept (grownBy_putObj' W D (.deferred none)) (.inr hne.symm); simpa [rids] using this) (hB.trans (belowK_b (w := w) (Nat.le_refl _) W D _ _ (by have := hB3.size; omega) hK rfl rfl))
  case stop =>
    rintro D c pre' W hD hS ⟨⟨v, hv, hrow, -⟩, hB, rfl, pre, y, rfl, hR, hle⟩ hK
    have hcv := hv.cell
    gi_wp2
    rw [Exit.noGoto_ret]
    refine ⟨by simp, .inl ⟨_, _, rfl, run_takeDeferred hK, ?_⟩⟩
    have hne : some D ≠ v.ownBlock := by
      rcases hrow.2 with ⟨rfl, _⟩ | ⟨g, cap1, cur, rfl, hbg, hgh, _⟩
      · simp [Value.ownBlock]
      · intro e
        have e' : D = g := by simpa [Value.ownBlock] using e
        subst e'; rw [hK] at hgh; cases hgh
    refine ⟨_, by simp [results, Try.results9, go_sem], v, rfl, ?_⟩
    rw [run_stop hR hS hle]
    rw [List.dropLast_concat] at hrow
    exact GivesF.own (by have := hrow.kept (grownBy_putObj' W D (.deferred none)) (.inr hne.symm); simpa [rids] using this) (hB.trans (belowK_b (w := w) (Nat.le_refl _) W D _ _ (by have := hB3.size; omega) hK rfl rfl))
end Go.Proofs.Ytkhlgjkbkpbhiaa
