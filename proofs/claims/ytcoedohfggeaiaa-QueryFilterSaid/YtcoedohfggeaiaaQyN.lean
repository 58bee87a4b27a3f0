/-
  Layer 15, the developers' query: Next: what it answers, of any entries and any Ask. Assumed: that these lie in memory.
-/
import Derived.Test.YtcoedohfggeaiaaQyM
import Derived.Test.YtcoedohfggeaiaaQyC
import Derived.Shelf.RegionOpen

namespace Go.Proofs.Ytcoedohfggeaiaa
open Go.RowKit Go.Shelf En Qy
set_option maxRecDepth 100000
attribute [local go_sem] Oper.semAt_some

/-- what is to be asked for, of what was told so far -/
def lastQ (qa : Qy.A) (pre : List E) : Qy.A := pre.getLast?.elim qa qa.behind
theorem lastQ_snoc (qa : Qy.A) (pre : List E) (y : E) : lastQ qa (pre ++ [y]) = { lastQ qa pre with tk := y.tick, id := y.id } := by
  unfold lastQ
  rw [List.getLast?_concat]
  cases pre.getLast? <;> rfl
theorem next_last {l : List E} {a : Qy.A} {pre : List E} {y : E} {r : List E} (h : pre ++ [y] ++ r = those l a) (h1 : ¬ a.lim < 1) (he : (pre.length : Int) = a.lim) : more l a = true ∧ next l a = lastQ a pre := by
  have hm : more l a = true := by
    unfold more
    rw [decide_eq_true_eq, ← h]
    simp only [List.length_append, List.length_singleton]
    omega
  refine ⟨hm, ?_⟩
  have ht : told l a = pre := by
    unfold told
    rw [← h, List.append_assoc, show a.lim.toNat = pre.length by omega, List.take_left]
  have hne : pre ≠ [] := by intro e; subst e; simp at he; omega
  unfold next lastQ
  rw [if_pos hm, ht, List.getLast?_eq_some_getLast hne]
theorem fin15 {w W : World} {B C D : Nat} {z : Qy.A} {v0 : Value} (hz : BoxQ W C z) (hd : Boxed W D 4 v0) (hCD : C ≠ D) (hC : B ≤ C) (hD : B ≤ D) (hsz : B ≤ W.heap.size) (hb : Below B w W) (a : Qy.A) (b : Bool) (wf : World)
    (hwf : (((((((W.setCell ⟨C, 0, none⟩ (.string (str a.sv))).setCell ⟨C, 1, none⟩ (.int .i64 a.lo)).setCell ⟨C, 2, none⟩ (.int .i64 a.hi)).setCell ⟨C, 3, none⟩ (.int .i64 a.cl)).setCell ⟨C, 4, none⟩ (.int .i64 a.tk)).setCell ⟨C, 5, none⟩ (.int .i64 a.id)).setCell ⟨C, 6, none⟩ (.int .i64 a.lim)).setCell ⟨D, 0, none⟩ (.bool b) = wf) :
    BoxQ wf C a ∧ Boxed wf D 4 (.bool b) ∧ Below B w wf ∧ KeepsOthers W wf := by
  have h1 := hz.over a
  have k := kept7 W C a
  have o7 : KeepsOthers W (((((((W.setCell ⟨C, 0, none⟩ (.string (str a.sv))).setCell ⟨C, 1, none⟩ (.int .i64 a.lo)).setCell ⟨C, 2, none⟩ (.int .i64 a.hi)).setCell ⟨C, 3, none⟩ (.int .i64 a.cl)).setCell ⟨C, 4, none⟩ (.int .i64 a.tk)).setCell ⟨C, 5, none⟩ (.int .i64 a.id)).setCell ⟨C, 6, none⟩ (.int .i64 a.lim)) :=
    ((((((KeepsOthers.setCell _ _ _).trans (KeepsOthers.setCell _ _ _)).trans (KeepsOthers.setCell _ _ _)).trans (KeepsOthers.setCell _ _ _)).trans (KeepsOthers.setCell _ _ _)).trans (KeepsOthers.setCell _ _ _)).trans (KeepsOthers.setCell _ _ _)
  subst hwf
  revert h1 k o7
  generalize World.setCell _ ⟨C, 6, none⟩ _ = W7
  intro h1 k o7
  have hd7 : Boxed W7 D 4 v0 := (k.block D hd.lt (by simp; omega)).trans hd
  have hb7 : Below B w W7 := Kept.belowQ hb k ⟨hsz, by simp; exact hC⟩
  refine ⟨((grownBy_setCell' W7 D (.bool b)).block C h1.lt (by simpa using hCD)).trans h1, hd7.set _, hb7.grown (grownBy_setCell' W7 D (.bool b)) (by have := k.size; omega) (fun j e => by cases e; exact hD), o7.trans (KeepsOthers.setCell _ _ _)⟩

theorem BoxQ.cellSet {W : World} {g T : Nat} {a : Qy.A} (h : BoxQ W g a) (hne : g ≠ T) (v : Value) : BoxQ (W.setCell ⟨T, 0, none⟩ v) g a := ((grownBy_setCell' W T v).block g h.lt (by simpa using hne)).trans h
theorem boxed_cellSet {W : World} {g T : Nat} {t : TypeId} {u : Value} (h : Boxed W g t u) (hne : g ≠ T) (v : Value) : Boxed (W.setCell ⟨T, 0, none⟩ v) g t u := ((grownBy_setCell' W T v).block g h.lt (by simpa using hne)).trans h
theorem BoxQ.putDef {W : World} {g D : Nat} {a : Qy.A} (h : BoxQ W g a) (hK : W.heap[D]? = some (.deferred (some []))) : BoxQ (W.putObj D (.deferred none)) g a := ((grownBy_putObj' W D (.deferred none)).block g h.lt (fun e => by
  injection e with e
  subst e
  rw [show W.heap[g]? = _ from h] at hK; cases hK)).trans h
theorem boxed_putDef {W : World} {g D : Nat} {t : TypeId} {u : Value} (h : Boxed W g t u) (hK : W.heap[D]? = some (.deferred (some []))) : Boxed (W.putObj D (.deferred none)) g t u := ((grownBy_putObj' W D (.deferred none)).block g h.lt (fun e => by
  injection e with e
  subst e
  rw [show W.heap[g]? = _ from h] at hK; cases hK)).trans h
theorem place15 {W : World} {B D : Nat} {b : Qy.A} (hd : BoxQ W D b) (hB : B ≤ D) (hsz : B ≤ W.heap.size) (t i : Int) (W2 : World) (h : ((W.setCell ⟨D, 4, none⟩ (.int .i64 t)).setCell ⟨D, 5, none⟩ (.int .i64 i)).drew = W2) :
    BoxQ W2 D { b with tk := t, id := i } ∧ Below B W W2 ∧ KeepsOthers W W2 ∧ (∀ g (a : Qy.A), BoxQ W g a → g ≠ D → BoxQ W2 g a) ∧ (∀ g ty v, Boxed W g ty v → g ≠ D → Boxed W2 g ty v) := by
  have k := kept2 W D t i
  have hp := hd.place t i
  subst h
  exact ⟨hp, (Kept.belowQ (Below.refl _ _) k ⟨hsz, by simp; exact hB⟩).drew, ((KeepsOthers.setCell _ _ _).trans (KeepsOthers.setCell _ _ _)).trans (KeepsOthers.drew _),
    fun g a h hne => (k.block g h.lt (by simp; exact hne)).trans h, fun g ty v h hne => (k.block g h.lt (by simp; exact hne)).trans h⟩

theorem grownBy_none6 (w : World) (a1 a2 a3 a4 : Qy.A) (f t l : Value) (W0 : World) (h : ((((((w.alloc (.cells (askA a1) 31)).alloc (.cells (askA a2) 31)).alloc (.cells #[f] 4)).alloc (.cells (askA a3) 31)).alloc (.cells #[t] 3)).alloc (.cells #[l] 22)).alloc (.cells (askA a4) 31) = W0) :
    BoxQ W0 w.heap.size a1 ∧ BoxQ W0 (w.heap.size + 1) a2 ∧ Boxed W0 (w.heap.size + 1 + 1) 4 f ∧ BoxQ W0 (w.heap.size + 1 + 1 + 1) a3 ∧ Boxed W0 (w.heap.size + 1 + 1 + 1 + 1) 3 t ∧ Boxed W0 (w.heap.size + 1 + 1 + 1 + 1 + 1) 22 l ∧ BoxQ W0 (w.heap.size + 1 + 1 + 1 + 1 + 1 + 1) a4 := by
  obtain ⟨w1, h1⟩ : ∃ w1, w.alloc (.cells (askA a1) 31) = w1 := ⟨_, rfl⟩
  rw [h1] at h
  obtain ⟨w2, h2⟩ : ∃ w2, w1.alloc (.cells (askA a2) 31) = w2 := ⟨_, rfl⟩
  rw [h2] at h
  obtain ⟨w3, h3⟩ : ∃ w3, w2.alloc (.cells #[f] 4) = w3 := ⟨_, rfl⟩
  rw [h3] at h
  obtain ⟨w4, h4⟩ : ∃ w4, w3.alloc (.cells (askA a3) 31) = w4 := ⟨_, rfl⟩
  rw [h4] at h
  obtain ⟨w5, h5⟩ : ∃ w5, w4.alloc (.cells #[t] 3) = w5 := ⟨_, rfl⟩
  rw [h5] at h
  obtain ⟨w6, h6⟩ : ∃ w6, w5.alloc (.cells #[l] 22) = w6 := ⟨_, rfl⟩
  rw [h6] at h
  have z1 : w1.heap.size = w.heap.size + 1 := by rw [← h1]; simp
  have z2 : w2.heap.size = w.heap.size + 1 + 1 := by rw [← h2, World.size_alloc, z1]
  have z3 : w3.heap.size = w.heap.size + 1 + 1 + 1 := by rw [← h3, World.size_alloc, z2]
  have z4 : w4.heap.size = w.heap.size + 1 + 1 + 1 + 1 := by rw [← h4, World.size_alloc, z3]
  have z5 : w5.heap.size = w.heap.size + 1 + 1 + 1 + 1 + 1 := by rw [← h5, World.size_alloc, z4]
  have z6 : w6.heap.size = w.heap.size + 1 + 1 + 1 + 1 + 1 + 1 := by rw [← h6, World.size_alloc, z5]
  have b2 : Below w1.heap.size w1 w2 := by rw [← h2]; exact (Below.refl _ _).alloc (Nat.le_refl _) _
  have b3 : Below w2.heap.size w2 w3 := by rw [← h3]; exact (Below.refl _ _).alloc (Nat.le_refl _) _
  have b4 : Below w3.heap.size w3 w4 := by rw [← h4]; exact (Below.refl _ _).alloc (Nat.le_refl _) _
  have b5 : Below w4.heap.size w4 w5 := by rw [← h5]; exact (Below.refl _ _).alloc (Nat.le_refl _) _
  have b6 : Below w5.heap.size w5 w6 := by rw [← h6]; exact (Below.refl _ _).alloc (Nat.le_refl _) _
  have b7 : Below w6.heap.size w6 W0 := by rw [← h]; exact (Below.refl _ _).alloc (Nat.le_refl _) _
  have c1 : BoxQ w1 w.heap.size a1 := by rw [← h1]; exact BoxQ.new w a1
  have c2 : BoxQ w2 (w.heap.size + 1) a2 := by rw [← h2, ← z1]; exact BoxQ.new w1 a2
  have c3 : Boxed w3 (w.heap.size + 1 + 1) 4 f := by rw [← h3, ← z2]; exact Boxed.new w2 _ f
  have c4 : BoxQ w4 (w.heap.size + 1 + 1 + 1) a3 := by rw [← h4, ← z3]; exact BoxQ.new w3 a3
  have c5 : Boxed w5 (w.heap.size + 1 + 1 + 1 + 1) 3 t := by rw [← h5, ← z4]; exact Boxed.new w4 _ t
  have c6 : Boxed w6 (w.heap.size + 1 + 1 + 1 + 1 + 1) 22 l := by rw [← h6, ← z5]; exact Boxed.new w5 _ l
  have c7 : BoxQ W0 (w.heap.size + 1 + 1 + 1 + 1 + 1 + 1) a4 := by rw [← h, ← z6]; exact BoxQ.new w6 a4
  have bk : ∀ {X Y : World} {g : Nat} {ty : TypeId} {v : Value}, Boxed X g ty v → Below X.heap.size X Y → Boxed Y g ty v := fun h k => (k.block _ h.lt).trans h
  exact ⟨((((((c1.below b2).below b3).below b4).below b5).below b6).below b7), (((((c2.below b3).below b4).below b5).below b6).below b7), bk (bk (bk (bk c3 b4) b5) b6) b7, (((c4.below b5).below b6).below b7), bk (bk c5 b6) b7, bk c6 b7, c7⟩

set_option maxHeartbeats 8000000 in
theorem next15_yes (A : Option Addr) (n cap : Nat) (ts : List Ent) (qa : Qy.A) (w : World) (h : Ents w A n cap ts) (hl : ¬ qa.lim < 1) :
    Calls Try.prog 11 #[.slice A n cap, .agg (askA qa)] w fun e w' => e = .returned (.tuple #[.agg (askA (next (ts.map Ent.e) qa)), .bool (more (ts.map Ent.e) qa)]) ∧ Below w.heap.size w w' := by
  have hfew := h.few
  have hTL : (those (ts.map Ent.e) qa).length ≤ 1000 := by have := those_le (ts.map Ent.e) qa; have := h.len; rw [List.length_map] at *; omega
  have HE := Lib.hid h
  clear h
  obtain ⟨B, hB⟩ : ∃ B, w.heap.size = B := ⟨_, rfl⟩
  obtain ⟨W0, hW0⟩ : ∃ W0, ((((((w.alloc (.cells (askA qa) 31)).alloc (.cells (askA Qy.A.zero) 31)).alloc (.cells #[.bool false] 4)).alloc (.cells (askA qa) 31)).alloc (.cells #[.int .i64 0] 3)).alloc (.cells #[.slice A n cap] 22)).alloc (.cells (askA qa) 31) = W0 := ⟨_, rfl⟩
  have hs0 : W0.heap.size = B + 7 := by rw [← hW0, ← hB]; simp
  have hb0 : Below B w W0 := by
    rw [← hW0, ← hB]
    exact (((((((Below.refl _ w).alloc (Nat.le_refl _) _).alloc (by simp) _).alloc (by simp; omega) _).alloc (by simp; omega) _).alloc (by simp; omega) _).alloc (by simp; omega) _).alloc (by simp; omega) _
  have hW00 := hW0
  have g1 := grownBy_none6 _ _ _ _ _ _ _ _ _ hW0
  rw [hB] at g1
  obtain ⟨hQ0, hZ0, hF0, hX0, hT0, hN0, hG0⟩ := g1
  clear hW00
  have HW0 := Lib.hid hW0
  have t1 : decide (qa.lim < 1) = false := by simpa using hl
  refine (callsIn_wide (n := 3)).1 ?_
  have hf20 : Fence.wide.fn 20 := trivial
  unfold askA at *
  refine callsIn_of_wp_marks Try.func11 rfl trivial ?_ rfl
  simp only [Try.ntmps11, List.size_toArray, List.length_cons, List.length_nil, Nat.reduceAdd, Nat.reduceSub, Array.replicate_succ, Array.replicate_zero, List.push_toArray, List.append_toArray, List.nil_append, List.cons_append]
  gi_wp2_with (gi_at_call 20; refine (fit_in Fence.wide _ trivial rfl A n cap qa _).mono ?_; rintro e w' ⟨rfl, rfl⟩)
  unfold askA
  simp only [Qy.A.zero, show str [] = ({ data := #[] } : ByteArray) from rfl] at HW0
  rw [HW0.out]
  have hN1 := hN0.cell
  have hN2 := hN0.lt
  refine wpIn_rangeFunc_ownH rfl (by omega) (gf := 30) (lb := #[.pointer (some ⟨B + 1 + 1 + 1 + 1 + 1, 0, none⟩), .pointer (some ⟨B + 1 + 1 + 1 + 1 + 1 + 1, 0, none⟩)]) rfl trivial (enters_of Try.func30 (by kernel_rfl) rfl)
    (fit_stops _ (by omega) (B + 1 + 1 + 1 + 1 + 1) (B + 1 + 1 + 1 + 1 + 1 + 1) A n cap ts qa w W0 HE.out hN1 hN2 hG0 (by rw [hB]; exact hb0)) (fun h k => h.trans k)
    (fun W l o o' h1 h2 h3 h4 => KQ.turn (w := W0) (by omega) W l o o' h1 h2 h3 h4) (Below.refl _ _) (fun _ => rfl)
    (fun pre W => BoxQ W B qa ∧ BoxQ W (B + 1) Qy.A.zero ∧ Boxed W (B + 1 + 1) 4 (.bool false) ∧ BoxQ W (B + 1 + 1 + 1) (lastQ qa pre) ∧ Boxed W (B + 1 + 1 + 1 + 1) 3 (.int .i64 (pre.length : Int)) ∧ Below B w W ∧ (pre.length : Int) ≤ qa.lim)
    (fun c pre' W => (∃ a, BoxQ W (B + 1) a ∧ (∃ pre y, pre' = pre ++ [y] ∧ a = lastQ qa pre ∧ (pre.length : Int) = qa.lim)) ∧ Boxed W (B + 1 + 1) 4 (.bool true) ∧ Below B w W ∧ c = .ret)
    (OwnFrom.and (askFrom _ _ (fun _ => qa)) (OwnFrom.and (askFrom _ _ (fun _ => Qy.A.zero)) (OwnFrom.and (boxFrom _ _ _ (fun _ => .bool false)) (OwnFrom.and (askFrom _ _ (fun pre => lastQ qa pre)) (OwnFrom.and (boxFrom _ _ _ (fun pre : List E => .int .i64 (pre.length : Int))) (OwnFrom.and (ownFrom_below (by omega) (by omega)) (pureFrom _ _)))))))
    (fun c => OwnFrom.and (fun s W W' row ⟨a, h1, h2⟩ hg hr => ⟨a, askFrom W0.heap.size _ (fun _ : Unit => a) () W W' row h1 hg hr, h2⟩) (OwnFrom.and (boxFrom _ _ _ (fun _ => .bool true)) (OwnFrom.and (ownFrom_below (by omega) (by omega)) (pureFrom _ _))))
    ⟨hQ0, hZ0, hF0, hX0, hT0, hb0, by simp; omega⟩
    (fun y a' W => ∃ g, a' = { tmps := #[.slice A n cap, .agg #[.string (str qa.sv), .int .i64 qa.lo, .int .i64 qa.hi, .int .i64 qa.cl, .int .i64 qa.tk, .int .i64 qa.id, .int .i64 qa.lim], undef, .pointer (some ⟨B, 0, none⟩), .pointer (some ⟨B + 1, 0, none⟩), .pointer (some ⟨B + 1 + 1, 0, none⟩), .pointer (some ⟨B + 1 + 1 + 1, 0, none⟩), .pointer (some ⟨B + 1 + 1 + 1 + 1, 0, none⟩), .pointer (some ⟨g, 0, none⟩), .pointer (some ⟨B, 6, none⟩), .int .i64 qa.lim, .bool false, undef, .agg #[.string (str qa.sv), .int .i64 qa.lo, .int .i64 qa.hi, .int .i64 qa.cl, .int .i64 qa.tk, .int .i64 qa.id, .int .i64 qa.lim], .slice A n cap, .agg #[.string (str qa.sv), .int .i64 qa.lo, .int .i64 qa.hi, .int .i64 qa.cl, .int .i64 qa.tk, .int .i64 qa.id, .int .i64 qa.lim], .func (.func 30) #[] #[.pointer (some ⟨B + 1 + 1 + 1 + 1 + 1, 0, none⟩), .pointer (some ⟨B + 1 + 1 + 1 + 1 + 1 + 1, 0, none⟩)], .agg #[.int .i64 y.id, .int .i64 y.cl, .int .i64 y.tick, .int .i64 y.cost, .bool y.pin], undef, undef, undef, undef, undef, undef, undef, undef, undef, undef, undef, undef, undef, undef], defers := [] } ∧ Blk W g #[.int .i64 y.id, .int .i64 y.cl, .int .i64 y.tick, .int .i64 y.cost, .bool y.pin] 24)
    (fun y a' s W W' row h hg hr => by
      obtain ⟨g, ea, hb⟩ := h
      refine ⟨g, ea, (hg.block g hb.lt (fun e => ?_)).trans hb⟩
      obtain ⟨_, o, ho, hc⟩ := hr g e.symm
      rw [show W.heap[g]? = _ from hb] at ho; cases ho; cases hc) ?assign ?body ?done ?stop
  case assign =>
    rintro l' pre y W K hI hK
    have hkf : KeepsFrom W0.heap.size W (W.alloc (.cells #[.int .i64 y.id, .int .i64 y.cl, .int .i64 y.tick, .int .i64 y.cost, .bool y.pin] 24)) := (KeepsOthers.alloc W _).from _
    have hb1 : Below W.heap.size W (W.alloc (.cells #[.int .i64 y.id, .int .i64 y.cl, .int .i64 y.tick, .int .i64 y.cost, .bool y.pin] 24)) := (Below.refl _ _).alloc (Nat.le_refl _) _
    have hsz := hI.2.2.2.2.2.1.size
    have HK := Lib.hid (hK { tmps := #[.slice A n cap, .agg #[.string (str qa.sv), .int .i64 qa.lo, .int .i64 qa.hi, .int .i64 qa.cl, .int .i64 qa.tk, .int .i64 qa.id, .int .i64 qa.lim], undef, .pointer (some ⟨B, 0, none⟩), .pointer (some ⟨B + 1, 0, none⟩), .pointer (some ⟨B + 1 + 1, 0, none⟩), .pointer (some ⟨B + 1 + 1 + 1, 0, none⟩), .pointer (some ⟨B + 1 + 1 + 1 + 1, 0, none⟩), .pointer (some ⟨W.heap.size, 0, none⟩), .pointer (some ⟨B, 6, none⟩), .int .i64 qa.lim, .bool false, undef, .agg #[.string (str qa.sv), .int .i64 qa.lo, .int .i64 qa.hi, .int .i64 qa.cl, .int .i64 qa.tk, .int .i64 qa.id, .int .i64 qa.lim], .slice A n cap, .agg #[.string (str qa.sv), .int .i64 qa.lo, .int .i64 qa.hi, .int .i64 qa.cl, .int .i64 qa.tk, .int .i64 qa.id, .int .i64 qa.lim], .func (.func 30) #[] #[.pointer (some ⟨B + 1 + 1 + 1 + 1 + 1, 0, none⟩), .pointer (some ⟨B + 1 + 1 + 1 + 1 + 1 + 1, 0, none⟩)], .agg #[.int .i64 y.id, .int .i64 y.cl, .int .i64 y.tick, .int .i64 y.cost, .bool y.pin], undef, undef, undef, undef, undef, undef, undef, undef, undef, undef, undef, undef, undef, undef], defers := [] } _ hkf ⟨hb1.mono (by omega), fun hq => hq.below hb1⟩ (by
      obtain ⟨q1, q2, q3, q4, q5, q6, q7⟩ := hI
      exact ⟨q1.below hb1, q2.below hb1, q3.alloc _, q4.below hb1, q5.alloc _, q6.trans (hb1.mono (by omega)), q7⟩) ⟨_, rfl, Blk.new _ _ _⟩)
    clear hK hI hkf hb1
    gi_wp2
    exact HK.out
  case body =>
    rintro l' pre y a' W _ _ ⟨hq, hz, hbo, hnx, htl, hBW, hL⟩ ⟨g, rfl, hg⟩ hlt
    have hBX := hBW.size
    obtain ⟨-, -, -, -, -, -, a6⟩ := hq.all
    have hT := htl.cell
    by_cases he : (pre.length : Int) = qa.lim
    · have t1 : ((pre.length : Int) == qa.lim) = true := by simpa using he
      obtain ⟨b, hb⟩ : ∃ b, lastQ qa pre = b := ⟨_, rfl⟩
      rw [hb] at hnx
      have HE2 := Lib.hid he
      have HBB := Lib.hid hb
      obtain ⟨n0, n1, n2, n3, n4, n5, n6⟩ := hnx.all
      obtain ⟨f0, f1, f2, f3, f4, f5, f6⟩ := hz.melt
      obtain ⟨z0, z1, z2, z3, z4, z5, z6⟩ := hz.all
      have fb := hbo.frozen
      have zb := hbo.cell
      have HFN := Lib.hid (fin15 (B := B) hz hbo (by omega) (by omega) (by omega) (by omega) hBW b true)
      clear he hb hnx hz hbo hq htl hL hBW
      gi_wp2
      obtain ⟨r1, r2, r3, r4⟩ := HFN.out _ rfl
      exact ⟨r4.from _, ⟨b, r1, pre, y, rfl, HBB.out.symm, HE2.out⟩, r2, r3, rfl⟩
    · have t1 : ((pre.length : Int) == qa.lim) = false := by simpa using he
      have hgD : g ≠ B + 1 + 1 + 1 := by
        intro e; subst e
        have h2 := Eq.trans (Eq.symm (show W.heap[_]? = _ from hg)) (show W.heap[_]? = _ from hnx)
        cases h2
      have hg0 : W.cell? ⟨g, 0, none⟩ = some (.int .i64 y.id) := hg.cell 0
      have hg2 : W.cell? ⟨g, 2, none⟩ = some (.int .i64 y.tick) := hg.cell 2
      have hg1 : (W.setCell ⟨B + 1 + 1 + 1, 4, none⟩ (.int .i64 y.tick)).cell? ⟨g, 0, none⟩ = some (.int .i64 y.id) := ((kept1 W (B + 1 + 1 + 1) y.tick).blk hg (by simp; omega)).cell 0
      obtain ⟨-, -, -, -, n4, n5, -⟩ := hnx.all
      obtain ⟨-, -, -, -, f4, f5, -⟩ := hnx.melt
      have hmx : Try.prog.follows .mixedOrders = true := by kernel_rfl
      have HPL := Lib.hid (place15 (B := B) hnx (by omega) (by omega) y.tick y.id)
      have wq : IntKind.i64.wrap ((pre.length : Int) + 1) = (pre.length : Int) + 1 := by rw [IntKind.wrap_i64]; omega
      have HLS := Lib.hid (lastQ_snoc qa pre y)
      have HLE := Lib.hid (show ((pre ++ [y]).length : Int) = (pre.length : Int) + 1 by simp)
      gi_wp2
      gi_region_with_o (fail)
      all_goals
        obtain ⟨p1, p2, p3, p4, p5⟩ := HPL.out _ rfl
        have u1 := p4 _ _ hq (by omega)
        have u2 := p4 _ _ hz (by omega)
        have u3 := p5 _ _ _ hbo (by omega)
        have u5 := p5 _ _ _ htl (by omega)
        have u6 := p4 (B + 1 + 1 + 1 + 1 + 1 + 1) qa
        clear p4 p5 HPL hg1 n4 n5 f4 f5 hnx
        revert p1 p2 p3 u1 u2 u3 u5 u6
        generalize World.drew _ = W2
        intro p1 p2 p3 u1 u2 u3 u5 u6
        have v5 := u5.cell
        have e5 := u5.frozen
        gi_wp2
        refine ⟨(p3.trans (KeepsOthers.setCell _ _ _)).from _, ⟨by rw [hB]; exact p2.setCell (by simp; omega) _, fun hqq => (u6 hqq (by omega)).cellSet (by omega) _⟩, u1.cellSet (by omega) _, u2.cellSet (by omega) _, boxed_cellSet u3 (by omega) _, by rw [HLS.out]; exact p1.cellSet (by omega) _, by rw [HLE.out]; exact u5.set _, (hBW.trans p2).setCell (by simp; omega) _, by rw [HLE.out]; omega⟩
  case done =>
    rintro D ys W hD rfl ⟨hq, hz, hbo, hnx, htl, hBW, hL⟩ hK
    have hBX := hBW.size
    have HMF := Lib.hid (show more (ts.map Ent.e) qa = false by unfold more; rw [decide_eq_false_iff_not]; omega)
    have HNX := Lib.hid (next_zero _ _ HMF.out)
    obtain ⟨z0, z1, z2, z3, z4, z5, z6⟩ := hz.all
    obtain ⟨f0, f1, f2, f3, f4, f5, f6⟩ := hz.melt
    have fb := hbo.frozen
    have zb := hbo.cell
    have HFN := Lib.hid (fin15 (B := B) hz hbo (by omega) (by omega) (by omega) (by omega) hBW Qy.A.zero false)
    have HK := Lib.hid hK
    clear hq hz hbo hnx htl hL
    simp only [Qy.A.zero, show str [] = ({ data := #[] } : ByteArray) from rfl] at HFN
    gi_wp2
    obtain ⟨r1, r2, r3, r4⟩ := HFN.out _ rfl
    clear z0 z1 z2 z3 z4 z5 z6 f0 f1 f2 f3 f4 f5 f6 fb zb HFN
    revert r1 r2 r3 r4
    generalize World.setCell _ _ _ = wf
    intro r1 r2 r3 r4
    have hKf := r4.same D _ HK.out rfl
    have s1 := r1.putDef hKf
    have s2 := boxed_putDef r2 hKf
    obtain ⟨c0, c1, c2, c3, c4, c5, c6⟩ := s1.all
    have cb := s2.cell
    simp only at c0 c1 c2 c3 c4 c5 c6
    have hB9 := r3.trans (belowK_b (w := W0) (by omega) wf D _ (.deferred none) hD hKf rfl rfl)
    refine ⟨by simp, .inl ⟨_, _, rfl, run_takeDeferred hKf, ?_⟩⟩
    clear s1 s2 r1 r2 r3 r4 hKf
    revert c0 c1 c2 c3 c4 c5 c6 cb hB9
    generalize World.putObj _ _ _ = wg
    intro c0 c1 c2 c3 c4 c5 c6 cb hB9
    refine ⟨.tuple #[.agg #[.string (str []), .int .i64 0, .int .i64 0, .int .i64 0, .int .i64 0, .int .i64 0, .int .i64 0], .bool false], by simp [results, Try.results11, go_sem, c0, c1, c2, c3, c4, c5, c6, cb, Result.andThen], ?_⟩
    rw [HNX.out, HMF.out, hB]
    exact ⟨rfl, hB9⟩
  case stop =>
    rintro D c pre' W hD ⟨r, hS⟩ ⟨⟨a, ha, pre, y, rfl, rfl, he⟩, hbo, hBW, rfl⟩ hK
    have hBX := hBW.size
    obtain ⟨hmr, hnx⟩ := next_last hS (by omega) he
    have HK := Lib.hid hK
    have HMR := Lib.hid hmr
    have HNX := Lib.hid hnx
    clear hmr hnx
    have HA := Lib.hid (ha.putDef hK)
    have HO := Lib.hid (boxed_putDef hbo hK)
    gi_wp2
    refine ⟨by simp, .inl ⟨_, _, rfl, run_takeDeferred HK.out, ?_⟩⟩
    obtain ⟨c0, c1, c2, c3, c4, c5, c6⟩ := HA.out.all
    have cb := HO.out.cell
    have hB9 := hBW.trans (belowK_b (w := W0) (by omega) W D _ (.deferred none) hD HK.out rfl rfl)
    clear ha hbo hK
    revert c0 c1 c2 c3 c4 c5 c6 cb hB9
    generalize World.putObj _ _ _ = wg
    generalize lastQ qa pre = a at *
    intro c0 c1 c2 c3 c4 c5 c6 cb hB9
    refine ⟨.tuple #[.agg #[.string (str a.sv), .int .i64 a.lo, .int .i64 a.hi, .int .i64 a.cl, .int .i64 a.tk, .int .i64 a.id, .int .i64 a.lim], .bool true], by simp [results, Try.results11, go_sem, c0, c1, c2, c3, c4, c5, c6, cb, Result.andThen], ?_⟩
    rw [HNX.out, HMR.out, hB]
    exact ⟨rfl, hB9⟩
end Go.Proofs.Ytcoedohfggeaiaa
