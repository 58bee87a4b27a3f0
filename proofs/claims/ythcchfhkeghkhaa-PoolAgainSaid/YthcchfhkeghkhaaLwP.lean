/-
  Layer 16: what several of its laws want: spans of one's own in boxes and rows; a bound on what a trace costs. Nothing is assumed.
-/
import Derived.Test.YthcchfhkeghkhaaHd16

namespace Go.Proofs.Ythcchfhkeghkhaa
open Go.RowKit Go.Maps Po
set_option maxRecDepth 100000

theorem cost_le16 (l : List Plain.Sp) : (Rc.cost l : Int) ≤ 6516 := by
  unfold Rc.cost
  have := Plain.tput_len l
  split <;> omega
/-- a block that is a span -/
abbrev BoxS (w : World) (g : Nat) (x : Plain.Sp) : Prop := Blk w g #[.int .i64 x.t, .int .i64 x.i, .int .i64 x.p, .int .i64 x.s, .int .i64 x.d, .string (str x.sv), .string (str x.nm)] 45
theorem BoxS.over {w : World} {g : Nat} {y : Plain.Sp} (h : BoxS w g y) (x : Plain.Sp) : BoxS (((((((w.setCell ⟨g, 0, none⟩ (.int .i64 x.t)).setCell ⟨g, 1, none⟩ (.int .i64 x.i)).setCell ⟨g, 2, none⟩ (.int .i64 x.p)).setCell ⟨g, 3, none⟩ (.int .i64 x.s)).setCell ⟨g, 4, none⟩ (.int .i64 x.d)).setCell ⟨g, 5, none⟩ (.string (str x.sv))).setCell ⟨g, 6, none⟩ (.string (str x.nm))) g x := by
  have := ((((((h.set 0 (.int .i64 x.t)).set 1 (.int .i64 x.i)).set 2 (.int .i64 x.p)).set 3 (.int .i64 x.s)).set 4 (.int .i64 x.d)).set 5 (.string (str x.sv))).set 6 (.string (str x.nm))
  simpa only [List.setIfInBounds_toArray, List.set_cons_succ, List.set_cons_zero] using this
theorem store_sp {w : World} {g : Nat} {y : Plain.Sp} (h : BoxS w g y) (x : Plain.Sp) : ∃ w2, (Instr.storeAt 45 (.pointer (some ⟨g, 0, none⟩)) (.agg #[.int .i64 x.t, .int .i64 x.i, .int .i64 x.p, .int .i64 x.s, .int .i64 x.d, .string (str x.sv), .string (str x.nm)])).run Try.prog w = .ok () w2 ∧ BoxS w2 g x ∧ Kept [g] w w2 := by
  obtain ⟨c0, c1, c2, c3, c4, c5, c6⟩ := seven16 h
  have f0 := h.frozen 0
  have f1 := h.frozen 1
  have f2 := h.frozen 2
  have f3 := h.frozen 3
  have f4 := h.frozen 4
  have f5 := h.frozen 5
  have f6 := h.frozen 6
  refine ⟨_, ?_, h.over x, (((((((Kept.refl [g] w).setCell (by simp) _).setCell (by simp) _).setCell (by simp) _).setCell (by simp) _).setCell (by simp) _).setCell (by simp) _).setCell (by simp) _⟩
  clear h
  go_simp
theorem wpList_storeW16 {w w2 : World} {ops : Array Oper} {rest : List Oper} {o : Oper} {a : Act} {Q : Exit → Act → World → Prop} (hg : o.guard = none) (t : TypeId) (x y : Operand) (ho : o.op = .store t x y) (p v : Value) (hx : a.eval x = p) (hy : a.eval y = v) (hr : (Instr.storeAt t p v).run Try.prog w = .ok () w2)
    (h : wpList Try.prog ops Q rest (a.put o.dst undef) w2) : wpList Try.prog ops Q (o :: rest) a w := by
  refine wpList_plain hg fun K hK => ?_
  unfold Oper.wp execOp
  simp only [ho, hx, hy, Sem.run_bind, hr, Result.andThen_ok, Sem.run_pure]
  exact hK _ _ h
theorem lies_at16 (w : World) (g : Nat) (xs : List Value) (cs : Array Value) (t : TypeId) (h : xs = cs.toList) (hg : w.heap.size = g) : Lies (w.alloc (.cells cs t)) (some ⟨g, 0, none⟩) xs := by
  subst h hg; exact Lies.new w cs t
/-- Add of a row of one that was just made -/
theorem addRow16 {IsP : List Nat → World → Nat → List Nat → Int → List Plain.Sp → Prop} (K : PoolOk IsP) {w : World} {p : Nat} {O : List Nat} {most c : Int} {G G' : List Plain.Sp} (h : IsP [] w p O most G) (x : Plain.Sp) (hx : x.right = true) (g : Nat) (hg : w.heap.size = g) (hc : codes most G [x] = c) (hp : put most G [x] = G') :
    Calls Try.prog 18 #[.pointer (some ⟨p, 0, none⟩), .slice (some ⟨g, 0, none⟩) 1 1] (w.alloc (.cells #[.int .i64 x.t, .int .i64 x.i, .int .i64 x.p, .int .i64 x.s, .int .i64 x.d, .string (str x.sv), .string (str x.nm)] 45)) fun e w' =>
      e = .returned (.int .i64 c) ∧ ∃ O', IsP [] w' p O' most G' ∧ ∀ (w0 : World), Below w0.heap.size w0 w → (∀ g ∈ O, w0.heap.size ≤ g) → Below w0.heap.size w0 w' ∧ ∀ g ∈ O', w0.heap.size ≤ g := by
  have ba : Below w.heap.size w (w.alloc (.cells #[.int .i64 x.t, .int .i64 x.i, .int .i64 x.p, .int .i64 x.s, .int .i64 x.d, .string (str x.sv), .string (str x.nm)] 45)) := (Below.refl _ _).alloc (Nat.le_refl _) _
  refine (K.add_as (K.below h ba) (by simp) (some ⟨g, 0, none⟩) 1 1 [x] rfl (Nat.le_refl _) (by unfold maxLen; omega) (lies_at16 w g _ _ _ rfl hg) (off_new (B := w.heap.size) (K.own h) (fun ad e => by cases e; exact Nat.le_of_eq hg)) (fine16 _ (fun y hy => by rw [List.mem_singleton.1 hy]; exact .inl hx)) hc hp).mono fun e w' ⟨h1, O', h2, h3, h4⟩ => ⟨h1, O', h2, fun w0 hb ho => ?_⟩
  have hb2 := hb.trans (ba.mono hb.size)
  exact ⟨Kept.below hb2 h3 ho, fun g hg => (h4 g hg).elim (ho g) (fun h => Nat.le_trans hb2.size h)⟩
/-- the same beside others' blocks -/
theorem addRowK16 {IsP : List Nat → World → Nat → List Nat → Int → List Plain.Sp → Prop} (K : PoolOk IsP) {w : World} {p : Nat} {O R : List Nat} {most c : Int} {G G' : List Plain.Sp} (h : IsP R w p O most G) (hR : ∀ s ∈ R, s < w.heap.size) (x : Plain.Sp) (hF : Fine [x]) (g : Nat) (hg : w.heap.size = g) (hc : codes most G [x] = c) (hp : put most G [x] = G') :
    Calls Try.prog 18 #[.pointer (some ⟨p, 0, none⟩), .slice (some ⟨g, 0, none⟩) 1 1] (w.alloc (.cells #[.int .i64 x.t, .int .i64 x.i, .int .i64 x.p, .int .i64 x.s, .int .i64 x.d, .string (str x.sv), .string (str x.nm)] 45)) fun e w' =>
      e = .returned (.int .i64 c) ∧ ∃ O', IsP R w' p O' most G' ∧ Kept O w w' ∧ ∀ g ∈ O', g ∈ O ∨ w.heap.size ≤ g := by
  have ba : Below w.heap.size w (w.alloc (.cells #[.int .i64 x.t, .int .i64 x.i, .int .i64 x.p, .int .i64 x.s, .int .i64 x.d, .string (str x.sv), .string (str x.nm)] 45)) := (Below.refl _ _).alloc (Nat.le_refl _) _
  refine (K.add_as (K.below h ba) (fun s hs => Nat.lt_of_lt_of_le (hR s hs) ba.size) (some ⟨g, 0, none⟩) 1 1 [x] rfl (Nat.le_refl _) (by unfold maxLen; omega) (lies_at16 w g _ _ _ rfl hg) (off_new (B := w.heap.size) (K.own h) (fun ad e => by cases e; exact Nat.le_of_eq hg)) hF hc hp).mono fun e w' ⟨h1, O', h2, h3, h4⟩ => ⟨h1, O', h2, (Kept.of ba O).trans h3, fun g hg => (h4 g hg).imp id (Nat.le_trans ba.size)⟩

/-- two pools side by side, each off the other's blocks; both in memory made since B -/
structure Two16 (IsP : List Nat → World → Nat → List Nat → Int → List Plain.Sp → Prop) (B : Nat) (w : World) (p q : Nat) (most : Int) (G H : List Plain.Sp) : Prop where
  ex : ∃ O Q, IsP Q w p O most G ∧ IsP O w q Q most H ∧ (∀ g ∈ O, B ≤ g) ∧ (∀ g ∈ Q, B ≤ g)
theorem Two16.below {IsP : List Nat → World → Nat → List Nat → Int → List Plain.Sp → Prop} (K : PoolOk IsP) {B : Nat} {w w' : World} {p q : Nat} {most : Int} {G H : List Plain.Sp} (h : Two16 IsP B w p q most G H) (k : Below w.heap.size w w') : Two16 IsP B w' p q most G H := by
  obtain ⟨O, Q, h1, h2, h3, h4⟩ := h.ex
  exact ⟨O, Q, K.below h1 k, K.below h2 k, h3, h4⟩
end Go.Proofs.Ythcchfhkeghkhaa
