/-
  Layer 5: trace.Right: what it answers, of any spans: whether they are a trace's. Nothing is assumed but that the spans lie in memory.
-/
import Derived.Test.YthcchfhkeghkhaaGen
import Derived.Test.YthcchfhkeghkhaaBatB
import Derived.Test.YthcchfhkeghkhaaMath5
import Derived.Test.YthcchfhkeghkhaaSpanO
import Derived.Maps.OwnSet
import Derived.Maps.Views

namespace Go.Proofs.Ythcchfhkeghkhaa
open Go.RowKit Go.Maps
set_option maxRecDepth 100000

/-! addresses in a statement whose order is open -/
theorem run_idx7 (W : World) (ad : Addr) (n cap k : Nat) (hk : k < n) : (Instr.indexAt 29 (.slice (some ad) n cap) (.int .i64 (k : Int))).run Try.prog W = .ok (.pointer (some (ad.add (k * 7)))) W := by
  go_simp
theorem soft_index7 {w : World} {ρ : Operand → Value} {o : Oper} {x y : Operand} {ad : Addr} {n cap k : Nat} (hx : ρ x = .slice (some ad) n cap) (hy : ρ y = .int .i64 (k : Int)) (hk : k < n) (ho : o.op = .indexAddr 29 x y) : softUpon Try.prog w (Fact.is (.pointer (some (ad.add (k * 7))))) ((execOp ρ o).run Try.prog w) := by
  have e : (execOp ρ o).run Try.prog w = .ok (.value (.pointer (some (ad.add (k * 7))))) w := by
    simp [execOp, ho, hx, hy, run_idx7 w ad n cap k hk]
  rw [e]
  exact ⟨rfl, Below.refl _ _⟩
/-! a set of numbers -/
theorem ownsMap_below {H : Type} {P : Program} {k : TypeId} {R : Value → Option (DataW H × List MemPlace)} {w w' : World} {b n : Nat} {D : DataW H} (h : w.ownsMap P k R b n D) (d : Below w.heap.size w w') : w'.ownsMap P k R b n D :=
  h.kept (row := none) ⟨d.os, d.tape, d.output, d.size, fun q hq _ => d.block q hq⟩ (by simp)
theorem run_makeMap_hint (t k e : TypeId) (n : Int) (w : World) (ht : Try.prog.underlying t = some (.map k e)) : (Instr.makeMap t (some (.int .i64 n))).run Try.prog w = .ok (.map (some w.heap.size)) (w.alloc (.map #[] 0)) := by
  simp [Instr.makeMap, run_underlying ht, asInt, Result.andThen]
  rfl
def idKeys (l : List Plain.Sp) : List Lit := l.map fun x => .int .i64 x.i
def idSet (l : List Plain.Sp) : DataW Unit := setOf (.agg []) (idKeys l)
theorem idKeys_key (l : List Plain.Sp) : ∀ x ∈ idKeys l, WideAt.IsKeyLit x := by
  intro x hx
  obtain ⟨y, _, rfl⟩ := List.mem_map.1 hx
  trivial
theorem idSet_snoc (l : List Plain.Sp) (x : Plain.Sp) : idSet (l ++ [x]) = (idSet l).put (.int .i64 x.i) (.agg []) := by
  unfold idSet idKeys
  rw [List.map_append, List.map_singleton, setOf_snoc]
theorem idSet_has (l : List Plain.Sp) (i : Int) : has (idSet l) (.int .i64 i) = true ↔ i ∈ l.map Plain.Sp.i := by
  unfold idSet
  rw [has_setOf _ _ _ (idKeys_key l), List.any_eq_true]
  constructor
  · rintro ⟨x, hx, h⟩
    obtain ⟨y, hy, rfl⟩ := List.mem_map.1 hx
    have := (WideAt.sameKey_iff (b := .int .i64 i) trivial).1 h
    injection this with _ h2
    exact List.mem_map.2 ⟨y, hy, h2⟩
  · intro h
    obtain ⟨y, hy, rfl⟩ := List.mem_map.1 h
    exact ⟨_, List.mem_map.2 ⟨y, hy, rfl⟩, WideAt.sameKey_self (a := .int .i64 y.i) trivial⟩
theorem idSet_size (l : List Plain.Sp) : size (idSet l) ≤ l.length ∧ (size (idSet l) = l.length ↔ (l.map Plain.Sp.i).Nodup) := by
  induction l using Plain.snoc_ind with
  | h0 => exact ⟨Nat.le_refl _, by simp [idSet, idKeys, setOf, size]⟩
  | h1 l x ih =>
    obtain ⟨h1, h2⟩ := ih
    rw [idSet_snoc, size_put (show Tidy (idSet l) from tidy_setOf _ _ (idKeys_key l)), List.map_append, List.map_singleton, List.nodup_append, List.length_append]
    have h3 := idSet_has l x.i
    cases hh : has (idSet l) (.int .i64 x.i) with
    | true =>
      rw [hh] at h3
      have hm := h3.1 rfl
      refine ⟨by simp; omega, ?_⟩
      constructor
      · intro h; simp at h; omega
      · rintro ⟨_, _, h⟩; exact absurd rfl (h _ hm _ (by simp))
    | false =>
      rw [hh] at h3
      have hm : x.i ∉ l.map Plain.Sp.i := fun h => by cases h3.2 h
      refine ⟨by simp; omega, ?_⟩
      simp only [Bool.false_eq_true, if_false, List.length_singleton]
      constructor
      · intro h
        exact ⟨h2.1 (by omega), by simp, fun a ha b hb e => hm (by rw [List.mem_singleton.1 hb] at e; rwa [e] at ha)⟩
      · rintro ⟨h, _, _⟩
        have := h2.2 h
        omega
end Go.Proofs.Ythcchfhkeghkhaa

namespace Go.Proofs.Ythcchfhkeghkhaa
open Go.RowKit Go.Maps
set_option maxRecDepth 100000

theorem keyed64 : Keyed Try.prog 2 := int_keyed Try.underlying2
theorem zeroUnit (w : World) : (zeroValue 101).run Try.prog w = .ok (.agg #[]) w := by kernel_rfl
theorem lss_int (W : World) (a b : Int) (r : Bool) (h : decide (a < b) = r) : (binOp .lss 3 (.int .i64 a) (.int .i64 b)).run Try.prog W = .ok (.bool r) W := by
  subst h; go_simp
theorem gtr_int (W : World) (a b : Int) (r : Bool) (h : decide (b < a) = r) : (binOp .gtr 3 (.int .i64 a) (.int .i64 b)).run Try.prog W = .ok (.bool r) W := by
  subst h; go_simp
theorem sub_one (W : World) (k : Nat) (h : 0 < k) (h2 : k ≤ 1000000) : (binOp .sub 3 (.int .i64 (k : Int)) (.int .i64 1)).run Try.prog W = .ok (.int .i64 ((k - 1 : Nat) : Int)) W := by
  have : ((k - 1 : Nat) : Int) = (k : Int) - 1 := by omega
  rw [this]
  have hw : IntKind.i64.wrap ((k : Int) - 1) = (k : Int) - 1 := by simp [IntKind.wrap, IntKind.bits, IntKind.signed]; omega
  go_simp
theorem neq_i64 (W : World) (a b : Int) (r : Bool) (h : (a != b) = r) : (binOp .neq 2 (.int .i64 a) (.int .i64 b)).run Try.prog W = .ok (.bool r) W := by
  subst h; go_simp

theorem fits_any (k : Int) (w : World) (b : Bool) (hb : decide (1 ≤ k ∧ k ≤ 64) = b) : Calls Try.prog 54 #[.int .i64 k] w fun e w' => e = .returned (.bool b) ∧ w = w' := by
  have HB := Lib.hid hb
  clear hb
  by_cases h1 : 1 ≤ k
  · by_cases h2 : k ≤ 64
    · have hd : decide (k ≤ 64) = true := by simp [h2]
      go_enter Try.func54, Try.ntmps54
      go_wp2
      go_ret
      exact ⟨by rw [← HB.out]; simp [h1, h2], rfl⟩
    · have hd : decide (k ≤ 64) = false := by simp [h2]
      go_enter Try.func54, Try.ntmps54
      go_wp2
      go_ret
      exact ⟨by rw [← HB.out]; simp [h2], rfl⟩
  · go_enter Try.func54, Try.ntmps54
    go_wp2
    go_ret
    have hf := HB.out
    rw [decide_eq_false (by omega)] at hf
    exact ⟨by rw [← hf]; rfl, rfl⟩

theorem load_num_at {W : World} {a : Addr} {x : Int} (h : W.cell? a = some (.int .i64 x)) : (Instr.loadAt 2 (.pointer (some a))).run Try.prog W = .ok (.int .i64 x) W := by
  go_simp
theorem load_span_at {W : World} {a : Addr} {v0 v1 v2 v3 v4 v5 v6 : Value} (x0 : W.cell? a = some v0) (x1 : W.cell? ⟨a.block, a.off + 1, none⟩ = some v1) (x2 : W.cell? ⟨a.block, a.off + 2, none⟩ = some v2) (x3 : W.cell? ⟨a.block, a.off + 3, none⟩ = some v3) (x4 : W.cell? ⟨a.block, a.off + 4, none⟩ = some v4) (x5 : W.cell? ⟨a.block, a.off + 5, none⟩ = some v5) (x6 : W.cell? ⟨a.block, a.off + 6, none⟩ = some v6) : (Instr.loadAt 45 (.pointer (some a))).run Try.prog W = .ok (.agg #[v0, v1, v2, v3, v4, v5, v6]) W := by
  go_simp

/-- what is known of the first spans, where nothing was wrong so far -/
def Good (l : List Plain.Sp) (k : Nat) : Prop := (∀ x ∈ l.take k, x.right = true) ∧ (∀ x ∈ l.take k, x.t = (l.headD Plain.Sp.zero).t) ∧ (l.take k).Pairwise (fun a b => Plain.lt a b = true)
theorem good_zero (l : List Plain.Sp) : Good l 0 := ⟨by simp, by simp, by simp⟩
theorem good_step {l : List Plain.Sp} {k : Nat} (h : Good l k) (hk : k < l.length) (hr : l[k].right = true) (ht : l[k].t = (l.headD Plain.Sp.zero).t) (hl : ∀ j, j + 1 = k → (hj : j < l.length) → Plain.lt l[j] l[k] = true) : Good l (k + 1) := by
  obtain ⟨h1, h2, h3⟩ := h
  unfold Good
  rw [List.take_succ_eq_append_getElem hk]
  refine ⟨?_, ?_, ?_⟩
  · intro x hx; rcases List.mem_append.1 hx with hx | hx
    · exact h1 x hx
    · rw [List.mem_singleton.1 hx]; exact hr
  · intro x hx; rcases List.mem_append.1 hx with hx | hx
    · exact h2 x hx
    · rw [List.mem_singleton.1 hx]; exact ht
  · rw [List.pairwise_append]
    refine ⟨h3, by simp, ?_⟩
    intro a ha b hb
    rw [List.mem_singleton.1 hb]
    rcases k with _ | j
    · simp at ha
    have hj : j < l.length := by omega
    have hjk := hl j rfl hj
    rw [List.take_succ_eq_append_getElem hj] at ha h3
    rcases List.mem_append.1 ha with ha | ha
    · rw [List.pairwise_append] at h3
      have := h3.2.2 a ha l[j] (by simp)
      rw [Plain.lt_iff] at *; omega
    · rw [List.mem_singleton.1 ha]; exact hjk
theorem good_all {l : List Plain.Sp} (h : Good l l.length) (h1 : 1 ≤ l.length) (h2 : l.length ≤ 64) : Plain.isT l = decide ((l.map Plain.Sp.i).Nodup) := by
  obtain ⟨g1, g2, g3⟩ := h
  rw [List.take_length] at g1 g2 g3
  rw [Bool.eq_iff_iff, Plain.isT_iff, decide_eq_true_eq]
  refine ⟨fun h => h.1.2.2.2.2, fun h => ⟨⟨?_, h2, g1, fun x hx y hy => by rw [g2 x hx, g2 y hy], h⟩, g3⟩⟩
  intro e; subst e; simp at h1
theorem bad_right {l : List Plain.Sp} {k : Nat} (hk : k < l.length) (h : l[k].right = false) : Plain.isT l = false := by
  rw [Bool.eq_false_iff]; intro h1
  have := ((Plain.isT_iff l).1 h1).1.2.2.1 l[k] (List.getElem_mem hk)
  rw [h] at this; cases this
theorem bad_trace {l : List Plain.Sp} {k : Nat} (hk : k < l.length) (h : l[k].t ≠ (l.headD Plain.Sp.zero).t) : Plain.isT l = false := by
  rw [Bool.eq_false_iff]; intro h1
  have h2 := ((Plain.isT_iff l).1 h1).1
  exact h (h2.2.2.2.1 _ (List.getElem_mem hk) _ (Plain.head_mem h2.1))
theorem bad_order {l : List Plain.Sp} {j : Nat} (hk : j + 1 < l.length) (h : Plain.lt l[j] l[j + 1] = false) : Plain.isT l = false := by
  rw [Bool.eq_false_iff]; intro h1
  have h2 := ((Plain.isT_iff l).1 h1).2
  rw [List.pairwise_iff_getElem] at h2
  have := h2 j (j + 1) (by omega) hk (by omega)
  rw [h] at this; cases this
theorem head_at {l : List Plain.Sp} (h : 0 < l.length) : l.headD Plain.Sp.zero = l[0] := by
  rcases l with _ | ⟨x, r⟩
  · simp at h
  · rfl
end Go.Proofs.Ythcchfhkeghkhaa

namespace Go.Proofs.Ythcchfhkeghkhaa
open Go.RowKit Go.Maps
set_option maxRecDepth 100000

set_option maxHeartbeats 4000000 in
theorem tright_any (A : Option Addr) (n cap : Nat) (l : List Plain.Sp) (w : World) (hn : l.length = n) (_hm : n ≤ maxLen) (hA : Lies w A (flat l)) (hS : Fine l) :
    Calls Try.prog 57 #[.slice A n cap] w fun e w' => e = .returned (.bool (Plain.isT l)) ∧ Below w.heap.size w w' := by
  have hmm := fun (k : Int) (W : World) => run_makeMap_hint 100 2 101 k W Try.underlying100
  have HN := Lib.hid hn
  have HA := Lib.hid hA
  have HS := Lib.hid hS
  unfold maxLen at _hm
  by_cases h64 : 1 ≤ n ∧ n ≤ 64
  rotate_left
  · have HF := Lib.hid (show Plain.isT l = false by
      rcases Nat.lt_or_ge n 1 with h | h
      · exact Plain.isT_empty (by omega)
      · exact Plain.isT_long (by omega))
    clear hn hA hS
    go_enter Try.func57, Try.ntmps57
    go_wp2_with fail
    refine (fits_any n w false (by rw [decide_eq_false_iff_not]; omega)).mono ?_
    rintro e w' ⟨rfl, rfl⟩
    go_wp2
    go_ret
    exact ⟨by rw [HF.out]; rfl, Below.refl _ _⟩
  obtain ⟨h1, h2⟩ := h64
  clear hn hA hS
  go_enter Try.func57, Try.ntmps57
  go_wp2_with fail
  refine (fits_any n w true (by rw [decide_eq_true_eq]; omega)).mono ?_
  rintro e w' ⟨rfl, rfl⟩
  go_wp2
  go_loopw [15] (fun i wr => ∃ k : Nat, i = .int .i64 k ∧ k ≤ n ∧ Good l k ∧ wr.ownsMap Try.prog 2 unitElem w.heap.size k (idSet (l.take k)) ∧ w.heap.size < wr.heap.size ∧ Below w.heap.size w wr) (fun i _ => n - (intOf i).toNat)
  case atStart => exact ⟨0, rfl, Nat.zero_le _, good_zero l, World.ownsMap_made _ _ _ _, by simp, (Below.refl _ _).alloc (Nat.le_refl _) _⟩
  case round =>
    obtain ⟨k, rfl, hk, hgood, hown, hws, hbr⟩ := hrel
    have HG := Lib.hid hgood
    have HO := Lib.hid hown
    clear hgood hown
    by_cases hlt : k < n
    · have hkl : k < l.length := by rw [HN.out]; exact hlt
      have h0l : 0 < l.length := by omega
      obtain ⟨ad, rfl, hadb, hc⟩ := at_span HA.out k hkl
      obtain ⟨ad', had, -, hc0⟩ := at_span HA.out 0 h0l
      obtain rfl : ad = ad' := by injection had
      obtain ⟨x0, x1, x2, x3, x4, x5, x6⟩ := hc wr hbr
      obtain ⟨hxv, hxn⟩ := HS.out l[k] (List.getElem_mem hkl)
      have HT := Lib.hid (show idSet (l.take (k + 1)) = (idSet (l.take k)).put (.int .i64 l[k].i) (.agg []) by rw [List.take_succ_eq_append_getElem hkl, idSet_snoc])
      have HBR := Lib.hid (bad_right hkl)
      have HBT := Lib.hid (bad_trace hkl)
      have HGS := Lib.hid (good_step HG.out hkl)
      have HKY := Lib.hid (show l[k].right = true → (Lit.int .i64 l[k].i).wf = true from fun h => by
        have := (Plain.Sp.right_iff _).1 h
        exact WalkArith.wf_i64 (by omega))
      rw [head_at h0l] at HBT HGS
      have hR := sp_right l[k]
      rw [← str_size] at hxv hxn
      have HC0 := Lib.hid (fun (u : World) (h : Below w.heap.size w u) => (hc0 u h).1)
      have HPV := Lib.hid (show ∀ j, j + 1 = k → ∀ hj : j < l.length, ∃ y, y = l[j] ∧ (∀ u, Below w.heap.size w u → (Instr.loadAt 45 (.pointer (some (ad.add (j * 7))))).run Try.prog u = .ok (.agg #[.int .i64 y.t, .int .i64 y.i, .int .i64 y.p, .int .i64 y.s, .int .i64 y.d, .string (str y.sv), .string (str y.nm)]) u) ∧ (Plain.lt y l[k] = false → Plain.isT l = false) from fun j hjk hj => by
        subst hjk
        obtain ⟨ad2, had2, -, hcj⟩ := at_span HA.out j hj
        obtain rfl : ad = ad2 := by injection had2
        refine ⟨l[j], rfl, fun u hu => ?_, fun h => bad_order hkl h⟩
        obtain ⟨y0, y1, y2, y3, y4, y5, y6⟩ := hcj u hu
        exact load_span_at y0 y1 y2 y3 y4 y5 y6)
      clear hc hc0 had
      generalize l[0].t = zt at *
      have HXK := Lib.hid (show ∃ x, l[k] = x from ⟨_, rfl⟩)
      obtain ⟨x, hx⟩ := HXK.out
      rw [hx] at HT HBR HBT HKY hR x0 x1 x2 x3 x4 x5 x6 hxv hxn
      simp only [hx] at HGS HPV
      clear HXK hx
      obtain ⟨R, hRR⟩ : ∃ R, x.right = R := ⟨_, rfl⟩
      rw [hRR] at hR HBR HKY HGS
      have HR0 := Lib.hid hR
      clear hR hRR
      obtain ⟨xt, xi, xp, xs, xd, xv, xn⟩ := x
      simp only at *
      generalize str xv = XV at *
      generalize str xn = XN at *
      have bx := Blk.new wr #[.int .i64 xt, .int .i64 xi, .int .i64 xp, .int .i64 xs, .int .i64 xd, .string XV, .string XN] 45
      have cV : Below w.heap.size w (wr.alloc (.cells #[.int .i64 xt, .int .i64 xi, .int .i64 xp, .int .i64 xs, .int .i64 xd, .string XV, .string XN] 45)) := hbr.alloc hbr.size _
      have hbd : Below (wr.alloc (.cells #[.int .i64 xt, .int .i64 xi, .int .i64 xp, .int .i64 xs, .int .i64 xd, .string XV, .string XN] 45)).heap.size (wr.alloc (.cells #[.int .i64 xt, .int .i64 xi, .int .i64 xp, .int .i64 xs, .int .i64 xd, .string XV, .string XN] 45)) (wr.alloc (.cells #[.int .i64 xt, .int .i64 xi, .int .i64 xp, .int .i64 xs, .int .i64 xd, .string XV, .string XN] 45)).drew := (Below.refl _ _).drew
      have HOV := Lib.hid (HO.out.alloc (.cells #[.int .i64 xt, .int .i64 xi, .int .i64 xp, .int .i64 xs, .int .i64 xd, .string XV, .string XN] 45))
      have HR := Lib.hid (fun (W : World) => show Calls Try.prog 41 #[.agg #[.int .i64 xt, .int .i64 xi, .int .i64 xp, .int .i64 xs, .int .i64 xd, .string XV, .string XN]] W (fun e w' => e = .returned (.bool R) ∧ Below W.heap.size W w') by
        have := right_any xt xi xp xs xd XV XN W hxv hxn
        rwa [HR0.out] at this)
      have BX := Lib.hid (fun (W : World) (h : Below (wr.alloc (.cells #[.int .i64 xt, .int .i64 xi, .int .i64 xp, .int .i64 xs, .int .i64 xd, .string XV, .string XN] 45)).heap.size (wr.alloc (.cells #[.int .i64 xt, .int .i64 xi, .int .i64 xp, .int .i64 xs, .int .i64 xd, .string XV, .string XN] 45)) W) => (Kept.of h []).blk bx (by simp))
      have LX := Lib.hid (fun (W : World) (h : Below (wr.alloc (.cells #[.int .i64 xt, .int .i64 xi, .int .i64 xp, .int .i64 xs, .int .i64 xd, .string XV, .string XN] 45)).heap.size (wr.alloc (.cells #[.int .i64 xt, .int .i64 xi, .int .i64 xp, .int .i64 xs, .int .i64 xd, .string XV, .string XN] 45)) W) => load_span (BX.out W h))
      have LXT := Lib.hid (fun (W : World) (h : Below (wr.alloc (.cells #[.int .i64 xt, .int .i64 xi, .int .i64 xp, .int .i64 xs, .int .i64 xd, .string XV, .string XN] 45)).heap.size (wr.alloc (.cells #[.int .i64 xt, .int .i64 xi, .int .i64 xp, .int .i64 xs, .int .i64 xd, .string XV, .string XN] 45)) W) => load_num ((BX.out W h).cell 0))
      have LZT := Lib.hid (fun (W : World) (h : Below (wr.alloc (.cells #[.int .i64 xt, .int .i64 xi, .int .i64 xp, .int .i64 xs, .int .i64 xd, .string XV, .string XN] 45)).heap.size (wr.alloc (.cells #[.int .i64 xt, .int .i64 xi, .int .i64 xp, .int .i64 xs, .int .i64 xd, .string XV, .string XN] 45)) W) => load_num_at (HC0.out W (cV.trans (h.mono cV.size))))
      clear bx
      rcases R with _ | _
      · go_wp2
        refine wp_softS (by kernel_rfl) 56 [(20, [5]), (21, [20]), (22, [21]), (23, [22]), (24, [5, 23]), (25, [24, 23]), (26, [0, 23]), (27, [26, 23]), (28, [27, 23]), (29, [28, 23]), (30, [25, 29, 23]), (31, [23, 30]), (32, [31]), (33, [4, 32]), (34, [33, 32]), (35, [34, 32]), (36, [0, 35]), (37, [4, 35]), (38, [37, 35]), (39, [36, 38, 35]), (40, [39, 35]), (41, [5, 35]), (42, [40, 41, 35]), (43, [42, 35]), (44, [35, 43, 32]), (45, [32, 44])]
          [Fact.is (.agg #[.int .i64 xt, .int .i64 xi, .int .i64 xp, .int .i64 xs, .int .i64 xd, .string XV, .string XN]), Fact.is (.bool false), Fact.is (.bool true), Fact.is (.bool true), Fact.is (undef), Fact.is (undef), Fact.is (undef), Fact.is (undef), Fact.is (undef), Fact.is (undef), Fact.is (undef), Fact.is (.bool true), Fact.is (.bool true), Fact.is (undef), Fact.is (undef), Fact.is (undef), Fact.is (undef), Fact.is (undef), Fact.is (undef), Fact.is (undef), Fact.is (undef), Fact.is (undef), Fact.is (undef), Fact.is (undef), Fact.is (undef), Fact.is (.bool true)]
          (by kernel_rfl) rfl rfl ⟨?s0, ?s1, ?s2, ?s3, ?s4, ?s5, ?s6, ?s7, ?s8, ?s9, ?s10, ?s11, ?s12, ?s13, ?s14, ?s15, ?s16, ?s17, ?s18, ?s19, ?s20, ?s21, ?s22, ?s23, ?s24, ?s25, trivial⟩ ?fin
        case s0 =>
          intro ρ W hb hc hf hr
          obtain ⟨r5, -⟩ := hr
          have e5 : ρ (.tmp 5) = .pointer (some ⟨wr.heap.size, 0, none⟩) := r5
          clear r5
          refine under_none rfl ?_
          exact soft_load e5 (LX.out W (hbd.trans (hb.mono (by simp)))) rfl
        case s1 =>
          intro ρ W hb hc hf hr
          obtain ⟨r20, -⟩ := hr
          have e20 : ρ (.tmp 20) = .agg #[.int .i64 xt, .int .i64 xi, .int .i64 xp, .int .i64 xs, .int .i64 xd, .string XV, .string XN] := r20
          clear r20
          refine under_none rfl ?_
          exact soft_call1 hf e20 (HR.out W) rfl (by kernel_rfl) below_is
        case s2 =>
          intro ρ W hb hc hf hr
          obtain ⟨r21, -⟩ := hr
          have e21 : ρ (.tmp 21) = .bool false := r21
          clear r21
          refine under_none rfl ?_
          simp [execOp, e21, go_sem, softUpon, Fact.is, Below.refl]
        case s3 =>
          intro ρ W hb hc hf hr
          obtain ⟨r22, -⟩ := hr
          have e22 : ρ (.tmp 22) = .bool true := r22
          clear r22
          refine under_none rfl ?_
          exact ⟨e22, Below.refl _ _⟩
        case s4 =>
          intro ρ W hb hc hf hr
          obtain ⟨r5, r23, -⟩ := hr
          have e5 : ρ (.tmp 5) = .pointer (some ⟨wr.heap.size, 0, none⟩) := r5
          clear r5
          have e23 : ρ (.tmp 23) = .bool true := r23
          clear r23
          exact ⟨23, rfl, .inr (.inl ⟨e23, rfl⟩)⟩
        case s5 =>
          intro ρ W hb hc hf hr
          obtain ⟨r24, r23, -⟩ := hr
          have e24 : ρ (.tmp 24) = undef := r24
          clear r24
          have e23 : ρ (.tmp 23) = .bool true := r23
          clear r23
          exact ⟨23, rfl, .inr (.inl ⟨e23, rfl⟩)⟩
        case s6 =>
          intro ρ W hb hc hf hr
          obtain ⟨r0, r23, -⟩ := hr
          have e0 : ρ (.tmp 0) = .slice (some ad) n cap := r0
          clear r0
          have e23 : ρ (.tmp 23) = .bool true := r23
          clear r23
          exact ⟨23, rfl, .inr (.inl ⟨e23, rfl⟩)⟩
        case s7 =>
          intro ρ W hb hc hf hr
          obtain ⟨r26, r23, -⟩ := hr
          have e26 : ρ (.tmp 26) = undef := r26
          clear r26
          have e23 : ρ (.tmp 23) = .bool true := r23
          clear r23
          exact ⟨23, rfl, .inr (.inl ⟨e23, rfl⟩)⟩
        case s8 =>
          intro ρ W hb hc hf hr
          obtain ⟨r27, r23, -⟩ := hr
          have e27 : ρ (.tmp 27) = undef := r27
          clear r27
          have e23 : ρ (.tmp 23) = .bool true := r23
          clear r23
          exact ⟨23, rfl, .inr (.inl ⟨e23, rfl⟩)⟩
        case s9 =>
          intro ρ W hb hc hf hr
          obtain ⟨r28, r23, -⟩ := hr
          have e28 : ρ (.tmp 28) = undef := r28
          clear r28
          have e23 : ρ (.tmp 23) = .bool true := r23
          clear r23
          exact ⟨23, rfl, .inr (.inl ⟨e23, rfl⟩)⟩
        case s10 =>
          intro ρ W hb hc hf hr
          obtain ⟨r25, r29, r23, -⟩ := hr
          have e25 : ρ (.tmp 25) = undef := r25
          clear r25
          have e29 : ρ (.tmp 29) = undef := r29
          clear r29
          have e23 : ρ (.tmp 23) = .bool true := r23
          clear r23
          exact ⟨23, rfl, .inr (.inl ⟨e23, rfl⟩)⟩
        case s11 =>
          intro ρ W hb hc hf hr
          obtain ⟨r23, r30, -⟩ := hr
          have e23 : ρ (.tmp 23) = .bool true := r23
          clear r23
          have e30 : ρ (.tmp 30) = undef := r30
          clear r30
          refine under_none rfl ?_
          simp [execOp, e23, hc, go_sem, softUpon, Fact.is, Below.refl]
        case s12 =>
          intro ρ W hb hc hf hr
          obtain ⟨r31, -⟩ := hr
          have e31 : ρ (.tmp 31) = .bool true := r31
          clear r31
          refine under_none rfl ?_
          exact ⟨e31, Below.refl _ _⟩
        case s13 =>
          intro ρ W hb hc hf hr
          obtain ⟨r4, r32, -⟩ := hr
          have e4 : ρ (.tmp 4) = .int .i64 (k : Int) := r4
          clear r4
          have e32 : ρ (.tmp 32) = .bool true := r32
          clear r32
          exact ⟨32, rfl, .inr (.inl ⟨e32, rfl⟩)⟩
        case s14 =>
          intro ρ W hb hc hf hr
          obtain ⟨r33, r32, -⟩ := hr
          have e33 : ρ (.tmp 33) = undef := r33
          clear r33
          have e32 : ρ (.tmp 32) = .bool true := r32
          clear r32
          exact ⟨32, rfl, .inr (.inl ⟨e32, rfl⟩)⟩
        case s15 =>
          intro ρ W hb hc hf hr
          obtain ⟨r34, r32, -⟩ := hr
          have e34 : ρ (.tmp 34) = undef := r34
          clear r34
          have e32 : ρ (.tmp 32) = .bool true := r32
          clear r32
          exact ⟨32, rfl, .inr (.inl ⟨e32, rfl⟩)⟩
        case s16 =>
          intro ρ W hb hc hf hr
          obtain ⟨r0, r35, -⟩ := hr
          have e0 : ρ (.tmp 0) = .slice (some ad) n cap := r0
          clear r0
          have e35 : ρ (.tmp 35) = undef := r35
          clear r35
          exact ⟨35, rfl, .inr (.inr ⟨e35, rfl⟩)⟩
        case s17 =>
          intro ρ W hb hc hf hr
          obtain ⟨r4, r35, -⟩ := hr
          have e4 : ρ (.tmp 4) = .int .i64 (k : Int) := r4
          clear r4
          have e35 : ρ (.tmp 35) = undef := r35
          clear r35
          exact ⟨35, rfl, .inr (.inr ⟨e35, rfl⟩)⟩
        case s18 =>
          intro ρ W hb hc hf hr
          obtain ⟨r37, r35, -⟩ := hr
          have e37 : ρ (.tmp 37) = undef := r37
          clear r37
          have e35 : ρ (.tmp 35) = undef := r35
          clear r35
          exact ⟨35, rfl, .inr (.inr ⟨e35, rfl⟩)⟩
        case s19 =>
          intro ρ W hb hc hf hr
          obtain ⟨r36, r38, r35, -⟩ := hr
          have e36 : ρ (.tmp 36) = undef := r36
          clear r36
          have e38 : ρ (.tmp 38) = undef := r38
          clear r38
          have e35 : ρ (.tmp 35) = undef := r35
          clear r35
          exact ⟨35, rfl, .inr (.inr ⟨e35, rfl⟩)⟩
        case s20 =>
          intro ρ W hb hc hf hr
          obtain ⟨r39, r35, -⟩ := hr
          have e39 : ρ (.tmp 39) = undef := r39
          clear r39
          have e35 : ρ (.tmp 35) = undef := r35
          clear r35
          exact ⟨35, rfl, .inr (.inr ⟨e35, rfl⟩)⟩
        case s21 =>
          intro ρ W hb hc hf hr
          obtain ⟨r5, r35, -⟩ := hr
          have e5 : ρ (.tmp 5) = .pointer (some ⟨wr.heap.size, 0, none⟩) := r5
          clear r5
          have e35 : ρ (.tmp 35) = undef := r35
          clear r35
          exact ⟨35, rfl, .inr (.inr ⟨e35, rfl⟩)⟩
        case s22 =>
          intro ρ W hb hc hf hr
          obtain ⟨r40, r41, r35, -⟩ := hr
          have e40 : ρ (.tmp 40) = undef := r40
          clear r40
          have e41 : ρ (.tmp 41) = undef := r41
          clear r41
          have e35 : ρ (.tmp 35) = undef := r35
          clear r35
          exact ⟨35, rfl, .inr (.inr ⟨e35, rfl⟩)⟩
        case s23 =>
          intro ρ W hb hc hf hr
          obtain ⟨r42, r35, -⟩ := hr
          have e42 : ρ (.tmp 42) = undef := r42
          clear r42
          have e35 : ρ (.tmp 35) = undef := r35
          clear r35
          exact ⟨35, rfl, .inr (.inr ⟨e35, rfl⟩)⟩
        case s24 =>
          intro ρ W hb hc hf hr
          obtain ⟨r35, r43, r32, -⟩ := hr
          have e35 : ρ (.tmp 35) = undef := r35
          clear r35
          have e43 : ρ (.tmp 43) = undef := r43
          clear r43
          have e32 : ρ (.tmp 32) = .bool true := r32
          clear r32
          exact ⟨32, rfl, .inr (.inl ⟨e32, rfl⟩)⟩
        case s25 =>
          intro ρ W hb hc hf hr
          obtain ⟨r32, r44, -⟩ := hr
          have e32 : ρ (.tmp 32) = .bool true := r32
          clear r32
          have e44 : ρ (.tmp 44) = undef := r44
          clear r44
          refine under_none rfl ?_
          simp [execOp, e32, hc, go_sem, softUpon, Fact.is, Below.refl]
        case fin =>
          intro a w1 hb hd hsz hk
          have ea := act_puts hd hsz rfl hk
          have k20 : a.tmps.getD 20 undef = .agg #[.int .i64 xt, .int .i64 xi, .int .i64 xp, .int .i64 xs, .int .i64 xd, .string XV, .string XN] := hk 20
          have k21 : a.tmps.getD 21 undef = .bool false := hk 21
          have k22 : a.tmps.getD 22 undef = .bool true := hk 22
          have k23 : a.tmps.getD 23 undef = .bool true := hk 23
          have k24 : a.tmps.getD 24 undef = undef := hk 24
          have k25 : a.tmps.getD 25 undef = undef := hk 25
          have k26 : a.tmps.getD 26 undef = undef := hk 26
          have k27 : a.tmps.getD 27 undef = undef := hk 27
          have k28 : a.tmps.getD 28 undef = undef := hk 28
          have k29 : a.tmps.getD 29 undef = undef := hk 29
          have k30 : a.tmps.getD 30 undef = undef := hk 30
          have k31 : a.tmps.getD 31 undef = .bool true := hk 31
          have k32 : a.tmps.getD 32 undef = .bool true := hk 32
          have k33 : a.tmps.getD 33 undef = undef := hk 33
          have k34 : a.tmps.getD 34 undef = undef := hk 34
          have k35 : a.tmps.getD 35 undef = undef := hk 35
          have k36 : a.tmps.getD 36 undef = undef := hk 36
          have k37 : a.tmps.getD 37 undef = undef := hk 37
          have k38 : a.tmps.getD 38 undef = undef := hk 38
          have k39 : a.tmps.getD 39 undef = undef := hk 39
          have k40 : a.tmps.getD 40 undef = undef := hk 40
          have k41 : a.tmps.getD 41 undef = undef := hk 41
          have k42 : a.tmps.getD 42 undef = undef := hk 42
          have k43 : a.tmps.getD 43 undef = undef := hk 43
          have k44 : a.tmps.getD 44 undef = undef := hk 44
          have k45 : a.tmps.getD 45 undef = .bool true := hk 45
          clear hk hd hsz
          simp only [List.map_cons, List.map_nil, List.foldl_cons, List.foldl_nil, k20, k21, k22, k23, k24, k25, k26, k27, k28, k29, k30, k31, k32, k33, k34, k35, k36, k37, k38, k39, k40, k41, k42, k43, k44, k45] at ea
          clear k20 k21 k22 k23 k24 k25 k26 k27 k28 k29 k30 k31 k32 k33 k34 k35 k36 k37 k38 k39 k40 k41 k42 k43 k44 k45
          simp only [Act.put, List.setIfInBounds_toArray, List.set_cons_succ, List.set_cons_zero] at ea
          subst ea
          go_wp2
          go_ret
          exact ⟨by rw [HBR.out (by trivial)]; rfl, cV.trans ((hbd.trans (hb.mono (by simp))).mono cV.size)⟩
      by_cases htz : xt = zt
      rotate_left
      · have NET := Lib.hid (fun (W : World) => neq_i64 W xt zt true (by simp [htz]))
        have HTZ := Lib.hid htz
        clear htz
        go_wp2
        refine wp_softS (by kernel_rfl) 56 [(20, [5]), (21, [20]), (22, [21]), (23, [22]), (24, [5, 23]), (25, [24, 23]), (26, [0, 23]), (27, [26, 23]), (28, [27, 23]), (29, [28, 23]), (30, [25, 29, 23]), (31, [23, 30]), (32, [31]), (33, [4, 32]), (34, [33, 32]), (35, [34, 32]), (36, [0, 35]), (37, [4, 35]), (38, [37, 35]), (39, [36, 38, 35]), (40, [39, 35]), (41, [5, 35]), (42, [40, 41, 35]), (43, [42, 35]), (44, [35, 43, 32]), (45, [32, 44])]
          [Fact.is (.agg #[.int .i64 xt, .int .i64 xi, .int .i64 xp, .int .i64 xs, .int .i64 xd, .string XV, .string XN]), Fact.is (.bool true), Fact.is (.bool false), Fact.is (.bool false), Fact.is (.pointer (some ⟨wr.heap.size, 0, none⟩)), Fact.is (.int .i64 xt), Fact.is (.slice (some ad) n cap), Fact.is (.pointer (some (Addr.add ad (0 * 7)))), Fact.is (.pointer (some (Addr.add ad (0 * 7)))), Fact.is (.int .i64 zt), Fact.is (.bool true), Fact.is (.bool true), Fact.is (.bool true), Fact.is (undef), Fact.is (undef), Fact.is (undef), Fact.is (undef), Fact.is (undef), Fact.is (undef), Fact.is (undef), Fact.is (undef), Fact.is (undef), Fact.is (undef), Fact.is (undef), Fact.is (undef), Fact.is (.bool true)]
          (by kernel_rfl) rfl rfl ⟨?s0, ?s1, ?s2, ?s3, ?s4, ?s5, ?s6, ?s7, ?s8, ?s9, ?s10, ?s11, ?s12, ?s13, ?s14, ?s15, ?s16, ?s17, ?s18, ?s19, ?s20, ?s21, ?s22, ?s23, ?s24, ?s25, trivial⟩ ?fin
        case s0 =>
          intro ρ W hb hc hf hr
          obtain ⟨r5, -⟩ := hr
          have e5 : ρ (.tmp 5) = .pointer (some ⟨wr.heap.size, 0, none⟩) := r5
          clear r5
          refine under_none rfl ?_
          exact soft_load e5 (LX.out W (hbd.trans (hb.mono (by simp)))) rfl
        case s1 =>
          intro ρ W hb hc hf hr
          obtain ⟨r20, -⟩ := hr
          have e20 : ρ (.tmp 20) = .agg #[.int .i64 xt, .int .i64 xi, .int .i64 xp, .int .i64 xs, .int .i64 xd, .string XV, .string XN] := r20
          clear r20
          refine under_none rfl ?_
          exact soft_call1 hf e20 (HR.out W) rfl (by kernel_rfl) below_is
        case s2 =>
          intro ρ W hb hc hf hr
          obtain ⟨r21, -⟩ := hr
          have e21 : ρ (.tmp 21) = .bool true := r21
          clear r21
          refine under_none rfl ?_
          simp [execOp, e21, go_sem, softUpon, Fact.is, Below.refl]
        case s3 =>
          intro ρ W hb hc hf hr
          obtain ⟨r22, -⟩ := hr
          have e22 : ρ (.tmp 22) = .bool false := r22
          clear r22
          refine under_none rfl ?_
          exact ⟨e22, Below.refl _ _⟩
        case s4 =>
          intro ρ W hb hc hf hr
          obtain ⟨r5, r23, -⟩ := hr
          have e5 : ρ (.tmp 5) = .pointer (some ⟨wr.heap.size, 0, none⟩) := r5
          clear r5
          have e23 : ρ (.tmp 23) = .bool false := r23
          clear r23
          refine ⟨23, rfl, .inl ⟨e23, ?_⟩⟩
          exact soft_field e5 rfl (fun W => by go_simp)
        case s5 =>
          intro ρ W hb hc hf hr
          obtain ⟨r24, r23, -⟩ := hr
          have e24 : ρ (.tmp 24) = .pointer (some ⟨wr.heap.size, 0, none⟩) := r24
          clear r24
          have e23 : ρ (.tmp 23) = .bool false := r23
          clear r23
          refine ⟨23, rfl, .inl ⟨e23, ?_⟩⟩
          exact soft_load e24 (LXT.out W (hbd.trans (hb.mono (by simp)))) rfl
        case s6 =>
          intro ρ W hb hc hf hr
          obtain ⟨r0, r23, -⟩ := hr
          have e0 : ρ (.tmp 0) = .slice (some ad) n cap := r0
          clear r0
          have e23 : ρ (.tmp 23) = .bool false := r23
          clear r23
          refine ⟨23, rfl, .inl ⟨e23, ?_⟩⟩
          exact ⟨e0, Below.refl _ _⟩
        case s7 =>
          intro ρ W hb hc hf hr
          obtain ⟨r26, r23, -⟩ := hr
          have e26 : ρ (.tmp 26) = .slice (some ad) n cap := r26
          clear r26
          have e23 : ρ (.tmp 23) = .bool false := r23
          clear r23
          refine ⟨23, rfl, .inl ⟨e23, ?_⟩⟩
          exact soft_index7 e26 (hc _) (by omega) rfl
        case s8 =>
          intro ρ W hb hc hf hr
          obtain ⟨r27, r23, -⟩ := hr
          have e27 : ρ (.tmp 27) = .pointer (some (Addr.add ad (0 * 7))) := r27
          clear r27
          have e23 : ρ (.tmp 23) = .bool false := r23
          clear r23
          refine ⟨23, rfl, .inl ⟨e23, ?_⟩⟩
          exact soft_field e27 rfl (fun W => by go_simp)
        case s9 =>
          intro ρ W hb hc hf hr
          obtain ⟨r28, r23, -⟩ := hr
          have e28 : ρ (.tmp 28) = .pointer (some (Addr.add ad (0 * 7))) := r28
          clear r28
          have e23 : ρ (.tmp 23) = .bool false := r23
          clear r23
          refine ⟨23, rfl, .inl ⟨e23, ?_⟩⟩
          exact soft_load e28 (LZT.out W (hbd.trans (hb.mono (by simp)))) rfl
        case s10 =>
          intro ρ W hb hc hf hr
          obtain ⟨r25, r29, r23, -⟩ := hr
          have e25 : ρ (.tmp 25) = .int .i64 xt := r25
          clear r25
          have e29 : ρ (.tmp 29) = .int .i64 zt := r29
          clear r29
          have e23 : ρ (.tmp 23) = .bool false := r23
          clear r23
          refine ⟨23, rfl, .inl ⟨e23, ?_⟩⟩
          exact soft_bin e25 e29 rfl rfl (NET.out W)
        case s11 =>
          intro ρ W hb hc hf hr
          obtain ⟨r23, r30, -⟩ := hr
          have e23 : ρ (.tmp 23) = .bool false := r23
          clear r23
          have e30 : ρ (.tmp 30) = .bool true := r30
          clear r30
          refine under_none rfl ?_
          simp [execOp, e23, e30, go_sem, softUpon, Fact.is, Below.refl]
        case s12 =>
          intro ρ W hb hc hf hr
          obtain ⟨r31, -⟩ := hr
          have e31 : ρ (.tmp 31) = .bool true := r31
          clear r31
          refine under_none rfl ?_
          exact ⟨e31, Below.refl _ _⟩
        case s13 =>
          intro ρ W hb hc hf hr
          obtain ⟨r4, r32, -⟩ := hr
          have e4 : ρ (.tmp 4) = .int .i64 (k : Int) := r4
          clear r4
          have e32 : ρ (.tmp 32) = .bool true := r32
          clear r32
          exact ⟨32, rfl, .inr (.inl ⟨e32, rfl⟩)⟩
        case s14 =>
          intro ρ W hb hc hf hr
          obtain ⟨r33, r32, -⟩ := hr
          have e33 : ρ (.tmp 33) = undef := r33
          clear r33
          have e32 : ρ (.tmp 32) = .bool true := r32
          clear r32
          exact ⟨32, rfl, .inr (.inl ⟨e32, rfl⟩)⟩
        case s15 =>
          intro ρ W hb hc hf hr
          obtain ⟨r34, r32, -⟩ := hr
          have e34 : ρ (.tmp 34) = undef := r34
          clear r34
          have e32 : ρ (.tmp 32) = .bool true := r32
          clear r32
          exact ⟨32, rfl, .inr (.inl ⟨e32, rfl⟩)⟩
        case s16 =>
          intro ρ W hb hc hf hr
          obtain ⟨r0, r35, -⟩ := hr
          have e0 : ρ (.tmp 0) = .slice (some ad) n cap := r0
          clear r0
          have e35 : ρ (.tmp 35) = undef := r35
          clear r35
          exact ⟨35, rfl, .inr (.inr ⟨e35, rfl⟩)⟩
        case s17 =>
          intro ρ W hb hc hf hr
          obtain ⟨r4, r35, -⟩ := hr
          have e4 : ρ (.tmp 4) = .int .i64 (k : Int) := r4
          clear r4
          have e35 : ρ (.tmp 35) = undef := r35
          clear r35
          exact ⟨35, rfl, .inr (.inr ⟨e35, rfl⟩)⟩
        case s18 =>
          intro ρ W hb hc hf hr
          obtain ⟨r37, r35, -⟩ := hr
          have e37 : ρ (.tmp 37) = undef := r37
          clear r37
          have e35 : ρ (.tmp 35) = undef := r35
          clear r35
          exact ⟨35, rfl, .inr (.inr ⟨e35, rfl⟩)⟩
        case s19 =>
          intro ρ W hb hc hf hr
          obtain ⟨r36, r38, r35, -⟩ := hr
          have e36 : ρ (.tmp 36) = undef := r36
          clear r36
          have e38 : ρ (.tmp 38) = undef := r38
          clear r38
          have e35 : ρ (.tmp 35) = undef := r35
          clear r35
          exact ⟨35, rfl, .inr (.inr ⟨e35, rfl⟩)⟩
        case s20 =>
          intro ρ W hb hc hf hr
          obtain ⟨r39, r35, -⟩ := hr
          have e39 : ρ (.tmp 39) = undef := r39
          clear r39
          have e35 : ρ (.tmp 35) = undef := r35
          clear r35
          exact ⟨35, rfl, .inr (.inr ⟨e35, rfl⟩)⟩
        case s21 =>
          intro ρ W hb hc hf hr
          obtain ⟨r5, r35, -⟩ := hr
          have e5 : ρ (.tmp 5) = .pointer (some ⟨wr.heap.size, 0, none⟩) := r5
          clear r5
          have e35 : ρ (.tmp 35) = undef := r35
          clear r35
          exact ⟨35, rfl, .inr (.inr ⟨e35, rfl⟩)⟩
        case s22 =>
          intro ρ W hb hc hf hr
          obtain ⟨r40, r41, r35, -⟩ := hr
          have e40 : ρ (.tmp 40) = undef := r40
          clear r40
          have e41 : ρ (.tmp 41) = undef := r41
          clear r41
          have e35 : ρ (.tmp 35) = undef := r35
          clear r35
          exact ⟨35, rfl, .inr (.inr ⟨e35, rfl⟩)⟩
        case s23 =>
          intro ρ W hb hc hf hr
          obtain ⟨r42, r35, -⟩ := hr
          have e42 : ρ (.tmp 42) = undef := r42
          clear r42
          have e35 : ρ (.tmp 35) = undef := r35
          clear r35
          exact ⟨35, rfl, .inr (.inr ⟨e35, rfl⟩)⟩
        case s24 =>
          intro ρ W hb hc hf hr
          obtain ⟨r35, r43, r32, -⟩ := hr
          have e35 : ρ (.tmp 35) = undef := r35
          clear r35
          have e43 : ρ (.tmp 43) = undef := r43
          clear r43
          have e32 : ρ (.tmp 32) = .bool true := r32
          clear r32
          exact ⟨32, rfl, .inr (.inl ⟨e32, rfl⟩)⟩
        case s25 =>
          intro ρ W hb hc hf hr
          obtain ⟨r32, r44, -⟩ := hr
          have e32 : ρ (.tmp 32) = .bool true := r32
          clear r32
          have e44 : ρ (.tmp 44) = undef := r44
          clear r44
          refine under_none rfl ?_
          simp [execOp, e32, hc, go_sem, softUpon, Fact.is, Below.refl]
        case fin =>
          intro a w1 hb hd hsz hk
          have ea := act_puts hd hsz rfl hk
          have k20 : a.tmps.getD 20 undef = .agg #[.int .i64 xt, .int .i64 xi, .int .i64 xp, .int .i64 xs, .int .i64 xd, .string XV, .string XN] := hk 20
          have k21 : a.tmps.getD 21 undef = .bool true := hk 21
          have k22 : a.tmps.getD 22 undef = .bool false := hk 22
          have k23 : a.tmps.getD 23 undef = .bool false := hk 23
          have k24 : a.tmps.getD 24 undef = .pointer (some ⟨wr.heap.size, 0, none⟩) := hk 24
          have k25 : a.tmps.getD 25 undef = .int .i64 xt := hk 25
          have k26 : a.tmps.getD 26 undef = .slice (some ad) n cap := hk 26
          have k27 : a.tmps.getD 27 undef = .pointer (some (Addr.add ad (0 * 7))) := hk 27
          have k28 : a.tmps.getD 28 undef = .pointer (some (Addr.add ad (0 * 7))) := hk 28
          have k29 : a.tmps.getD 29 undef = .int .i64 zt := hk 29
          have k30 : a.tmps.getD 30 undef = .bool true := hk 30
          have k31 : a.tmps.getD 31 undef = .bool true := hk 31
          have k32 : a.tmps.getD 32 undef = .bool true := hk 32
          have k33 : a.tmps.getD 33 undef = undef := hk 33
          have k34 : a.tmps.getD 34 undef = undef := hk 34
          have k35 : a.tmps.getD 35 undef = undef := hk 35
          have k36 : a.tmps.getD 36 undef = undef := hk 36
          have k37 : a.tmps.getD 37 undef = undef := hk 37
          have k38 : a.tmps.getD 38 undef = undef := hk 38
          have k39 : a.tmps.getD 39 undef = undef := hk 39
          have k40 : a.tmps.getD 40 undef = undef := hk 40
          have k41 : a.tmps.getD 41 undef = undef := hk 41
          have k42 : a.tmps.getD 42 undef = undef := hk 42
          have k43 : a.tmps.getD 43 undef = undef := hk 43
          have k44 : a.tmps.getD 44 undef = undef := hk 44
          have k45 : a.tmps.getD 45 undef = .bool true := hk 45
          clear hk hd hsz
          simp only [List.map_cons, List.map_nil, List.foldl_cons, List.foldl_nil, k20, k21, k22, k23, k24, k25, k26, k27, k28, k29, k30, k31, k32, k33, k34, k35, k36, k37, k38, k39, k40, k41, k42, k43, k44, k45] at ea
          clear k20 k21 k22 k23 k24 k25 k26 k27 k28 k29 k30 k31 k32 k33 k34 k35 k36 k37 k38 k39 k40 k41 k42 k43 k44 k45
          simp only [Act.put, List.setIfInBounds_toArray, List.set_cons_succ, List.set_cons_zero] at ea
          subst ea
          go_wp2
          go_ret
          exact ⟨by rw [HBT.out HTZ.out]; rfl, cV.trans ((hbd.trans (hb.mono (by simp))).mono cV.size)⟩
      have NET := Lib.hid (fun (W : World) => neq_i64 W xt zt false (by simp [htz]))
      have hkey : keyOf Try.prog 2 (.int .i64 xi) = some (.int .i64 xi) := keyOf_int_mk Try.underlying2 (HKY.out (by trivial))
      by_cases hk0 : k = 0
      · have GT0 := Lib.hid (fun (W : World) => gtr_int W (k : Int) 0 false (by simp; omega))
        have HGN := Lib.hid (HGS.out (by trivial) htz (fun j hj => by omega))
        clear hk0 htz
        go_wp2
        refine wp_softS (by kernel_rfl) 56 [(20, [5]), (21, [20]), (22, [21]), (23, [22]), (24, [5, 23]), (25, [24, 23]), (26, [0, 23]), (27, [26, 23]), (28, [27, 23]), (29, [28, 23]), (30, [25, 29, 23]), (31, [23, 30]), (32, [31]), (33, [4, 32]), (34, [33, 32]), (35, [34, 32]), (36, [0, 35]), (37, [4, 35]), (38, [37, 35]), (39, [36, 38, 35]), (40, [39, 35]), (41, [5, 35]), (42, [40, 41, 35]), (43, [42, 35]), (44, [35, 43, 32]), (45, [32, 44])]
          [Fact.is (.agg #[.int .i64 xt, .int .i64 xi, .int .i64 xp, .int .i64 xs, .int .i64 xd, .string XV, .string XN]), Fact.is (.bool true), Fact.is (.bool false), Fact.is (.bool false), Fact.is (.pointer (some ⟨wr.heap.size, 0, none⟩)), Fact.is (.int .i64 xt), Fact.is (.slice (some ad) n cap), Fact.is (.pointer (some (Addr.add ad (0 * 7)))), Fact.is (.pointer (some (Addr.add ad (0 * 7)))), Fact.is (.int .i64 zt), Fact.is (.bool false), Fact.is (.bool false), Fact.is (.bool false), Fact.is (.int .i64 (k : Int)), Fact.is (.bool false), Fact.is (.bool false), Fact.is (undef), Fact.is (undef), Fact.is (undef), Fact.is (undef), Fact.is (undef), Fact.is (undef), Fact.is (undef), Fact.is (undef), Fact.is (.bool false), Fact.is (.bool false)]
          (by kernel_rfl) rfl rfl ⟨?s0, ?s1, ?s2, ?s3, ?s4, ?s5, ?s6, ?s7, ?s8, ?s9, ?s10, ?s11, ?s12, ?s13, ?s14, ?s15, ?s16, ?s17, ?s18, ?s19, ?s20, ?s21, ?s22, ?s23, ?s24, ?s25, trivial⟩ ?fin
        case s0 =>
          intro ρ W hb hc hf hr
          obtain ⟨r5, -⟩ := hr
          have e5 : ρ (.tmp 5) = .pointer (some ⟨wr.heap.size, 0, none⟩) := r5
          clear r5
          refine under_none rfl ?_
          exact soft_load e5 (LX.out W (hbd.trans (hb.mono (by simp)))) rfl
        case s1 =>
          intro ρ W hb hc hf hr
          obtain ⟨r20, -⟩ := hr
          have e20 : ρ (.tmp 20) = .agg #[.int .i64 xt, .int .i64 xi, .int .i64 xp, .int .i64 xs, .int .i64 xd, .string XV, .string XN] := r20
          clear r20
          refine under_none rfl ?_
          exact soft_call1 hf e20 (HR.out W) rfl (by kernel_rfl) below_is
        case s2 =>
          intro ρ W hb hc hf hr
          obtain ⟨r21, -⟩ := hr
          have e21 : ρ (.tmp 21) = .bool true := r21
          clear r21
          refine under_none rfl ?_
          simp [execOp, e21, go_sem, softUpon, Fact.is, Below.refl]
        case s3 =>
          intro ρ W hb hc hf hr
          obtain ⟨r22, -⟩ := hr
          have e22 : ρ (.tmp 22) = .bool false := r22
          clear r22
          refine under_none rfl ?_
          exact ⟨e22, Below.refl _ _⟩
        case s4 =>
          intro ρ W hb hc hf hr
          obtain ⟨r5, r23, -⟩ := hr
          have e5 : ρ (.tmp 5) = .pointer (some ⟨wr.heap.size, 0, none⟩) := r5
          clear r5
          have e23 : ρ (.tmp 23) = .bool false := r23
          clear r23
          refine ⟨23, rfl, .inl ⟨e23, ?_⟩⟩
          exact soft_field e5 rfl (fun W => by go_simp)
        case s5 =>
          intro ρ W hb hc hf hr
          obtain ⟨r24, r23, -⟩ := hr
          have e24 : ρ (.tmp 24) = .pointer (some ⟨wr.heap.size, 0, none⟩) := r24
          clear r24
          have e23 : ρ (.tmp 23) = .bool false := r23
          clear r23
          refine ⟨23, rfl, .inl ⟨e23, ?_⟩⟩
          exact soft_load e24 (LXT.out W (hbd.trans (hb.mono (by simp)))) rfl
        case s6 =>
          intro ρ W hb hc hf hr
          obtain ⟨r0, r23, -⟩ := hr
          have e0 : ρ (.tmp 0) = .slice (some ad) n cap := r0
          clear r0
          have e23 : ρ (.tmp 23) = .bool false := r23
          clear r23
          refine ⟨23, rfl, .inl ⟨e23, ?_⟩⟩
          exact ⟨e0, Below.refl _ _⟩
        case s7 =>
          intro ρ W hb hc hf hr
          obtain ⟨r26, r23, -⟩ := hr
          have e26 : ρ (.tmp 26) = .slice (some ad) n cap := r26
          clear r26
          have e23 : ρ (.tmp 23) = .bool false := r23
          clear r23
          refine ⟨23, rfl, .inl ⟨e23, ?_⟩⟩
          exact soft_index7 e26 (hc _) (by omega) rfl
        case s8 =>
          intro ρ W hb hc hf hr
          obtain ⟨r27, r23, -⟩ := hr
          have e27 : ρ (.tmp 27) = .pointer (some (Addr.add ad (0 * 7))) := r27
          clear r27
          have e23 : ρ (.tmp 23) = .bool false := r23
          clear r23
          refine ⟨23, rfl, .inl ⟨e23, ?_⟩⟩
          exact soft_field e27 rfl (fun W => by go_simp)
        case s9 =>
          intro ρ W hb hc hf hr
          obtain ⟨r28, r23, -⟩ := hr
          have e28 : ρ (.tmp 28) = .pointer (some (Addr.add ad (0 * 7))) := r28
          clear r28
          have e23 : ρ (.tmp 23) = .bool false := r23
          clear r23
          refine ⟨23, rfl, .inl ⟨e23, ?_⟩⟩
          exact soft_load e28 (LZT.out W (hbd.trans (hb.mono (by simp)))) rfl
        case s10 =>
          intro ρ W hb hc hf hr
          obtain ⟨r25, r29, r23, -⟩ := hr
          have e25 : ρ (.tmp 25) = .int .i64 xt := r25
          clear r25
          have e29 : ρ (.tmp 29) = .int .i64 zt := r29
          clear r29
          have e23 : ρ (.tmp 23) = .bool false := r23
          clear r23
          refine ⟨23, rfl, .inl ⟨e23, ?_⟩⟩
          exact soft_bin e25 e29 rfl rfl (NET.out W)
        case s11 =>
          intro ρ W hb hc hf hr
          obtain ⟨r23, r30, -⟩ := hr
          have e23 : ρ (.tmp 23) = .bool false := r23
          clear r23
          have e30 : ρ (.tmp 30) = .bool false := r30
          clear r30
          refine under_none rfl ?_
          simp [execOp, e23, e30, go_sem, softUpon, Fact.is, Below.refl]
        case s12 =>
          intro ρ W hb hc hf hr
          obtain ⟨r31, -⟩ := hr
          have e31 : ρ (.tmp 31) = .bool false := r31
          clear r31
          refine under_none rfl ?_
          exact ⟨e31, Below.refl _ _⟩
        case s13 =>
          intro ρ W hb hc hf hr
          obtain ⟨r4, r32, -⟩ := hr
          have e4 : ρ (.tmp 4) = .int .i64 (k : Int) := r4
          clear r4
          have e32 : ρ (.tmp 32) = .bool false := r32
          clear r32
          refine ⟨32, rfl, .inl ⟨e32, ?_⟩⟩
          exact ⟨e4, Below.refl _ _⟩
        case s14 =>
          intro ρ W hb hc hf hr
          obtain ⟨r33, r32, -⟩ := hr
          have e33 : ρ (.tmp 33) = .int .i64 (k : Int) := r33
          clear r33
          have e32 : ρ (.tmp 32) = .bool false := r32
          clear r32
          refine ⟨32, rfl, .inl ⟨e32, ?_⟩⟩
          exact soft_bin e33 (hc _) rfl rfl (GT0.out W)
        case s15 =>
          intro ρ W hb hc hf hr
          obtain ⟨r34, r32, -⟩ := hr
          have e34 : ρ (.tmp 34) = .bool false := r34
          clear r34
          have e32 : ρ (.tmp 32) = .bool false := r32
          clear r32
          refine ⟨32, rfl, .inl ⟨e32, ?_⟩⟩
          exact ⟨e34, Below.refl _ _⟩
        case s16 =>
          intro ρ W hb hc hf hr
          obtain ⟨r0, r35, -⟩ := hr
          have e0 : ρ (.tmp 0) = .slice (some ad) n cap := r0
          clear r0
          have e35 : ρ (.tmp 35) = .bool false := r35
          clear r35
          exact ⟨35, rfl, .inr (.inl ⟨e35, rfl⟩)⟩
        case s17 =>
          intro ρ W hb hc hf hr
          obtain ⟨r4, r35, -⟩ := hr
          have e4 : ρ (.tmp 4) = .int .i64 (k : Int) := r4
          clear r4
          have e35 : ρ (.tmp 35) = .bool false := r35
          clear r35
          exact ⟨35, rfl, .inr (.inl ⟨e35, rfl⟩)⟩
        case s18 =>
          intro ρ W hb hc hf hr
          obtain ⟨r37, r35, -⟩ := hr
          have e37 : ρ (.tmp 37) = undef := r37
          clear r37
          have e35 : ρ (.tmp 35) = .bool false := r35
          clear r35
          exact ⟨35, rfl, .inr (.inl ⟨e35, rfl⟩)⟩
        case s19 =>
          intro ρ W hb hc hf hr
          obtain ⟨r36, r38, r35, -⟩ := hr
          have e36 : ρ (.tmp 36) = undef := r36
          clear r36
          have e38 : ρ (.tmp 38) = undef := r38
          clear r38
          have e35 : ρ (.tmp 35) = .bool false := r35
          clear r35
          exact ⟨35, rfl, .inr (.inl ⟨e35, rfl⟩)⟩
        case s20 =>
          intro ρ W hb hc hf hr
          obtain ⟨r39, r35, -⟩ := hr
          have e39 : ρ (.tmp 39) = undef := r39
          clear r39
          have e35 : ρ (.tmp 35) = .bool false := r35
          clear r35
          exact ⟨35, rfl, .inr (.inl ⟨e35, rfl⟩)⟩
        case s21 =>
          intro ρ W hb hc hf hr
          obtain ⟨r5, r35, -⟩ := hr
          have e5 : ρ (.tmp 5) = .pointer (some ⟨wr.heap.size, 0, none⟩) := r5
          clear r5
          have e35 : ρ (.tmp 35) = .bool false := r35
          clear r35
          exact ⟨35, rfl, .inr (.inl ⟨e35, rfl⟩)⟩
        case s22 =>
          intro ρ W hb hc hf hr
          obtain ⟨r40, r41, r35, -⟩ := hr
          have e40 : ρ (.tmp 40) = undef := r40
          clear r40
          have e41 : ρ (.tmp 41) = undef := r41
          clear r41
          have e35 : ρ (.tmp 35) = .bool false := r35
          clear r35
          exact ⟨35, rfl, .inr (.inl ⟨e35, rfl⟩)⟩
        case s23 =>
          intro ρ W hb hc hf hr
          obtain ⟨r42, r35, -⟩ := hr
          have e42 : ρ (.tmp 42) = undef := r42
          clear r42
          have e35 : ρ (.tmp 35) = .bool false := r35
          clear r35
          exact ⟨35, rfl, .inr (.inl ⟨e35, rfl⟩)⟩
        case s24 =>
          intro ρ W hb hc hf hr
          obtain ⟨r35, r43, r32, -⟩ := hr
          have e35 : ρ (.tmp 35) = .bool false := r35
          clear r35
          have e43 : ρ (.tmp 43) = undef := r43
          clear r43
          have e32 : ρ (.tmp 32) = .bool false := r32
          clear r32
          refine ⟨32, rfl, .inl ⟨e32, ?_⟩⟩
          simp [execOp, e35, hc, go_sem, softUpon, Fact.is, Below.refl]
        case s25 =>
          intro ρ W hb hc hf hr
          obtain ⟨r32, r44, -⟩ := hr
          have e32 : ρ (.tmp 32) = .bool false := r32
          clear r32
          have e44 : ρ (.tmp 44) = .bool false := r44
          clear r44
          refine under_none rfl ?_
          simp [execOp, e32, e44, go_sem, softUpon, Fact.is, Below.refl]
        case fin =>
          intro a w1 hb hd hsz hk
          have ea := act_puts hd hsz rfl hk
          have k20 : a.tmps.getD 20 undef = .agg #[.int .i64 xt, .int .i64 xi, .int .i64 xp, .int .i64 xs, .int .i64 xd, .string XV, .string XN] := hk 20
          have k21 : a.tmps.getD 21 undef = .bool true := hk 21
          have k22 : a.tmps.getD 22 undef = .bool false := hk 22
          have k23 : a.tmps.getD 23 undef = .bool false := hk 23
          have k24 : a.tmps.getD 24 undef = .pointer (some ⟨wr.heap.size, 0, none⟩) := hk 24
          have k25 : a.tmps.getD 25 undef = .int .i64 xt := hk 25
          have k26 : a.tmps.getD 26 undef = .slice (some ad) n cap := hk 26
          have k27 : a.tmps.getD 27 undef = .pointer (some (Addr.add ad (0 * 7))) := hk 27
          have k28 : a.tmps.getD 28 undef = .pointer (some (Addr.add ad (0 * 7))) := hk 28
          have k29 : a.tmps.getD 29 undef = .int .i64 zt := hk 29
          have k30 : a.tmps.getD 30 undef = .bool false := hk 30
          have k31 : a.tmps.getD 31 undef = .bool false := hk 31
          have k32 : a.tmps.getD 32 undef = .bool false := hk 32
          have k33 : a.tmps.getD 33 undef = .int .i64 (k : Int) := hk 33
          have k34 : a.tmps.getD 34 undef = .bool false := hk 34
          have k35 : a.tmps.getD 35 undef = .bool false := hk 35
          have k36 : a.tmps.getD 36 undef = undef := hk 36
          have k37 : a.tmps.getD 37 undef = undef := hk 37
          have k38 : a.tmps.getD 38 undef = undef := hk 38
          have k39 : a.tmps.getD 39 undef = undef := hk 39
          have k40 : a.tmps.getD 40 undef = undef := hk 40
          have k41 : a.tmps.getD 41 undef = undef := hk 41
          have k42 : a.tmps.getD 42 undef = undef := hk 42
          have k43 : a.tmps.getD 43 undef = undef := hk 43
          have k44 : a.tmps.getD 44 undef = .bool false := hk 44
          have k45 : a.tmps.getD 45 undef = .bool false := hk 45
          clear hk hd hsz
          simp only [List.map_cons, List.map_nil, List.foldl_cons, List.foldl_nil, k20, k21, k22, k23, k24, k25, k26, k27, k28, k29, k30, k31, k32, k33, k34, k35, k36, k37, k38, k39, k40, k41, k42, k43, k44, k45] at ea
          clear k20 k21 k22 k23 k24 k25 k26 k27 k28 k29 k30 k31 k32 k33 k34 k35 k36 k37 k38 k39 k40 k41 k42 k43 k44 k45
          simp only [Act.put, List.setIfInBounds_toArray, List.set_cons_succ, List.set_cons_zero] at ea
          subst ea
          have dV := hbd.trans (hb.mono (by simp))
          have HO1 := Lib.hid (ownsMap_below HOV.out dV)
          have c1 := cV.trans (dV.mono cV.size)
          have y1 := (BX.out w1 dV).cell 1
          have hsw := dV.size
          go_wp2_with (at_mapUpdate; refine wpList_mapUpdate_own _ rfl _ _ _ 100 rfl 2 101 keyed64 Try.underlying100 unitElem w.heap.size k _ rfl HO1.out (by unfold maxLen; omega) _ _ _ rfl rfl hkey _ [] unitElem_mk ?_; intro w2 hown2 hgrow2)
          have c2 := c1.grown hgrow2 c1.size (fun j hj => by cases hj; exact Nat.le_refl _)
          go_roundw
          case rel => exact ⟨k + 1, by go_num, by omega, HGN.out, by rw [HT.out]; exact hown2, by have := hgrow2.size; simp at hsw this; omega, c2⟩
          case measure => simp [intOf]; omega
      · obtain ⟨y, hy, hld, hbad⟩ := HPV.out (k - 1) (by omega) (by omega)
        have GT0 := Lib.hid (fun (W : World) => gtr_int W (k : Int) 0 true (by simp; omega))
        have SUB1 := Lib.hid (fun (W : World) => sub_one W k (by omega) (by omega))
        obtain ⟨L, hL⟩ : ∃ L, Plain.lt y { t := xt, i := xi, p := xp, s := xs, d := xd, sv := xv, nm := xn } = L := ⟨_, rfl⟩
        have HBO := Lib.hid (show L = false → Plain.isT l = false from fun h => hbad (by rw [hL, h]))
        have HGN := Lib.hid (show L = true → Good l (k + 1) from fun h => HGS.out (by trivial) htz (fun j hj hjl => by
          obtain rfl : j = k - 1 := by omega
          rw [← hy, hL, h]))
        have HLL := Lib.hid (show lessN y.s y.i xs xi = L from hL)
        have HY := Lib.hid hy
        clear hbad hL hy
        obtain ⟨yt, yi, yp, ys, yd, yv, yn⟩ := y
        simp only at *
        generalize str yv = YV at *
        generalize str yn = YN at *
        have HLS := Lib.hid (fun (W : World) => show Calls Try.prog 74 #[.agg #[.int .i64 yt, .int .i64 yi, .int .i64 yp, .int .i64 ys, .int .i64 yd, .string YV, .string YN], .agg #[.int .i64 xt, .int .i64 xi, .int .i64 xp, .int .i64 xs, .int .i64 xd, .string XV, .string XN]] W (fun e w' => e = .returned (.bool L) ∧ Below W.heap.size W w') by
          have := less_any yt yi yp ys yd YV YN xt xi xp xs xd XV XN W
          rwa [HLL.out] at this)
        have LY := Lib.hid (fun (W : World) (h : Below (wr.alloc (.cells #[.int .i64 xt, .int .i64 xi, .int .i64 xp, .int .i64 xs, .int .i64 xd, .string XV, .string XN] 45)).heap.size (wr.alloc (.cells #[.int .i64 xt, .int .i64 xi, .int .i64 xp, .int .i64 xs, .int .i64 xd, .string XV, .string XN] 45)) W) => hld W (cV.trans (h.mono cV.size)))
        clear hld htz hk0
        go_wp2
        refine wp_softS (by kernel_rfl) 56 [(20, [5]), (21, [20]), (22, [21]), (23, [22]), (24, [5, 23]), (25, [24, 23]), (26, [0, 23]), (27, [26, 23]), (28, [27, 23]), (29, [28, 23]), (30, [25, 29, 23]), (31, [23, 30]), (32, [31]), (33, [4, 32]), (34, [33, 32]), (35, [34, 32]), (36, [0, 35]), (37, [4, 35]), (38, [37, 35]), (39, [36, 38, 35]), (40, [39, 35]), (41, [5, 35]), (42, [40, 41, 35]), (43, [42, 35]), (44, [35, 43, 32]), (45, [32, 44])]
          [Fact.is (.agg #[.int .i64 xt, .int .i64 xi, .int .i64 xp, .int .i64 xs, .int .i64 xd, .string XV, .string XN]), Fact.is (.bool true), Fact.is (.bool false), Fact.is (.bool false), Fact.is (.pointer (some ⟨wr.heap.size, 0, none⟩)), Fact.is (.int .i64 xt), Fact.is (.slice (some ad) n cap), Fact.is (.pointer (some (Addr.add ad (0 * 7)))), Fact.is (.pointer (some (Addr.add ad (0 * 7)))), Fact.is (.int .i64 zt), Fact.is (.bool false), Fact.is (.bool false), Fact.is (.bool false), Fact.is (.int .i64 (k : Int)), Fact.is (.bool true), Fact.is (.bool true), Fact.is (.slice (some ad) n cap), Fact.is (.int .i64 (k : Int)), Fact.is (.int .i64 ((k - 1 : Nat) : Int)), Fact.is (.pointer (some (Addr.add ad ((k - 1) * 7)))), Fact.is (.agg #[.int .i64 yt, .int .i64 yi, .int .i64 yp, .int .i64 ys, .int .i64 yd, .string YV, .string YN]), Fact.is (.agg #[.int .i64 xt, .int .i64 xi, .int .i64 xp, .int .i64 xs, .int .i64 xd, .string XV, .string XN]), Fact.is (.bool L), Fact.is (.bool (!L)), Fact.is (.bool (!L)), Fact.is (.bool (!L))]
          (by kernel_rfl) rfl rfl ⟨?s0, ?s1, ?s2, ?s3, ?s4, ?s5, ?s6, ?s7, ?s8, ?s9, ?s10, ?s11, ?s12, ?s13, ?s14, ?s15, ?s16, ?s17, ?s18, ?s19, ?s20, ?s21, ?s22, ?s23, ?s24, ?s25, trivial⟩ ?fin
        case s0 =>
          intro ρ W hb hc hf hr
          obtain ⟨r5, -⟩ := hr
          have e5 : ρ (.tmp 5) = .pointer (some ⟨wr.heap.size, 0, none⟩) := r5
          clear r5
          refine under_none rfl ?_
          exact soft_load e5 (LX.out W (hbd.trans (hb.mono (by simp)))) rfl
        case s1 =>
          intro ρ W hb hc hf hr
          obtain ⟨r20, -⟩ := hr
          have e20 : ρ (.tmp 20) = .agg #[.int .i64 xt, .int .i64 xi, .int .i64 xp, .int .i64 xs, .int .i64 xd, .string XV, .string XN] := r20
          clear r20
          refine under_none rfl ?_
          exact soft_call1 hf e20 (HR.out W) rfl (by kernel_rfl) below_is
        case s2 =>
          intro ρ W hb hc hf hr
          obtain ⟨r21, -⟩ := hr
          have e21 : ρ (.tmp 21) = .bool true := r21
          clear r21
          refine under_none rfl ?_
          simp [execOp, e21, go_sem, softUpon, Fact.is, Below.refl]
        case s3 =>
          intro ρ W hb hc hf hr
          obtain ⟨r22, -⟩ := hr
          have e22 : ρ (.tmp 22) = .bool false := r22
          clear r22
          refine under_none rfl ?_
          exact ⟨e22, Below.refl _ _⟩
        case s4 =>
          intro ρ W hb hc hf hr
          obtain ⟨r5, r23, -⟩ := hr
          have e5 : ρ (.tmp 5) = .pointer (some ⟨wr.heap.size, 0, none⟩) := r5
          clear r5
          have e23 : ρ (.tmp 23) = .bool false := r23
          clear r23
          refine ⟨23, rfl, .inl ⟨e23, ?_⟩⟩
          exact soft_field e5 rfl (fun W => by go_simp)
        case s5 =>
          intro ρ W hb hc hf hr
          obtain ⟨r24, r23, -⟩ := hr
          have e24 : ρ (.tmp 24) = .pointer (some ⟨wr.heap.size, 0, none⟩) := r24
          clear r24
          have e23 : ρ (.tmp 23) = .bool false := r23
          clear r23
          refine ⟨23, rfl, .inl ⟨e23, ?_⟩⟩
          exact soft_load e24 (LXT.out W (hbd.trans (hb.mono (by simp)))) rfl
        case s6 =>
          intro ρ W hb hc hf hr
          obtain ⟨r0, r23, -⟩ := hr
          have e0 : ρ (.tmp 0) = .slice (some ad) n cap := r0
          clear r0
          have e23 : ρ (.tmp 23) = .bool false := r23
          clear r23
          refine ⟨23, rfl, .inl ⟨e23, ?_⟩⟩
          exact ⟨e0, Below.refl _ _⟩
        case s7 =>
          intro ρ W hb hc hf hr
          obtain ⟨r26, r23, -⟩ := hr
          have e26 : ρ (.tmp 26) = .slice (some ad) n cap := r26
          clear r26
          have e23 : ρ (.tmp 23) = .bool false := r23
          clear r23
          refine ⟨23, rfl, .inl ⟨e23, ?_⟩⟩
          exact soft_index7 e26 (hc _) (by omega) rfl
        case s8 =>
          intro ρ W hb hc hf hr
          obtain ⟨r27, r23, -⟩ := hr
          have e27 : ρ (.tmp 27) = .pointer (some (Addr.add ad (0 * 7))) := r27
          clear r27
          have e23 : ρ (.tmp 23) = .bool false := r23
          clear r23
          refine ⟨23, rfl, .inl ⟨e23, ?_⟩⟩
          exact soft_field e27 rfl (fun W => by go_simp)
        case s9 =>
          intro ρ W hb hc hf hr
          obtain ⟨r28, r23, -⟩ := hr
          have e28 : ρ (.tmp 28) = .pointer (some (Addr.add ad (0 * 7))) := r28
          clear r28
          have e23 : ρ (.tmp 23) = .bool false := r23
          clear r23
          refine ⟨23, rfl, .inl ⟨e23, ?_⟩⟩
          exact soft_load e28 (LZT.out W (hbd.trans (hb.mono (by simp)))) rfl
        case s10 =>
          intro ρ W hb hc hf hr
          obtain ⟨r25, r29, r23, -⟩ := hr
          have e25 : ρ (.tmp 25) = .int .i64 xt := r25
          clear r25
          have e29 : ρ (.tmp 29) = .int .i64 zt := r29
          clear r29
          have e23 : ρ (.tmp 23) = .bool false := r23
          clear r23
          refine ⟨23, rfl, .inl ⟨e23, ?_⟩⟩
          exact soft_bin e25 e29 rfl rfl (NET.out W)
        case s11 =>
          intro ρ W hb hc hf hr
          obtain ⟨r23, r30, -⟩ := hr
          have e23 : ρ (.tmp 23) = .bool false := r23
          clear r23
          have e30 : ρ (.tmp 30) = .bool false := r30
          clear r30
          refine under_none rfl ?_
          simp [execOp, e23, e30, go_sem, softUpon, Fact.is, Below.refl]
        case s12 =>
          intro ρ W hb hc hf hr
          obtain ⟨r31, -⟩ := hr
          have e31 : ρ (.tmp 31) = .bool false := r31
          clear r31
          refine under_none rfl ?_
          exact ⟨e31, Below.refl _ _⟩
        case s13 =>
          intro ρ W hb hc hf hr
          obtain ⟨r4, r32, -⟩ := hr
          have e4 : ρ (.tmp 4) = .int .i64 (k : Int) := r4
          clear r4
          have e32 : ρ (.tmp 32) = .bool false := r32
          clear r32
          refine ⟨32, rfl, .inl ⟨e32, ?_⟩⟩
          exact ⟨e4, Below.refl _ _⟩
        case s14 =>
          intro ρ W hb hc hf hr
          obtain ⟨r33, r32, -⟩ := hr
          have e33 : ρ (.tmp 33) = .int .i64 (k : Int) := r33
          clear r33
          have e32 : ρ (.tmp 32) = .bool false := r32
          clear r32
          refine ⟨32, rfl, .inl ⟨e32, ?_⟩⟩
          exact soft_bin e33 (hc _) rfl rfl (GT0.out W)
        case s15 =>
          intro ρ W hb hc hf hr
          obtain ⟨r34, r32, -⟩ := hr
          have e34 : ρ (.tmp 34) = .bool true := r34
          clear r34
          have e32 : ρ (.tmp 32) = .bool false := r32
          clear r32
          refine ⟨32, rfl, .inl ⟨e32, ?_⟩⟩
          exact ⟨e34, Below.refl _ _⟩
        case s16 =>
          intro ρ W hb hc hf hr
          obtain ⟨r0, r35, -⟩ := hr
          have e0 : ρ (.tmp 0) = .slice (some ad) n cap := r0
          clear r0
          have e35 : ρ (.tmp 35) = .bool true := r35
          clear r35
          refine ⟨35, rfl, .inl ⟨e35, ?_⟩⟩
          exact ⟨e0, Below.refl _ _⟩
        case s17 =>
          intro ρ W hb hc hf hr
          obtain ⟨r4, r35, -⟩ := hr
          have e4 : ρ (.tmp 4) = .int .i64 (k : Int) := r4
          clear r4
          have e35 : ρ (.tmp 35) = .bool true := r35
          clear r35
          refine ⟨35, rfl, .inl ⟨e35, ?_⟩⟩
          exact ⟨e4, Below.refl _ _⟩
        case s18 =>
          intro ρ W hb hc hf hr
          obtain ⟨r37, r35, -⟩ := hr
          have e37 : ρ (.tmp 37) = .int .i64 (k : Int) := r37
          clear r37
          have e35 : ρ (.tmp 35) = .bool true := r35
          clear r35
          refine ⟨35, rfl, .inl ⟨e35, ?_⟩⟩
          exact soft_bin e37 (hc _) rfl rfl (SUB1.out W)
        case s19 =>
          intro ρ W hb hc hf hr
          obtain ⟨r36, r38, r35, -⟩ := hr
          have e36 : ρ (.tmp 36) = .slice (some ad) n cap := r36
          clear r36
          have e38 : ρ (.tmp 38) = .int .i64 ((k - 1 : Nat) : Int) := r38
          clear r38
          have e35 : ρ (.tmp 35) = .bool true := r35
          clear r35
          refine ⟨35, rfl, .inl ⟨e35, ?_⟩⟩
          exact soft_index7 e36 e38 (by omega) rfl
        case s20 =>
          intro ρ W hb hc hf hr
          obtain ⟨r39, r35, -⟩ := hr
          have e39 : ρ (.tmp 39) = .pointer (some (Addr.add ad ((k - 1) * 7))) := r39
          clear r39
          have e35 : ρ (.tmp 35) = .bool true := r35
          clear r35
          refine ⟨35, rfl, .inl ⟨e35, ?_⟩⟩
          exact soft_load e39 (LY.out W (hbd.trans (hb.mono (by simp)))) rfl
        case s21 =>
          intro ρ W hb hc hf hr
          obtain ⟨r5, r35, -⟩ := hr
          have e5 : ρ (.tmp 5) = .pointer (some ⟨wr.heap.size, 0, none⟩) := r5
          clear r5
          have e35 : ρ (.tmp 35) = .bool true := r35
          clear r35
          refine ⟨35, rfl, .inl ⟨e35, ?_⟩⟩
          exact soft_load e5 (LX.out W (hbd.trans (hb.mono (by simp)))) rfl
        case s22 =>
          intro ρ W hb hc hf hr
          obtain ⟨r40, r41, r35, -⟩ := hr
          have e40 : ρ (.tmp 40) = .agg #[.int .i64 yt, .int .i64 yi, .int .i64 yp, .int .i64 ys, .int .i64 yd, .string YV, .string YN] := r40
          clear r40
          have e41 : ρ (.tmp 41) = .agg #[.int .i64 xt, .int .i64 xi, .int .i64 xp, .int .i64 xs, .int .i64 xd, .string XV, .string XN] := r41
          clear r41
          have e35 : ρ (.tmp 35) = .bool true := r35
          clear r35
          refine ⟨35, rfl, .inl ⟨e35, ?_⟩⟩
          exact soft_call2 hf e40 e41 (HLS.out W) rfl (by kernel_rfl) below_is
        case s23 =>
          intro ρ W hb hc hf hr
          obtain ⟨r42, r35, -⟩ := hr
          have e42 : ρ (.tmp 42) = .bool L := r42
          clear r42
          have e35 : ρ (.tmp 35) = .bool true := r35
          clear r35
          refine ⟨35, rfl, .inl ⟨e35, ?_⟩⟩
          simp [execOp, e42, go_sem, softUpon, Fact.is, Below.refl]
        case s24 =>
          intro ρ W hb hc hf hr
          obtain ⟨r35, r43, r32, -⟩ := hr
          have e35 : ρ (.tmp 35) = .bool true := r35
          clear r35
          have e43 : ρ (.tmp 43) = .bool (!L) := r43
          clear r43
          have e32 : ρ (.tmp 32) = .bool false := r32
          clear r32
          refine ⟨32, rfl, .inl ⟨e32, ?_⟩⟩
          simp [execOp, e35, e43, go_sem, softUpon, Fact.is, Below.refl]
        case s25 =>
          intro ρ W hb hc hf hr
          obtain ⟨r32, r44, -⟩ := hr
          have e32 : ρ (.tmp 32) = .bool false := r32
          clear r32
          have e44 : ρ (.tmp 44) = .bool (!L) := r44
          clear r44
          refine under_none rfl ?_
          simp [execOp, e32, e44, go_sem, softUpon, Fact.is, Below.refl]
        case fin =>
          intro a w1 hb hd hsz hk
          have ea := act_puts hd hsz rfl hk
          have k20 : a.tmps.getD 20 undef = .agg #[.int .i64 xt, .int .i64 xi, .int .i64 xp, .int .i64 xs, .int .i64 xd, .string XV, .string XN] := hk 20
          have k21 : a.tmps.getD 21 undef = .bool true := hk 21
          have k22 : a.tmps.getD 22 undef = .bool false := hk 22
          have k23 : a.tmps.getD 23 undef = .bool false := hk 23
          have k24 : a.tmps.getD 24 undef = .pointer (some ⟨wr.heap.size, 0, none⟩) := hk 24
          have k25 : a.tmps.getD 25 undef = .int .i64 xt := hk 25
          have k26 : a.tmps.getD 26 undef = .slice (some ad) n cap := hk 26
          have k27 : a.tmps.getD 27 undef = .pointer (some (Addr.add ad (0 * 7))) := hk 27
          have k28 : a.tmps.getD 28 undef = .pointer (some (Addr.add ad (0 * 7))) := hk 28
          have k29 : a.tmps.getD 29 undef = .int .i64 zt := hk 29
          have k30 : a.tmps.getD 30 undef = .bool false := hk 30
          have k31 : a.tmps.getD 31 undef = .bool false := hk 31
          have k32 : a.tmps.getD 32 undef = .bool false := hk 32
          have k33 : a.tmps.getD 33 undef = .int .i64 (k : Int) := hk 33
          have k34 : a.tmps.getD 34 undef = .bool true := hk 34
          have k35 : a.tmps.getD 35 undef = .bool true := hk 35
          have k36 : a.tmps.getD 36 undef = .slice (some ad) n cap := hk 36
          have k37 : a.tmps.getD 37 undef = .int .i64 (k : Int) := hk 37
          have k38 : a.tmps.getD 38 undef = .int .i64 ((k - 1 : Nat) : Int) := hk 38
          have k39 : a.tmps.getD 39 undef = .pointer (some (Addr.add ad ((k - 1) * 7))) := hk 39
          have k40 : a.tmps.getD 40 undef = .agg #[.int .i64 yt, .int .i64 yi, .int .i64 yp, .int .i64 ys, .int .i64 yd, .string YV, .string YN] := hk 40
          have k41 : a.tmps.getD 41 undef = .agg #[.int .i64 xt, .int .i64 xi, .int .i64 xp, .int .i64 xs, .int .i64 xd, .string XV, .string XN] := hk 41
          have k42 : a.tmps.getD 42 undef = .bool L := hk 42
          have k43 : a.tmps.getD 43 undef = .bool (!L) := hk 43
          have k44 : a.tmps.getD 44 undef = .bool (!L) := hk 44
          have k45 : a.tmps.getD 45 undef = .bool (!L) := hk 45
          clear hk hd hsz
          simp only [List.map_cons, List.map_nil, List.foldl_cons, List.foldl_nil, k20, k21, k22, k23, k24, k25, k26, k27, k28, k29, k30, k31, k32, k33, k34, k35, k36, k37, k38, k39, k40, k41, k42, k43, k44, k45] at ea
          clear k20 k21 k22 k23 k24 k25 k26 k27 k28 k29 k30 k31 k32 k33 k34 k35 k36 k37 k38 k39 k40 k41 k42 k43 k44 k45
          simp only [Act.put, List.setIfInBounds_toArray, List.set_cons_succ, List.set_cons_zero] at ea
          subst ea
          have dV := hbd.trans (hb.mono (by simp))
          have HO1 := Lib.hid (ownsMap_below HOV.out dV)
          have c1 := cV.trans (dV.mono cV.size)
          have y1 := (BX.out w1 dV).cell 1
          have hsw := dV.size
          rcases L with _ | _
          · go_wp2
            go_ret
            exact ⟨by rw [HBO.out (by trivial)]; rfl, c1⟩
          go_wp2_with (at_mapUpdate; refine wpList_mapUpdate_own _ rfl _ _ _ 100 rfl 2 101 keyed64 Try.underlying100 unitElem w.heap.size k _ rfl HO1.out (by unfold maxLen; omega) _ _ _ rfl rfl hkey _ [] unitElem_mk ?_; intro w2 hown2 hgrow2)
          have c2 := c1.grown hgrow2 c1.size (fun j hj => by cases hj; exact Nat.le_refl _)
          go_roundw
          case rel => exact ⟨k + 1, by go_num, by omega, HGN.out (by trivial), by rw [HT.out]; exact hown2, by have := hgrow2.size; simp at hsw this; omega, c2⟩
          case measure => simp [intOf]; omega
    · obtain rfl : k = n := by omega
      have hall := good_all (l := l) (by rw [HN.out]; exact HG.out) (by rw [HN.out]; exact h1) (by rw [HN.out]; exact h2)
      have hsize := idSet_size l
      rw [HN.out] at hsize
      have HO2 := Lib.hid (show wr.ownsMap Try.prog 2 unitElem w.heap.size k (idSet l) by
        have := HO.out
        rwa [List.take_of_length_le (by rw [HN.out]; omega)] at this)
      have HEQ := Lib.hid (show (((Maps.size (idSet l) : Nat) : Int) == (k : Int)) = Plain.isT l by
        rw [hall, Bool.eq_iff_iff, beq_iff_eq, decide_eq_true_eq, ← hsize.2]
        omega)
      clear hall hsize
      go_wp2_with (at_len; refine wpList_len_own _ rfl _ 100 rfl 2 101 Try.underlying100 _ w.heap.size k _ rfl HO2.out ?_)
      go_ret
      exact ⟨by rw [← HEQ.out]; rfl, hbr⟩
theorem flat_one (xs : List Plain.Sp) : ∀ u ∈ flat xs, u.oneCell' = true := by
  intro u hu
  obtain ⟨x, _, hx⟩ := List.mem_flatMap.1 hu
  simp only [spanCells, List.mem_cons, List.not_mem_nil, or_false] at hx
  rcases hx with rfl | rfl | rfl | rfl | rfl | rfl | rfl <;> rfl
end Go.Proofs.Ythcchfhkeghkhaa

