/-
  SpHd: Layer 3: the laws' live question (turntablelaw03.head) answers true, and turns nothing that was there. Assumed: errors.errorType is what its own text lays.
  Laid3: Layer 3: from what the given rows say of errors.errorType to its cell; that a world meets it; and a span that came in, opened. Nothing is assumed.
  SpSf: Layer 3: loads of spans and of their numbers, for statements whose order is open. Nothing is assumed.
  SpOp: Layer 3: a slice of spans that came in, opened: its spans' cells, one behind the other. Nothing is assumed.
-/
import Derived.Test.YthcchfhkeghkhaaSpanG
import Derived.Test.YthcchfhkeghkhaaSpanA
import Derived.Test.YthcchfhkeghkhaaBase
import Derived.SevenTiedAt
import Derived.ChangeSame
import Derived.ChangeVars
import Derived.JoinedOf
import Derived.LaidLaws
import Derived.LaidHandle
import Derived.Stop.Joined
import Derived.Lib.SmallJoins
import Derived.Deep.Slices
import Derived.Deep.Fields

namespace Go.Proofs.Ythcchfhkeghkhaa
open Go.RowKit
set_option maxRecDepth 100000

/-- '==' of two spans -/
theorem eq_span (w : World) (t i p s d t' i' p' s' d' : Int) (SV NM SV' NM' : ByteArray) :
    (binOp .eql 45 (.agg #[.int .i64 t, .int .i64 i, .int .i64 p, .int .i64 s, .int .i64 d, .string SV, .string NM]) (.agg #[.int .i64 t', .int .i64 i', .int .i64 p', .int .i64 s', .int .i64 d', .string SV', .string NM'])).run Try.prog w
      = .ok (.bool (decide (t = t' ∧ i = i' ∧ p = p' ∧ s = s' ∧ d = d' ∧ SV.toList = SV'.toList ∧ NM.toList = NM'.toList))) w := by
  rw [run_eql_struct]
  go_simp
  repeat' split
  all_goals simp_all
theorem str_list (a : List UInt8) : (str a).toList = a := by rw [ByteArray.toList_eq]; simp [str]
theorem eq_sp (w : World) (x y : Plain.Sp) :
    (binOp .eql 45 (.agg #[.int .i64 x.t, .int .i64 x.i, .int .i64 x.p, .int .i64 x.s, .int .i64 x.d, .string (str x.sv), .string (str x.nm)]) (.agg #[.int .i64 y.t, .int .i64 y.i, .int .i64 y.p, .int .i64 y.s, .int .i64 y.d, .string (str y.sv), .string (str y.nm)])).run Try.prog w
      = .ok (.bool (decide (x = y))) w := by
  rw [eq_span]
  congr 2
  rw [decide_eq_decide, str_list, str_list, str_list, str_list]
  cases x; cases y
  simp

/-- the span of the live question, and its bytes -/
def s0 : Plain.Sp := ⟨5, 1, 0, 300, 2, [97], [98, 99]⟩
def s1 : Plain.Sp := ⟨5, 1, 0, 300, 2, [], [98, 99]⟩
def b0 : List UInt8 := [5, 1, 0, 172, 2, 2, 1, 97, 2, 98, 99]
theorem s0_out : s0.outp = b0 := by decide +kernel
theorem s1_out : s1.outp = [] := by decide +kernel
theorem s0_rd : Plain.Sp.rd b0 = (s0, 11, 0) := by decide +kernel

theorem own_some {w : World} {base n : Nat} {e : TypeId} {v : Value} {xs : List Value} (h : w.ownsRow base e 1 v n xs) (h0 : 0 < n) : ∃ g cap, v = .slice (some ⟨g, 0, none⟩) n cap ∧ n ≤ cap ∧ cap ≤ maxLen ∧ Lies w (some ⟨g, 0, none⟩) xs := by
  obtain ⟨A, cap, rfl, h1, h2, -, h4⟩ := own_form h
  obtain ⟨g, cap', hv, _, _⟩ := h.form h0
  injection hv with hv1 hv2 hv3
  subst hv1
  exact ⟨g, cap, rfl, h1, h2, h4⟩

end Go.Proofs.Ythcchfhkeghkhaa

namespace Go.Proofs.Ythcchfhkeghkhaa
open Go.Joins Go.ChangeShapes Go.WideShapes Go.RowKit Go.Deep
set_option maxRecDepth 100000

section
variable {H : Type} {enc : TypeId × Value → H} {P : Program} {w : World} {base : Nat} {spare : Nat → Bool} {held : Bool}
theorem open_agg7 {r : Reach} {b0 : Nat} {t : TypeId} {f0 f1 f2 f3 f4 f5 f6 : Field} {v : Value} {d : DataW H} {p : List MemPlace} (hs : P.underlying t = some (.struct #[f0, f1, f2, f3, f4, f5, f6])) (hone : oneCellFields P #[f0, f1, f2, f3, f4, f5, f6] = true) (hC : P.cellsOf t = 7)
    (hv : Value.okWide P w r b0 t v) (h : DataW.Trod enc P w base spare held t v d p) :
    ∃ (v0 v1 v2 v3 v4 v5 v6 : Value) (y0 y1 y2 y3 y4 y5 y6 : DataW H × List MemPlace) (n : Nat), v = .agg #[v0, v1, v2, v3, v4, v5, v6] ∧
      DataW.trod enc P w base spare held n f0.type [v0] = some y0 ∧ DataW.trod enc P w base spare held n f1.type [v1] = some y1 ∧ DataW.trod enc P w base spare held n f2.type [v2] = some y2 ∧ DataW.trod enc P w base spare held n f3.type [v3] = some y3 ∧ DataW.trod enc P w base spare held n f4.type [v4] = some y4 ∧ DataW.trod enc P w base spare held n f5.type [v5] = some y5 ∧ DataW.trod enc P w base spare held n f6.type [v6] = some y6 := by
  obtain ⟨cs, rfl, hsz⟩ := okWide_struct hs hv
  obtain ⟨l⟩ := cs
  match l, hsz.trans hC with
  | [c0, c1, c2, c3, c4, c5, c6], _ =>
    obtain ⟨fuel, hf⟩ := h
    obtain ⟨xs, n, _, hx, _, hlen, hg⟩ := DataW.trod_struct hs hf
    obtain ⟨o0, k0⟩ := hone_of hone 0 f0 rfl
    obtain ⟨o1, k1⟩ := hone_of hone 1 f1 rfl
    obtain ⟨o2, k2⟩ := hone_of hone 2 f2 rfl
    obtain ⟨o3, k3⟩ := hone_of hone 3 f3 rfl
    obtain ⟨o4, k4⟩ := hone_of hone 4 f4 rfl
    obtain ⟨o5, k5⟩ := hone_of hone 5 f5 rfl
    obtain ⟨o6, k6⟩ := hone_of hone 6 f6 rfl
    match xs, hlen with
    | [y0, y1, y2, y3, y4, y5, y6], _ =>
      exact ⟨c0, c1, c2, c3, c4, c5, c6, y0, y1, y2, y3, y4, y5, y6, n, rfl, by simpa [Value.cells, o0, k0] using hg 0 f0 rfl, by simpa [Value.cells, o1, k1] using hg 1 f1 rfl, by simpa [Value.cells, o2, k2] using hg 2 f2 rfl, by simpa [Value.cells, o3, k3] using hg 3 f3 rfl, by simpa [Value.cells, o4, k4] using hg 4 f4 rfl, by simpa [Value.cells, o5, k5] using hg 5 f5 rfl, by simpa [Value.cells, o6, k6] using hg 6 f6 rfl⟩
end

theorem trod_i64 {H : Type} {enc : TypeId × Value → H} {w : World} {base : Nat} {spare : Nat → Bool} {held : Bool} {n : Nat} {v : Value} {y : DataW H × List MemPlace} (h : DataW.trod enc Try.prog w base spare held n 2 [v] = some y) : ∃ x : Int, v = .int .i64 x := by
  obtain ⟨x, e, -, -⟩ := DataW.trod_int Try.underlying2 h
  exact ⟨x, by injection e⟩
theorem trod_str {H : Type} {enc : TypeId × Value → H} {w : World} {base : Nat} {spare : Nat → Bool} {held : Bool} {n : Nat} {v : Value} {y : DataW H × List MemPlace} (h : DataW.trod enc Try.prog w base spare held n 9 [v] = some y) : ∃ s : List UInt8, v = .string (str s) ∧ s.length ≤ maxLen := by
  obtain ⟨s, e, -, hs⟩ := DataW.trod_string Try.underlying9 h
  have e1 : s.data.toList.length = s.size := by rw [Array.length_toList]; rfl
  exact ⟨s.data.toList, by injection e with e, by rw [e1]; exact hs⟩

/-- a span that came in -/
theorem open_span {H : Type} {enc : TypeId × Value → H} {W : World} {r : Reach} {b0 : Nat} {v : Value} {d : DataW H} {ps : List MemPlace} (hval : Value.okWide Try.prog W r b0 45 v) (h : DataW.Trod enc Try.prog W 0 (fun _ => true) true 45 v d ps) :
    ∃ x : Plain.Sp, v = .agg #[.int .i64 x.t, .int .i64 x.i, .int .i64 x.p, .int .i64 x.s, .int .i64 x.d, .string (str x.sv), .string (str x.nm)] ∧ x.sv.length ≤ maxLen ∧ x.nm.length ≤ maxLen := by
  obtain ⟨v0, v1, v2, v3, v4, v5, v6, y0, y1, y2, y3, y4, y5, y6, n, rfl, h0, h1, h2, h3, h4, h5, h6⟩ := open_agg7 Try.underlying45 (by kernel_rfl) (by kernel_rfl) hval h
  obtain ⟨a0, rfl⟩ := trod_i64 h0
  obtain ⟨a1, rfl⟩ := trod_i64 h1
  obtain ⟨a2, rfl⟩ := trod_i64 h2
  obtain ⟨a3, rfl⟩ := trod_i64 h3
  obtain ⟨a4, rfl⟩ := trod_i64 h4
  obtain ⟨s5, rfl, l5⟩ := trod_str h5
  obtain ⟨s6, rfl, l6⟩ := trod_str h6
  exact ⟨⟨a0, a1, a2, a3, a4, s5, s6⟩, rfl, l5, l6⟩
end Go.Proofs.Ythcchfhkeghkhaa

namespace Go.Proofs.Ythcchfhkeghkhaa
open Go.RowKit
set_option maxRecDepth 100000

theorem load_span {W : World} {g : Nat} {v0 v1 v2 v3 v4 v5 v6 : Value} (h : Blk W g #[v0, v1, v2, v3, v4, v5, v6] 45) :
    (Instr.loadAt 45 (.pointer (some ⟨g, 0, none⟩))).run Try.prog W = .ok (.agg #[v0, v1, v2, v3, v4, v5, v6]) W := by
  obtain ⟨c0, c1, c2, c3, c4, c5, c6⟩ := h.seven
  go_simp
theorem load_num {W : World} {g j : Nat} {x : Int} (h : W.cell? ⟨g, j, none⟩ = some (.int .i64 x)) :
    (Instr.loadAt 2 (.pointer (some ⟨g, j, none⟩))).run Try.prog W = .ok (.int .i64 x) W := by
  go_simp
theorem geq_i64 (W : World) (a b : Int) (h : b ≤ a) : (binOp .geq 2 (.int .i64 a) (.int .i64 b)).run Try.prog W = .ok (.bool true) W := by
  go_simp
theorem leq_i64 (W : World) (a b : Int) (h : a ≤ b) : (binOp .leq 2 (.int .i64 a) (.int .i64 b)).run Try.prog W = .ok (.bool true) W := by
  go_simp
theorem eql_i64 (W : World) (a : Int) : (binOp .eql 2 (.int .i64 a) (.int .i64 a)).run Try.prog W = .ok (.bool true) W := by
  go_simp
theorem sub_i64 (W : World) (a b : Int) (h : 0 ≤ a - b ∧ a - b ≤ 281474976710656) : (binOp .sub 2 (.int .i64 a) (.int .i64 b)).run Try.prog W = .ok (.int .i64 (a - b)) W := by
  go_simp
  rw [IntKind.wrap_i64]; omega
end Go.Proofs.Ythcchfhkeghkhaa

namespace Go.Proofs.Ythcchfhkeghkhaa
open Go.Joins Go.ChangeShapes Go.WideShapes Go.RowKit Go.Deep
set_option maxRecDepth 100000

/-- a span's cells -/
def spanCells (x : Plain.Sp) : List Value := [.int .i64 x.t, .int .i64 x.i, .int .i64 x.p, .int .i64 x.s, .int .i64 x.d, .string (str x.sv), .string (str x.nm)]
theorem spanCells_length (x : Plain.Sp) : (spanCells x).length = 7 := rfl
def flat (xs : List Plain.Sp) : List Value := xs.flatMap spanCells
theorem flat_length (xs : List Plain.Sp) : (flat xs).length = xs.length * 7 := by
  induction xs with
  | nil => rfl
  | cons x xs ih => simp only [flat, List.flatMap_cons, List.length_append, List.length_cons, spanCells_length] at ih ⊢; omega
theorem flat_append (xs ys : List Plain.Sp) : flat (xs ++ ys) = flat xs ++ flat ys := by simp [flat]
theorem flat_at (xs : List Plain.Sp) (i j : Nat) (x : Plain.Sp) (h : xs[i]? = some x) (hj : j < 7) : (flat xs)[i * 7 + j]? = (spanCells x)[j]? := by
  induction xs generalizing i with
  | nil => simp at h
  | cons y xs ih =>
    rcases i with _ | i
    · simp only [List.getElem?_cons_zero, Option.some.injEq] at h
      subst h
      simp only [flat, List.flatMap_cons]
      rw [List.getElem?_append_left (by rw [spanCells_length]; omega)]
      simp
    · simp only [List.getElem?_cons_succ] at h
      have := ih i h
      simp only [flat, List.flatMap_cons] at this ⊢
      rw [List.getElem?_append_right (by rw [spanCells_length]; omega), spanCells_length, show (i + 1) * 7 + j - 7 = i * 7 + j by omega]
      exact this

theorem open_spans {H : Type} {enc : TypeId × Value → H} {W : World} {r : Reach} {b0 : Nat} {v : Value} {d : DataW H} {ps : List MemPlace} (hval : Value.okWide Try.prog W r b0 29 v) (h : DataW.Trod enc Try.prog W 0 (fun _ => true) true 29 v d ps) (hlt : ∀ x ∈ ps, x.block < W.heap.size) :
    ∃ (A : Option Addr) (cap : Nat) (xs : List Plain.Sp), v = .slice A xs.length cap ∧ xs.length ≤ cap ∧ cap ≤ maxLen ∧ Lies W A (flat xs) ∧ ∀ x ∈ xs, x.sv.length ≤ maxLen ∧ x.nm.length ≤ maxLen := by
  obtain ⟨a0, len, cap, rfl⟩ := okWide_slice Try.underlying29 hval
  obtain ⟨fuel, hf⟩ := h
  have hC : Try.prog.cellsOf 45 = 7 := by kernel_rfl
  rcases open_slice Try.underlying29 hf with ⟨hcs, -⟩ | ⟨a, len', cap', m, n, D, Pl, hcs, hb, hl, hm, hmm, hx, hi⟩
  · simp [Value.cells] at hcs
    obtain ⟨rfl, rfl, rfl⟩ := hcs
    exact ⟨none, 0, [], rfl, by simp, by unfold maxLen; omega, .inl rfl, fun x hx => by cases hx⟩
  · simp [Value.cells] at hcs
    obtain ⟨rfl, rfl, rfl⟩ := hcs
    simp only [if_true] at hmm
    subst hmm
    have key : ∀ i, i < len → ∃ x : Plain.Sp, (∀ j u, (spanCells x)[j]? = some u → W.cell? (a.add (i * 7 + j)) = some u) ∧ x.sv.length ≤ maxLen ∧ x.nm.length ≤ maxLen := by
      intro i hil
      obtain ⟨cs', hc, ht'⟩ := hi i (by omega)
      rw [hC] at hc
      obtain ⟨ys, n', hn', hy, hlen, hyl, hfl⟩ := DataW.trod_struct Try.underlying45 ht'
      obtain ⟨_, hcl, hat⟩ := World.cells?_some hc
      have k2 : Try.prog.cellsOf 2 = 1 := by kernel_rfl
      have k9 : Try.prog.cellsOf 9 = 1 := by kernel_rfl
      match cs', hcl with
      | [c0, c1, c2, c3, c4, c5, c6], _ =>
        match ys, hyl with
        | [y0, y1, y2, y3, y4, y5, y6], _ =>
          have h0 : DataW.trod enc Try.prog W 0 (fun _ => true) true n' 2 [c0] = some y0 := by have := hfl 0 _ rfl; simpa [k2] using this
          have h1 : DataW.trod enc Try.prog W 0 (fun _ => true) true n' 2 [c1] = some y1 := by have := hfl 1 _ rfl; simpa [k2] using this
          have h2 : DataW.trod enc Try.prog W 0 (fun _ => true) true n' 2 [c2] = some y2 := by have := hfl 2 _ rfl; simpa [k2] using this
          have h3 : DataW.trod enc Try.prog W 0 (fun _ => true) true n' 2 [c3] = some y3 := by have := hfl 3 _ rfl; simpa [k2] using this
          have h4 : DataW.trod enc Try.prog W 0 (fun _ => true) true n' 2 [c4] = some y4 := by have := hfl 4 _ rfl; simpa [k2] using this
          have h5 : DataW.trod enc Try.prog W 0 (fun _ => true) true n' 9 [c5] = some y5 := by have := hfl 5 _ rfl; simpa [k9] using this
          have h6 : DataW.trod enc Try.prog W 0 (fun _ => true) true n' 9 [c6] = some y6 := by have := hfl 6 _ rfl; simpa [k9] using this
          obtain ⟨a0, rfl⟩ := trod_i64 h0
          obtain ⟨a1, rfl⟩ := trod_i64 h1
          obtain ⟨a2, rfl⟩ := trod_i64 h2
          obtain ⟨a3, rfl⟩ := trod_i64 h3
          obtain ⟨a4, rfl⟩ := trod_i64 h4
          obtain ⟨s5, rfl, l5⟩ := trod_str h5
          obtain ⟨s6, rfl, l6⟩ := trod_str h6
          refine ⟨⟨a0, a1, a2, a3, a4, s5, s6⟩, fun j u hu => ?_, l5, l6⟩
          have hj : j < 7 := by
            rcases Nat.lt_or_ge j 7 with h | h
            · exact h
            · rw [List.getElem?_eq_none (by rw [spanCells_length]; exact h)] at hu; cases hu
          rw [← addr_add, hat j hj]
          exact hu
    let f : Nat → Plain.Sp := fun i => if h : i < len then Classical.choose (key i h) else Plain.Sp.zero
    have hf2 : ∀ i, i < len → (∀ j u, (spanCells (f i))[j]? = some u → W.cell? (a.add (i * 7 + j)) = some u) ∧ (f i).sv.length ≤ maxLen ∧ (f i).nm.length ≤ maxLen := fun i h => by
      have e : f i = Classical.choose (key i h) := by simp only [f, dif_pos h]
      rw [e]
      exact Classical.choose_spec (key i h)
    have hlen : ((List.range len).map f).length = len := by simp
    refine ⟨some a, m, (List.range len).map f, by rw [hlen], by rw [hlen]; exact hl, hm, ?_, fun x hx => ?_⟩
    · rcases Nat.eq_zero_or_pos len with h0 | h0
      · subst h0; exact .inl rfl
      · refine .inr ⟨a, rfl, ?_, fun q u hu => ?_⟩
        · have hx1 := congrArg Prod.snd hx
          simp only at hx1
          exact hlt (.cell a.block a.off) (by rw [hx1]; exact List.mem_append_left _ (MemPlace.mem_row.2 ⟨0, by rw [hC]; omega, by simp⟩))
        · have hq : q < len * 7 := by
            rcases Nat.lt_or_ge q (len * 7) with h | h
            · exact h
            · rw [List.getElem?_eq_none (by rw [flat_length, hlen]; exact h)] at hu; cases hu
          have hi1 : q / 7 < len := by omega
          have hq2 : q / 7 * 7 + q % 7 = q := by omega
          have hat : ((List.range len).map f)[q / 7]? = some (f (q / 7)) := by simp [hi1]
          have := flat_at _ _ (q % 7) _ hat (Nat.mod_lt _ (by omega))
          rw [hq2, hu] at this
          have h1 := (hf2 _ hi1).1 (q % 7) u this.symm
          rw [hq2] at h1
          exact h1
    · obtain ⟨i, hi1, rfl⟩ := List.mem_map.1 hx
      exact (hf2 i (List.mem_range.1 hi1)).2
end Go.Proofs.Ythcchfhkeghkhaa
