/-
  Sp1: Layer 3: span.within, Right, End, Less, and the laws' Great: what they answer, for every argument. Nothing is assumed.
  Sp2: Layer 3: span.putNumbers, putTexts, slices.Concat of two, and span.Put: what they answer, for every argument. Nothing is assumed but that bytes lie in memory.
  Sp3: Layer 3: span.Put: what it answers, for every argument. Nothing is assumed but that bytes lie in memory.
-/
import Derived.Test.YtchfiekepjndeaaBase
import Derived.Test.YtchfiekepjndeaaMath
import Derived.Test.YtchfiekepjndeaaVint
import Derived.Lib.AppendZeros

namespace Go.Proofs.Ytchfiekepjndeaa
open Go.RowKit
set_option maxRecDepth 100000

/-- numbers as cells -/
def ints (xs : List Int) : List Value := xs.map fun x => .int .i64 x
theorem ints_length (xs : List Int) : (ints xs).length = xs.length := by simp [ints]

/-- a span's value -/
def spanV (t i p s d : Int) (SV NM : ByteArray) : Value := .agg #[.int .i64 t, .int .i64 i, .int .i64 p, .int .i64 s, .int .i64 d, .string SV, .string NM]

theorem lies_made (w : World) (g : Nat) (xs : List Value) (cs : Array Value) (t : TypeId) (h : xs = cs.toList) (hg : w.heap.size = g) : Lies (w.alloc (.cells cs t)) (some ⟨g, 0, none⟩) xs := by
  subst h hg; exact Lies.new w cs t

/-- End: of a right one its Start and Dur, together -/
def endN (r : Bool) (s d : Int) : Int := if r then s + d else 0
def lessN (s i s' i' : Int) : Bool := if s = s' then decide (i < i') else decide (s < s')
end Go.Proofs.Ytchfiekepjndeaa

namespace Go.Proofs.Ytchfiekepjndeaa
open Go.RowKit
set_option maxRecDepth 100000

/-- what a call hands back that makes bytes, or hands on some: they lie in memory; nothing that was there has turned -/
def Gives (w : World) (bs : List UInt8) (e : Ending) (w' : World) : Prop := ∃ A cap, e = .returned (.slice A bs.length cap) ∧ bs.length ≤ cap ∧ cap ≤ maxLen ∧ Lies w' A (cells bs) ∧ Below w.heap.size w w'

/-- numbers' bytes, one behind the other -/
def puts (ns : List Int) : List UInt8 := (ns.map Plain.put).flatten
theorem puts_succ (ns : List Int) (k : Nat) (h : k < ns.length) : puts (ns.take (k + 1)) = puts (ns.take k) ++ Plain.put ns[k] := by
  unfold puts
  rw [List.take_succ_eq_append_getElem h, List.map_append, List.flatten_append]
  simp
theorem puts_len (ns : List Int) : (puts ns).length ≤ 7 * ns.length := by
  induction ns with
  | nil => simp [puts]
  | cons n ns ih =>
    have := Plain.put_le n
    simp only [puts, List.map_cons, List.flatten_cons, List.length_append, List.length_cons] at ih ⊢
    omega
def putTs (ss : List (List UInt8)) : List UInt8 := (ss.map Plain.putText).flatten
theorem putTs_succ (ss : List (List UInt8)) (k : Nat) (h : k < ss.length) : putTs (ss.take (k + 1)) = putTs (ss.take k) ++ Plain.putText ss[k] := by
  unfold putTs
  rw [List.take_succ_eq_append_getElem h, List.map_append, List.flatten_append]
  simp
theorem putTs_len (ss : List (List UInt8)) : (putTs ss).length ≤ 33 * ss.length := by
  induction ss with
  | nil => simp [putTs]
  | cons n ns ih =>
    have := Plain.putText_small n
    simp only [putTs, List.map_cons, List.flatten_cons, List.length_append, List.length_cons] at ih ⊢
    omega

/-- texts as cells -/
def strs (ss : List (List UInt8)) : List Value := ss.map fun s => .string (str s)
theorem strs_length (ss : List (List UInt8)) : (strs ss).length = ss.length := by simp [strs]

theorem size_zeroCells (n : Nat) : (Builtin.zeroCells #[Value.int .u8 0] n).size = n := by
  unfold Builtin.zeroCells
  simp
/-- slices.Grow(nil, n): room of one's own, with nothing in it -/
theorem grow_nil (n : Nat) (w : World) (hn : n ≤ 70368744177664) :
    Calls Try.prog 29 #[.slice none 0 0, .int .i64 n] w fun e w' => ∃ v, e = .returned v ∧ w'.ownsRow w.heap.size 5 1 v 0 [] ∧ Below w.heap.size w w' := by
  obtain ⟨i0, hi, hz0, hz1, hz2⟩ := info_parts infoU8
  rcases Nat.eq_zero_or_pos n with rfl | h0
  · go_enter Try.func29, Try.ntmps29
    go_wp2
    go_ret
    exact ⟨_, rfl, World.ownsRow_nil _ _ _ _, Below.refl _ _⟩
  · have hrun := fun ty => Lib.run_append_nil_zeros (P := Try.prog) w 22 3 ty 5 i0 (.int .u8 0) .i64 .i64 Try.underlying22 Try.underlying3 hi hz0 n h0 (by omega) (by omega) (by rw [hz2]; omega)
    have hge := grownCap_ge w n 0 5
    have hle := grownCap_le_maxLen w n 0 5 (by unfold maxLen; omega)
    generalize grownCap w n 0 5 = C at *
    have hsz : (Builtin.zeroCells (Value.int IntKind.u8 0).cells n ++ Builtin.zeroCells (Value.int IntKind.u8 0).cells (C - n)).size = C := by
      rw [Array.size_append]
      have e : (Value.int IntKind.u8 0).cells = #[Value.int .u8 0] := rfl
      rw [e, size_zeroCells, size_zeroCells]; omega
    generalize Builtin.zeroCells (Value.int IntKind.u8 0).cells n ++ Builtin.zeroCells (Value.int IntKind.u8 0).cells (C - n) = Z at *
    have HZ := Lib.hid hsz
    clear hsz
    unfold maxLen at hle
    go_enter Try.func29, Try.ntmps29
    go_wp2_with (at_builtin; refine Lib.wpList_append_run _ rfl _ _ _ _ rfl _ _ rfl rfl _ _ (hrun _) ?_)
    go_wp2
    go_ret
    refine ⟨_, rfl, ⟨by simp, .inr ⟨w.heap.size, C, Z, rfl, Nat.le_refl _, ?_, by omega, by unfold maxLen; omega, by rw [HZ.out]; omega, by simp⟩⟩, ?_⟩
    · exact heap_alloc_new w.drew _
    · exact (Below.refl _ _).drew.alloc (by simp) _

set_option maxHeartbeats 4000000 in
/-- slices.Concat(a, b): the bytes of both, in memory of its own -/
theorem concat2 (A : Option Addr) (n cap : Nat) (bs : List UInt8) (A2 : Option Addr) (n2 cap2 : Nat) (bs2 : List UInt8) (g : Nat) (w : World) (hn : bs.length = n) (hn2 : bs2.length = n2) (hm : n ≤ 35184372088832) (hm2 : n2 ≤ 35184372088832) (hA : Lies w A (cells bs)) (hA2 : Lies w A2 (cells bs2)) (hS : g < w.heap.size)
    (hS0 : w.cell? ⟨g, 0, none⟩ = some (.slice A n cap)) (hS1 : w.cell? ⟨g, 1, none⟩ = some (.slice A2 n2 cap2)) :
    Calls Try.prog 22 #[.slice (some ⟨g, 0, none⟩) 2 2] w (Made w (bs ++ bs2)) := by
  obtain ⟨i0, hi, hz0, hz1, hz2⟩ := info_parts infoU8
  have hcl := Lib.hid (show (cells bs).length = n by rw [cells_length, hn])
  have hcl2 := Lib.hid (show (cells bs2).length = n2 by rw [cells_length, hn2])
  have HF := Lib.hid (show ∀ (v : Value) (w' : World), w'.ownsRow w.heap.size 5 1 v (n + n2) (cells bs ++ cells bs2) → Below w.heap.size w w' → Made w (bs ++ bs2) (.returned v) w' from
      fun v w' ho hb => ⟨v, rfl, by rw [cells_append, List.length_append, hn, hn2]; simpa using ho, hb⟩)
  have H1 := Lib.hid (cells_one bs)
  have H2 := Lib.hid (cells_one bs2)
  have HS := Lib.hid hS
  generalize bs ++ bs2 = out at *
  generalize cells bs = cs at *
  generalize cells bs2 = cs2 at *
  clear hn hn2
  have HA := Lib.hid hA
  have HA2 := Lib.hid hA2
  clear hA hA2
  go_enter Try.func22, Try.ntmps22
  go_wp2
  refine wp_loop_rounds 3 ?_
  rw [rounds_succ]
  go_wp2
  rw [rounds_succ]
  go_wp2
  rw [rounds_succ]
  go_wp2_with fail
  have hG := grow_nil (n + n2) w (by omega)
  rw [show ((n + n2 : Nat) : Int) = (n : Int) + (n2 : Int) by omega] at hG
  refine hG.mono ?_
  clear hG
  rintro e w1 ⟨v, rfl, hown, hb1⟩
  have HO := Lib.hid hown
  clear hown
  have c0 : w1.cell? ⟨g, 0, none⟩ = some (.slice A n cap) := by rw [hb1.cell (p := ⟨g, 0, none⟩) HS.out]; exact hS0
  have c1 : w1.cell? ⟨g, 1, none⟩ = some (.slice A2 n2 cap2) := by rw [hb1.cell (p := ⟨g, 1, none⟩) HS.out]; exact hS1
  go_wp2
  refine wp_loop_rounds 3 ?_
  rw [rounds_succ]
  go_wp2_with (at_builtin; refine wpList_app rfl _ _ 22 rfl w.heap.size 5 i0 (.int .u8 0) Try.underlying22 hi hz0 hz1 hz2 rfl v 0 [] rfl HO.out A n cap cs rfl hcl.out (HA.out.below hb1) H1.out (by omega) hb1.size ?_)
  intro v2 w2 ho2 hg2 _
  have hb2 : Below w.heap.size w w2 := hb1.grown hg2 hb1.size (fun q hg => (HO.out.lt q hg).1)
  have HO2 := Lib.hid ho2
  clear ho2 hg2
  have c1' : w2.cell? ⟨g, 1, none⟩ = some (.slice A2 n2 cap2) := by rw [hb2.cell (p := ⟨g, 1, none⟩) HS.out]; exact hS1
  clear c0 c1
  go_wp2
  rw [rounds_succ]
  go_wp2_with (at_builtin; refine wpList_app rfl _ _ 22 rfl w.heap.size 5 i0 (.int .u8 0) Try.underlying22 hi hz0 hz1 hz2 rfl v2 n cs rfl HO2.out A2 n2 cap2 cs2 rfl hcl2.out (HA2.out.below hb2) H2.out (by omega) hb2.size ?_)
  intro v3 w3 ho3 hg3 _
  have hb3 : Below w.heap.size w w3 := hb2.grown hg3 hb2.size (fun q hg => (HO2.out.lt q hg).1)
  have HO3 := Lib.hid ho3
  clear ho3 hg3
  go_wp2
  rw [rounds_succ]
  go_wp2
  go_ret
  exact HF.out _ _ HO3.out hb3
end Go.Proofs.Ytchfiekepjndeaa

namespace Go.Proofs.Ytchfiekepjndeaa
open Go.RowKit
set_option maxRecDepth 100000

theorem own_mono {w : World} {base base' n : Nat} {e : TypeId} {v : Value} {xs : List Value} (h : w.ownsRow base e 1 v n xs) (hb : base' ≤ base) : w.ownsRow base' e 1 v n xs :=
  ⟨h.1, h.2.imp id fun ⟨g, cap, cur, h1, h2, h3⟩ => ⟨g, cap, cur, h1, Nat.le_trans hb h2, h3⟩⟩
theorem Made.up {w w1 w' : World} {bs : List UInt8} {e : Ending} (h : Made w1 bs e w') (hb : Below w.heap.size w w1) : Made w bs e w' := by
  obtain ⟨v, rfl, ho, hb2⟩ := h
  exact ⟨v, rfl, own_mono ho hb.size, hb.trans (hb2.mono hb.size)⟩

/-- a span's value -/
def spanOf (x : Plain.Sp) : Value := .agg #[.int .i64 x.t, .int .i64 x.i, .int .i64 x.p, .int .i64 x.s, .int .i64 x.d, .string (str x.sv), .string (str x.nm)]

theorem bytes_puts (x : Plain.Sp) : x.bytes = puts [x.t, x.i, x.p, x.s, x.d] ++ putTs [x.sv, x.nm] := by
  simp [Plain.Sp.bytes, puts, putTs]

end Go.Proofs.Ytchfiekepjndeaa
