/-
  Layer 3: span.putNumbers, putTexts, slices.Concat of two, and span.Put: what they answer, for every argument. Nothing is assumed but that bytes lie in memory.
-/
import Derived.Test.YtiipcnldedjkdaaDoorSp1
import Derived.Test.YtiipcnldedjkdaaDoorVUse
import Derived.Test.YtiipcnldedjkdaaDoorVApp
import Derived.Lib.AppendZeros
namespace Go.Proofs.YtiipcnldedjkdaaDoor
open Go.RowKit
set_option maxRecDepth 100000

/-- what a call hands back that makes bytes, or hands on some: they lie in memory; nothing that was there has turned -/
def Gives (w : World) (bs : List UInt8) (e : Ending) (w' : World) : Prop := ∃ A cap, e = .returned (.slice A bs.length cap) ∧ bs.length ≤ cap ∧ cap ≤ maxLen ∧ Lies w' A (cells bs) ∧ Below w.heap.size w w'

/-- numbers' bytes, one behind the other -/
def puts (ns : List Int) : List UInt8 := (ns.map Plain.put).flatten
theorem puts_succ (ns : List Int) (k : Nat) (h : k < ns.length) : puts (ns.take (k + 1)) = puts (ns.take k) ++ Plain.put ns[k] := by
  unfold puts
  rw [List.take_succ_eq_append_getElem h, List.map_append, List.flatten_append]
  simp
theorem puts_len (ns : List Int) : (puts ns).length ≤ 7 * ns.length := by
  induction ns with
  | nil => simp [puts]
  | cons n ns ih =>
    have := Plain.put_le n
    simp only [puts, List.map_cons, List.flatten_cons, List.length_append, List.length_cons] at ih ⊢
    omega
def putTs (ss : List (List UInt8)) : List UInt8 := (ss.map Plain.putText).flatten
theorem putTs_succ (ss : List (List UInt8)) (k : Nat) (h : k < ss.length) : putTs (ss.take (k + 1)) = putTs (ss.take k) ++ Plain.putText ss[k] := by
  unfold putTs
  rw [List.take_succ_eq_append_getElem h, List.map_append, List.flatten_append]
  simp
theorem putTs_len (ss : List (List UInt8)) : (putTs ss).length ≤ 33 * ss.length := by
  induction ss with
  | nil => simp [putTs]
  | cons n ns ih =>
    have := Plain.putText_small n
    simp only [putTs, List.map_cons, List.flatten_cons, List.length_append, List.length_cons] at ih ⊢
    omega

theorem putNumbers_any (A : Option Addr) (cap : Nat) (bs : List UInt8) (B : Option Addr) (n capB : Nat) (ns : List Int) (w : World) (hm : bs.length ≤ 1000000) (hlc : bs.length ≤ cap) (hcm : cap ≤ maxLen) (hn : ns.length = n) (hn10 : n ≤ 10) (hA : Lies w A (cells bs)) (hB : Lies w B (ints ns)) :
    Calls Tryd.prog 28 #[.slice A bs.length cap, .slice B n capB] w (Gives w (bs ++ puts ns)) := by
  go_enter Tryd.func28, Tryd.ntmps28
  go_wp2
  go_loopw [0, 9] (fun b i wr => ∃ (k capr : Nat) (Ar : Option Addr), i = .int .i64 k ∧ k ≤ n ∧ b = .slice Ar (bs ++ puts (ns.take k)).length capr ∧ (bs ++ puts (ns.take k)).length ≤ capr ∧ capr ≤ maxLen ∧ Lies wr Ar (cells (bs ++ puts (ns.take k))) ∧ Below w.heap.size w wr) (fun _ i _ => n - (intOf i).toNat)
  case atStart => exact ⟨0, cap, A, rfl, Nat.zero_le _, by simp [puts], by simpa [puts] using hlc, hcm, by simpa [puts] using hA, Below.refl _ _⟩
  case round =>
    obtain ⟨k, capr, Ar, rfl, hk, rfl, hlr, hmr, hAr, hbr⟩ := hrel
    have HL := Lib.hid (show (bs ++ puts (ns.take k)).length ≤ 1000000 + 70 by
      have := puts_len (ns.take k); rw [List.length_append]; rw [List.length_take] at this; omega)
    by_cases hlt : k < n
    · have hBr := hB.below hbr
      obtain ⟨ad, rfl, hadb, hcell⟩ := hBr.at_ (k := k) (by rw [ints_length, hn]; exact hlt)
      have hlx : k < ns.length := by omega
      have hcz : (ints ns)[k]'(by rw [ints_length]; exact hlx) = .int .i64 ns[k] := by simp [ints]
      rw [hcz] at hcell
      have HS := Lib.hid (show bs ++ puts (ns.take (k + 1)) = (bs ++ puts (ns.take k)) ++ Plain.put ns[k] by rw [puts_succ ns k hlx, List.append_assoc])
      clear hcz
      generalize ns[k] = z at *
      generalize bs ++ puts (ns.take k) = cur at *
      go_wp2_with fail
      refine (put_any Ar capr cur z _ (by have := HL.out; omega) hAr).mono ?_
      rintro e w2 ⟨v, rfl, hown, hb2⟩
      rw [← HS.out] at hown
      obtain ⟨A4, cap4, rfl, hc4, hm4, -, hL4⟩ := own_form hown
      clear hown
      go_wp2
      go_roundw
      case rel => exact ⟨k + 1, cap4, A4, by go_num, by omega, by rw [List.length_append], hc4, hm4, hL4, hbr.trans (hb2.mono hbr.size)⟩
      case measure => simp [intOf]; omega
    · obtain rfl : k = n := by omega
      rw [List.take_of_length_le (by omega)] at *
      go_wp2
      go_ret
      exact ⟨_, _, rfl, hlr, hmr, hAr, hbr⟩

/-- texts as cells -/
def strs (ss : List (List UInt8)) : List Value := ss.map fun s => .string (str s)
theorem strs_length (ss : List (List UInt8)) : (strs ss).length = ss.length := by simp [strs]

theorem putTexts_any (A : Option Addr) (cap : Nat) (bs : List UInt8) (B : Option Addr) (n capB : Nat) (ss : List (List UInt8)) (w : World) (hm : bs.length ≤ 1000000) (hlc : bs.length ≤ cap) (hcm : cap ≤ maxLen) (hn : ss.length = n) (hn10 : n ≤ 10) (hss : ∀ s ∈ ss, s.length ≤ maxLen) (hA : Lies w A (cells bs)) (hB : Lies w B (strs ss)) :
    Calls Tryd.prog 29 #[.slice A bs.length cap, .slice B n capB] w (Gives w (bs ++ putTs ss)) := by
  go_enter Tryd.func29, Tryd.ntmps29
  go_wp2
  go_loopw [0, 9] (fun b i wr => ∃ (k capr : Nat) (Ar : Option Addr), i = .int .i64 k ∧ k ≤ n ∧ b = .slice Ar (bs ++ putTs (ss.take k)).length capr ∧ (bs ++ putTs (ss.take k)).length ≤ capr ∧ capr ≤ maxLen ∧ Lies wr Ar (cells (bs ++ putTs (ss.take k))) ∧ Below w.heap.size w wr) (fun _ i _ => n - (intOf i).toNat)
  case atStart => exact ⟨0, cap, A, rfl, Nat.zero_le _, by simp [putTs], by simpa [putTs] using hlc, hcm, by simpa [putTs] using hA, Below.refl _ _⟩
  case round =>
    obtain ⟨k, capr, Ar, rfl, hk, rfl, hlr, hmr, hAr, hbr⟩ := hrel
    have HL := Lib.hid (show (bs ++ putTs (ss.take k)).length ≤ 1000000 + 330 by
      have := putTs_len (ss.take k); rw [List.length_append]; rw [List.length_take] at this; omega)
    by_cases hlt : k < n
    · have hBr := hB.below hbr
      obtain ⟨ad, rfl, hadb, hcell⟩ := hBr.at_ (k := k) (by rw [strs_length, hn]; exact hlt)
      have hlx : k < ss.length := by omega
      have hcz : (strs ss)[k]'(by rw [strs_length]; exact hlx) = .string (str ss[k]) := by simp [strs]
      rw [hcz] at hcell
      have HS := Lib.hid (show bs ++ putTs (ss.take (k + 1)) = (bs ++ putTs (ss.take k)) ++ Plain.putText ss[k] by rw [putTs_succ ss k hlx, List.append_assoc])
      have HZ := Lib.hid (hss ss[k] (List.getElem_mem hlx))
      clear hcz
      generalize ss[k] = z at *
      generalize bs ++ putTs (ss.take k) = cur at *
      have HP := Lib.hid (putText_any Ar capr cur z wr (by have := HL.out; omega) hAr HZ.out)
      generalize str z = Z at *
      go_wp2_with fail
      refine HP.out.mono ?_
      rintro e w2 ⟨v, rfl, hown, hb2⟩
      rw [← HS.out] at hown
      obtain ⟨A4, cap4, rfl, hc4, hm4, -, hL4⟩ := own_form hown
      clear hown
      go_wp2
      go_roundw
      case rel => exact ⟨k + 1, cap4, A4, by go_num, by omega, by rw [List.length_append], hc4, hm4, hL4, hbr.trans (hb2.mono hbr.size)⟩
      case measure => simp [intOf]; omega
    · obtain rfl : k = n := by omega
      rw [List.take_of_length_le (by omega)] at *
      go_wp2
      go_ret
      exact ⟨_, _, rfl, hlr, hmr, hAr, hbr⟩

theorem size_zeroCells (n : Nat) : (Builtin.zeroCells #[Value.int .u8 0] n).size = n := by
  unfold Builtin.zeroCells
  simp
/-- slices.Grow(nil, n): room of one's own, with nothing in it -/
theorem grow_nil (n : Nat) (w : World) (hn : n ≤ 70368744177664) :
    Calls Tryd.prog 41 #[.slice none 0 0, .int .i64 n] w fun e w' => ∃ v, e = .returned v ∧ w'.ownsRow w.heap.size 5 1 v 0 [] ∧ Below w.heap.size w w' := by
  obtain ⟨i0, hi, hz0, hz1, hz2⟩ := info_parts infoU8
  rcases Nat.eq_zero_or_pos n with rfl | h0
  · go_enter Tryd.func41, Tryd.ntmps41
    go_wp2
    go_ret
    exact ⟨_, rfl, World.ownsRow_nil _ _ _ _, Below.refl _ _⟩
  · have hrun := fun ty => Lib.run_append_nil_zeros (P := Tryd.prog) w 24 3 ty 5 i0 (.int .u8 0) .i64 .i64 Tryd.underlying24 Tryd.underlying3 hi hz0 n h0 (by omega) (by omega) (by rw [hz2]; omega)
    have hge := grownCap_ge w n 0 5
    have hle := grownCap_le_maxLen w n 0 5 (by unfold maxLen; omega)
    generalize grownCap w n 0 5 = C at *
    have hsz : (Builtin.zeroCells (Value.int IntKind.u8 0).cells n ++ Builtin.zeroCells (Value.int IntKind.u8 0).cells (C - n)).size = C := by
      rw [Array.size_append]
      have e : (Value.int IntKind.u8 0).cells = #[Value.int .u8 0] := rfl
      rw [e, size_zeroCells, size_zeroCells]; omega
    generalize Builtin.zeroCells (Value.int IntKind.u8 0).cells n ++ Builtin.zeroCells (Value.int IntKind.u8 0).cells (C - n) = Z at *
    have HZ := Lib.hid hsz
    clear hsz
    unfold maxLen at hle
    go_enter Tryd.func41, Tryd.ntmps41
    go_wp2_with (at_builtin; refine Lib.wpList_append_run _ rfl _ _ _ _ rfl _ _ rfl rfl _ _ (hrun _) ?_)
    go_wp2
    go_ret
    refine ⟨_, rfl, ⟨by simp, .inr ⟨w.heap.size, C, Z, rfl, Nat.le_refl _, ?_, by omega, by unfold maxLen; omega, by rw [HZ.out]; omega, by simp⟩⟩, ?_⟩
    · exact heap_alloc_new w.drew _
    · exact (Below.refl _ _).drew.alloc (by simp) _

set_option maxHeartbeats 4000000 in
/-- slices.Concat(a, b): the bytes of both, in memory of its own -/
theorem concat2 (A : Option Addr) (n cap : Nat) (bs : List UInt8) (A2 : Option Addr) (n2 cap2 : Nat) (bs2 : List UInt8) (g : Nat) (w : World) (hn : bs.length = n) (hn2 : bs2.length = n2) (hm : n ≤ 35184372088832) (hm2 : n2 ≤ 35184372088832) (hA : Lies w A (cells bs)) (hA2 : Lies w A2 (cells bs2)) (hS : g < w.heap.size)
    (hS0 : w.cell? ⟨g, 0, none⟩ = some (.slice A n cap)) (hS1 : w.cell? ⟨g, 1, none⟩ = some (.slice A2 n2 cap2)) :
    Calls Tryd.prog 30 #[.slice (some ⟨g, 0, none⟩) 2 2] w (Made w (bs ++ bs2)) := by
  obtain ⟨i0, hi, hz0, hz1, hz2⟩ := info_parts infoU8
  have hcl := Lib.hid (show (cells bs).length = n by rw [cells_length, hn])
  have hcl2 := Lib.hid (show (cells bs2).length = n2 by rw [cells_length, hn2])
  have HF := Lib.hid (show ∀ (v : Value) (w' : World), w'.ownsRow w.heap.size 5 1 v (n + n2) (cells bs ++ cells bs2) → Below w.heap.size w w' → Made w (bs ++ bs2) (.returned v) w' from
      fun v w' ho hb => ⟨v, rfl, by rw [cells_append, List.length_append, hn, hn2]; simpa using ho, hb⟩)
  have H1 := Lib.hid (cells_one bs)
  have H2 := Lib.hid (cells_one bs2)
  have HS := Lib.hid hS
  generalize bs ++ bs2 = out at *
  generalize cells bs = cs at *
  generalize cells bs2 = cs2 at *
  clear hn hn2
  have HA := Lib.hid hA
  have HA2 := Lib.hid hA2
  clear hA hA2
  go_enter Tryd.func30, Tryd.ntmps30
  go_wp2
  refine wp_loop_rounds 3 ?_
  rw [rounds_succ]
  go_wp2
  rw [rounds_succ]
  go_wp2
  rw [rounds_succ]
  go_wp2_with fail
  have hG := grow_nil (n + n2) w (by omega)
  rw [show ((n + n2 : Nat) : Int) = (n : Int) + (n2 : Int) by omega] at hG
  refine hG.mono ?_
  clear hG
  rintro e w1 ⟨v, rfl, hown, hb1⟩
  have HO := Lib.hid hown
  clear hown
  have c0 : w1.cell? ⟨g, 0, none⟩ = some (.slice A n cap) := by rw [hb1.cell (p := ⟨g, 0, none⟩) HS.out]; exact hS0
  have c1 : w1.cell? ⟨g, 1, none⟩ = some (.slice A2 n2 cap2) := by rw [hb1.cell (p := ⟨g, 1, none⟩) HS.out]; exact hS1
  go_wp2
  refine wp_loop_rounds 3 ?_
  rw [rounds_succ]
  go_wp2_with (at_builtin; refine wpList_app rfl _ _ 24 rfl w.heap.size 5 i0 (.int .u8 0) Tryd.underlying24 hi hz0 hz1 hz2 rfl v 0 [] rfl HO.out A n cap cs rfl hcl.out (HA.out.below hb1) H1.out (by omega) hb1.size ?_)
  intro v2 w2 ho2 hg2 _
  have hb2 : Below w.heap.size w w2 := hb1.grown hg2 hb1.size (fun q hg => (HO.out.lt q hg).1)
  have HO2 := Lib.hid ho2
  clear ho2 hg2
  have c1' : w2.cell? ⟨g, 1, none⟩ = some (.slice A2 n2 cap2) := by rw [hb2.cell (p := ⟨g, 1, none⟩) HS.out]; exact hS1
  clear c0 c1
  go_wp2
  rw [rounds_succ]
  go_wp2_with (at_builtin; refine wpList_app rfl _ _ 24 rfl w.heap.size 5 i0 (.int .u8 0) Tryd.underlying24 hi hz0 hz1 hz2 rfl v2 n cs rfl HO2.out A2 n2 cap2 cs2 rfl hcl2.out (HA2.out.below hb2) H2.out (by omega) hb2.size ?_)
  intro v3 w3 ho3 hg3 _
  have hb3 : Below w.heap.size w w3 := hb2.grown hg3 hb2.size (fun q hg => (HO2.out.lt q hg).1)
  have HO3 := Lib.hid ho3
  clear ho3 hg3
  go_wp2
  rw [rounds_succ]
  go_wp2
  go_ret
  exact HF.out _ _ HO3.out hb3
end Go.Proofs.YtiipcnldedjkdaaDoor
