/-
  Sp1: Layer 3: span.within, Right, End, Less, and the laws' Great: what they answer, for every argument. Nothing is assumed.
  Sp2: Layer 3: span.putNumbers, putTexts, slices.Concat of two, and span.Put: what they answer, for every argument. Nothing is assumed but that bytes lie in memory.
  Sp3: Layer 3: span.Put: what it answers, for every argument. Nothing is assumed but that bytes lie in memory.
-/
import Derived.Test.YthcchfhkeghkhaaBase
import Derived.Test.YthcchfhkeghkhaaTxC
import Derived.Test.YthcchfhkeghkhaaMath
import Derived.Test.YthcchfhkeghkhaaVint
import Derived.Lib.AppendZeros

namespace Go.Proofs.Ythcchfhkeghkhaa
open Go.RowKit
set_option maxRecDepth 100000

/-- numbers as cells -/
def ints (xs : List Int) : List Value := xs.map fun x => .int .i64 x
theorem ints_length (xs : List Int) : (ints xs).length = xs.length := by simp [ints]

theorem within_any (lo hi : Int) (A : Option Addr) (n cap : Nat) (xs : List Int) (w : World) (hn : xs.length = n) (hm : n ≤ 1000) (hA : Lies w A (ints xs)) :
    Calls Try.prog 52 #[.int .i64 lo, .int .i64 hi, .slice A n cap] w fun e w' => e = .returned (.bool (xs.all (Plain.inN lo hi))) ∧ w = w' := by
  go_enter Try.func52, Try.ntmps52
  go_wp2
  go_loopw [11] (fun i wr => ∃ k : Nat, i = .int .i64 k ∧ k ≤ n ∧ (xs.take k).all (Plain.inN lo hi) = true ∧ w = wr) (fun i _ => n - (intOf i).toNat)
  case atStart => exact ⟨0, rfl, Nat.zero_le _, by simp, rfl⟩
  case round =>
    obtain ⟨k, rfl, hk, hall, rfl⟩ := hrel
    by_cases hlt : k < n
    · obtain ⟨ad, rfl, hadb, hcell⟩ := hA.at_ (k := k) (by rw [ints_length, hn]; exact hlt)
      have hlx : k < xs.length := by omega
      have hcz : (ints xs)[k]'(by rw [ints_length]; exact hlx) = .int .i64 xs[k] := by simp [ints]
      rw [hcz] at hcell
      have HT := Lib.hid (show (xs.take (k + 1)).all (Plain.inN lo hi) = Plain.inN lo hi xs[k] by rw [List.take_succ_eq_append_getElem hlx, List.all_append, hall]; simp)
      have HD := Lib.hid (show Plain.inN lo hi xs[k] = false → xs.all (Plain.inN lo hi) = false from fun h => by
        rw [Bool.eq_false_iff]; intro hh; rw [List.all_eq_true] at hh; rw [hh _ (List.getElem_mem hlx)] at h; cases h)
      have HI := Lib.hid (Plain.inN_iff lo hi xs[k])
      clear hcz hall
      generalize xs[k] = z at *
      by_cases h1 : z < lo
      · go_wp2
        go_ret
        exact ⟨by rw [HD.out (by rw [Bool.eq_false_iff]; intro h; have := HI.out.1 h; omega)]; rfl, rfl⟩
      · by_cases h2 : hi < z
        · go_wp2
          go_ret
          exact ⟨by rw [HD.out (by rw [Bool.eq_false_iff]; intro h; have := HI.out.1 h; omega)]; rfl, rfl⟩
        · go_wp2
          go_roundw
          case rel => exact ⟨k + 1, by go_num, by omega, by rw [HT.out]; exact HI.out.2 (by omega), trivial⟩
          case measure => simp [intOf]; omega
    · obtain rfl : k = n := by omega
      rw [List.take_of_length_le (by omega)] at hall
      have HH := Lib.hid hall
      clear hall
      go_wp2
      go_ret
      exact ⟨by rw [HH.out]; rfl, rfl⟩

/-- a span's value -/
def spanV (t i p s d : Int) (SV NM : ByteArray) : Value := .agg #[.int .i64 t, .int .i64 i, .int .i64 p, .int .i64 s, .int .i64 d, .string SV, .string NM]

theorem lies_made (w : World) (g : Nat) (xs : List Value) (cs : Array Value) (t : TypeId) (h : xs = cs.toList) (hg : w.heap.size = g) : Lies (w.alloc (.cells cs t)) (some ⟨g, 0, none⟩) xs := by
  subst h hg; exact Lies.new w cs t

set_option maxHeartbeats 4000000 in
theorem right_any (t i p s d : Int) (SV NM : ByteArray) (w : World) (_hV : SV.size ≤ maxLen) (_hN : NM.size ≤ maxLen) :
    Calls Try.prog 41 #[.agg #[.int .i64 t, .int .i64 i, .int .i64 p, .int .i64 s, .int .i64 d, .string SV, .string NM]] w fun e w' => e = .returned (.bool (Plain.rightN t i p s d SV.size NM.size)) ∧ Below w.heap.size w w' := by
  unfold maxLen at _hV _hN
  obtain ⟨R, hR⟩ : ∃ R, Plain.rightN t i p s d SV.size NM.size = R := ⟨_, rfl⟩
  obtain ⟨b1, h1⟩ : ∃ b1, [t, i].all (Plain.inN 1 281474976710656) = b1 := ⟨_, rfl⟩
  obtain ⟨b2, h2⟩ : ∃ b2, [p, s, d].all (Plain.inN 0 281474976710656) = b2 := ⟨_, rfl⟩
  obtain ⟨b3, h3⟩ : ∃ b3, [s + d].all (Plain.inN 0 281474976710656) = b3 := ⟨_, rfl⟩
  obtain ⟨b4, h4⟩ : ∃ b4, [(SV.size : Int)].all (Plain.inN 1 32) = b4 := ⟨_, rfl⟩
  obtain ⟨b5, h5⟩ : ∃ b5, [(NM.size : Int)].all (Plain.inN 0 32) = b5 := ⟨_, rfl⟩
  have hall : R = ((((b1 && b2) && b3) && b4) && b5) := by
    rw [← hR, ← h1, ← h2, ← h3, ← h4, ← h5]
    simp [Plain.rightN, Bool.and_assoc]
  have hsd : b2 = true → (0 ≤ s ∧ s ≤ 281474976710656) ∧ (0 ≤ d ∧ d ≤ 281474976710656) := by
    intro h; rw [h] at h2; simp [Plain.inN] at h2; omega
  rw [hR]
  have H1 := Lib.hid h1
  have H2 := Lib.hid h2
  have H3 := Lib.hid h3
  have H4 := Lib.hid h4
  have H5 := Lib.hid h5
  have HA := Lib.hid hall
  clear h1 h2 h3 h4 h5 hall hR
  go_enter Try.func41, Try.ntmps41
  go_wp2_with fail
  refine (within_any 1 281474976710656 _ 2 2 [t, i] _ rfl (by omega) (lies_made _ _ _ _ _ rfl (by simp))).mono ?_
  rintro e w' ⟨rfl, rfl⟩
  rw [H1.out]
  rcases b1 with _ | _
  · go_wp2
    go_ret
    exact ⟨by rw [HA.out]; rfl, by go_grown⟩
  go_wp2_with fail
  refine (within_any 0 281474976710656 _ 3 3 [p, s, d] _ rfl (by omega) (lies_made _ _ _ _ _ rfl (by simp))).mono ?_
  rintro e w' ⟨rfl, rfl⟩
  rw [H2.out]
  rcases b2 with _ | _
  · go_wp2
    go_ret
    exact ⟨by rw [HA.out]; rfl, by go_grown⟩
  obtain ⟨hs, hd⟩ := hsd rfl
  go_wp2_with fail
  refine (within_any 0 281474976710656 _ 1 1 [s + d] _ rfl (by omega) (lies_made _ _ _ _ _ rfl (by simp))).mono ?_
  rintro e w' ⟨rfl, rfl⟩
  rw [H3.out]
  rcases b3 with _ | _
  · go_wp2
    go_ret
    exact ⟨by rw [HA.out]; rfl, by go_grown⟩
  go_wp2_with fail
  refine (within_any 1 32 _ 1 1 [(SV.size : Int)] _ rfl (by omega) (lies_made _ _ _ _ _ rfl (by simp))).mono ?_
  rintro e w' ⟨rfl, rfl⟩
  rw [H4.out]
  rcases b4 with _ | _
  · go_wp2
    go_ret
    exact ⟨by rw [HA.out]; rfl, by go_grown⟩
  go_wp2_with fail
  refine (within_any 0 32 _ 1 1 [(NM.size : Int)] _ rfl (by omega) (lies_made _ _ _ _ _ rfl (by simp))).mono ?_
  rintro e w' ⟨rfl, rfl⟩
  rw [H5.out]
  go_wp2
  go_ret
  exact ⟨by rw [HA.out]; rfl, by go_grown⟩

/-- End: of a right one its Start and Dur, together -/
def endN (r : Bool) (s d : Int) : Int := if r then s + d else 0
def lessN (s i s' i' : Int) : Bool := if s = s' then decide (i < i') else decide (s < s')
theorem less_any (t i p s d : Int) (SV NM : ByteArray) (t' i' p' s' d' : Int) (SV' NM' : ByteArray) (w : World) :
    Calls Try.prog 74 #[.agg #[.int .i64 t, .int .i64 i, .int .i64 p, .int .i64 s, .int .i64 d, .string SV, .string NM], .agg #[.int .i64 t', .int .i64 i', .int .i64 p', .int .i64 s', .int .i64 d', .string SV', .string NM']] w fun e w' => e = .returned (.bool (lessN s i s' i')) ∧ Below w.heap.size w w' := by
  unfold lessN
  by_cases h : s = s'
  · subst h
    rw [if_pos rfl]
    go_enter Try.func74, Try.ntmps74
    go_wp2
    go_ret
    exact ⟨rfl, by go_grown⟩
  · rw [if_neg h]
    go_enter Try.func74, Try.ntmps74
    go_wp2
    go_ret
    exact ⟨rfl, by go_grown⟩

end Go.Proofs.Ythcchfhkeghkhaa

namespace Go.Proofs.Ythcchfhkeghkhaa
open Go.RowKit
set_option maxRecDepth 100000

/-- what a call hands back that makes bytes, or hands on some: they lie in memory; nothing that was there has turned -/
def Gives (w : World) (bs : List UInt8) (e : Ending) (w' : World) : Prop := ∃ A cap, e = .returned (.slice A bs.length cap) ∧ bs.length ≤ cap ∧ cap ≤ maxLen ∧ Lies w' A (cells bs) ∧ Below w.heap.size w w'

/-- numbers' bytes, one behind the other -/
def puts (ns : List Int) : List UInt8 := (ns.map Plain.put).flatten
theorem puts_succ (ns : List Int) (k : Nat) (h : k < ns.length) : puts (ns.take (k + 1)) = puts (ns.take k) ++ Plain.put ns[k] := by
  unfold puts
  rw [List.take_succ_eq_append_getElem h, List.map_append, List.flatten_append]
  simp
theorem puts_len (ns : List Int) : (puts ns).length ≤ 7 * ns.length := by
  induction ns with
  | nil => simp [puts]
  | cons n ns ih =>
    have := Plain.put_le n
    simp only [puts, List.map_cons, List.flatten_cons, List.length_append, List.length_cons] at ih ⊢
    omega
def putTs (ss : List (List UInt8)) : List UInt8 := (ss.map Plain.putText).flatten
theorem putTs_succ (ss : List (List UInt8)) (k : Nat) (h : k < ss.length) : putTs (ss.take (k + 1)) = putTs (ss.take k) ++ Plain.putText ss[k] := by
  unfold putTs
  rw [List.take_succ_eq_append_getElem h, List.map_append, List.flatten_append]
  simp
theorem putTs_len (ss : List (List UInt8)) : (putTs ss).length ≤ 33 * ss.length := by
  induction ss with
  | nil => simp [putTs]
  | cons n ns ih =>
    have := Plain.putText_small n
    simp only [putTs, List.map_cons, List.flatten_cons, List.length_append, List.length_cons] at ih ⊢
    omega

theorem putNumbers_any (A : Option Addr) (cap : Nat) (bs : List UInt8) (B : Option Addr) (n capB : Nat) (ns : List Int) (w : World) (hm : bs.length ≤ 1000000) (hlc : bs.length ≤ cap) (hcm : cap ≤ maxLen) (hn : ns.length = n) (hn10 : n ≤ 10) (hA : Lies w A (cells bs)) (hB : Lies w B (ints ns)) :
    Calls Try.prog 93 #[.slice A bs.length cap, .slice B n capB] w (Gives w (bs ++ puts ns)) := by
  go_enter Try.func93, Try.ntmps93
  go_wp2
  go_loopw [0, 9] (fun b i wr => ∃ (k capr : Nat) (Ar : Option Addr), i = .int .i64 k ∧ k ≤ n ∧ b = .slice Ar (bs ++ puts (ns.take k)).length capr ∧ (bs ++ puts (ns.take k)).length ≤ capr ∧ capr ≤ maxLen ∧ Lies wr Ar (cells (bs ++ puts (ns.take k))) ∧ Below w.heap.size w wr) (fun _ i _ => n - (intOf i).toNat)
  case atStart => exact ⟨0, cap, A, rfl, Nat.zero_le _, by simp [puts], by simpa [puts] using hlc, hcm, by simpa [puts] using hA, Below.refl _ _⟩
  case round =>
    obtain ⟨k, capr, Ar, rfl, hk, rfl, hlr, hmr, hAr, hbr⟩ := hrel
    have HL := Lib.hid (show (bs ++ puts (ns.take k)).length ≤ 1000000 + 70 by
      have := puts_len (ns.take k); rw [List.length_append]; rw [List.length_take] at this; omega)
    by_cases hlt : k < n
    · have hBr := hB.below hbr
      obtain ⟨ad, rfl, hadb, hcell⟩ := hBr.at_ (k := k) (by rw [ints_length, hn]; exact hlt)
      have hlx : k < ns.length := by omega
      have hcz : (ints ns)[k]'(by rw [ints_length]; exact hlx) = .int .i64 ns[k] := by simp [ints]
      rw [hcz] at hcell
      have HS := Lib.hid (show bs ++ puts (ns.take (k + 1)) = (bs ++ puts (ns.take k)) ++ Plain.put ns[k] by rw [puts_succ ns k hlx, List.append_assoc])
      clear hcz
      generalize ns[k] = z at *
      generalize bs ++ puts (ns.take k) = cur at *
      go_wp2_with fail
      refine (put_any Ar capr cur z _ (by have := HL.out; omega) hAr).mono ?_
      rintro e w2 ⟨v, rfl, hown, hb2⟩
      rw [← HS.out] at hown
      obtain ⟨A4, cap4, rfl, hc4, hm4, -, hL4⟩ := own_form hown
      clear hown
      go_wp2
      go_roundw
      case rel => exact ⟨k + 1, cap4, A4, by go_num, by omega, by rw [List.length_append], hc4, hm4, hL4, hbr.trans (hb2.mono hbr.size)⟩
      case measure => simp [intOf]; omega
    · obtain rfl : k = n := by omega
      rw [List.take_of_length_le (by omega)] at *
      go_wp2
      go_ret
      exact ⟨_, _, rfl, hlr, hmr, hAr, hbr⟩

/-- texts as cells -/

theorem putTexts_any (A : Option Addr) (cap : Nat) (bs : List UInt8) (B : Option Addr) (n capB : Nat) (ss : List (List UInt8)) (w : World) (hm : bs.length ≤ 1000000) (hlc : bs.length ≤ cap) (hcm : cap ≤ maxLen) (hn : ss.length = n) (hn10 : n ≤ 10) (hss : ∀ s ∈ ss, s.length ≤ maxLen) (hA : Lies w A (cells bs)) (hB : Lies w B (strs ss)) :
    Calls Try.prog 94 #[.slice A bs.length cap, .slice B n capB] w (Gives w (bs ++ putTs ss)) := by
  go_enter Try.func94, Try.ntmps94
  go_wp2
  go_loopw [0, 9] (fun b i wr => ∃ (k capr : Nat) (Ar : Option Addr), i = .int .i64 k ∧ k ≤ n ∧ b = .slice Ar (bs ++ putTs (ss.take k)).length capr ∧ (bs ++ putTs (ss.take k)).length ≤ capr ∧ capr ≤ maxLen ∧ Lies wr Ar (cells (bs ++ putTs (ss.take k))) ∧ Below w.heap.size w wr) (fun _ i _ => n - (intOf i).toNat)
  case atStart => exact ⟨0, cap, A, rfl, Nat.zero_le _, by simp [putTs], by simpa [putTs] using hlc, hcm, by simpa [putTs] using hA, Below.refl _ _⟩
  case round =>
    obtain ⟨k, capr, Ar, rfl, hk, rfl, hlr, hmr, hAr, hbr⟩ := hrel
    have HL := Lib.hid (show (bs ++ putTs (ss.take k)).length ≤ 1000000 + 330 by
      have := putTs_len (ss.take k); rw [List.length_append]; rw [List.length_take] at this; omega)
    by_cases hlt : k < n
    · have hBr := hB.below hbr
      obtain ⟨ad, rfl, hadb, hcell⟩ := hBr.at_ (k := k) (by rw [strs_length, hn]; exact hlt)
      have hlx : k < ss.length := by omega
      have hcz : (strs ss)[k]'(by rw [strs_length]; exact hlx) = .string (str ss[k]) := by simp [strs]
      rw [hcz] at hcell
      have HS := Lib.hid (show bs ++ putTs (ss.take (k + 1)) = (bs ++ putTs (ss.take k)) ++ Plain.putText ss[k] by rw [putTs_succ ss k hlx, List.append_assoc])
      have HZ := Lib.hid (hss ss[k] (List.getElem_mem hlx))
      clear hcz
      generalize ss[k] = z at *
      generalize bs ++ putTs (ss.take k) = cur at *
      have HP := Lib.hid (putText_any Ar capr cur z wr (by have := HL.out; omega) hAr HZ.out)
      generalize str z = Z at *
      go_wp2_with fail
      refine HP.out.mono ?_
      rintro e w2 ⟨v, rfl, hown, hb2⟩
      rw [← HS.out] at hown
      obtain ⟨A4, cap4, rfl, hc4, hm4, -, hL4⟩ := own_form hown
      clear hown
      go_wp2
      go_roundw
      case rel => exact ⟨k + 1, cap4, A4, by go_num, by omega, by rw [List.length_append], hc4, hm4, hL4, hbr.trans (hb2.mono hbr.size)⟩
      case measure => simp [intOf]; omega
    · obtain rfl : k = n := by omega
      rw [List.take_of_length_le (by omega)] at *
      go_wp2
      go_ret
      exact ⟨_, _, rfl, hlr, hmr, hAr, hbr⟩

theorem size_zeroCells (n : Nat) : (Builtin.zeroCells #[Value.int .u8 0] n).size = n := by
  unfold Builtin.zeroCells
  simp
/-- slices.Grow(nil, n): room of one's own, with nothing in it -/
theorem grow_nil (n : Nat) (w : World) (hn : n ≤ 70368744177664) :
    Calls Try.prog 101 #[.slice none 0 0, .int .i64 n] w fun e w' => ∃ v, e = .returned v ∧ w'.ownsRow w.heap.size 5 1 v 0 [] ∧ Below w.heap.size w w' := by
  obtain ⟨i0, hi, hz0, hz1, hz2⟩ := info_parts infoU8
  rcases Nat.eq_zero_or_pos n with rfl | h0
  · go_enter Try.func101, Try.ntmps101
    go_wp2
    go_ret
    exact ⟨_, rfl, World.ownsRow_nil _ _ _ _, Below.refl _ _⟩
  · have hrun := fun ty => Lib.run_append_nil_zeros (P := Try.prog) w 68 3 ty 5 i0 (.int .u8 0) .i64 .i64 Try.underlying68 Try.underlying3 hi hz0 n h0 (by omega) (by omega) (by rw [hz2]; omega)
    have hge := grownCap_ge w n 0 5
    have hle := grownCap_le_maxLen w n 0 5 (by unfold maxLen; omega)
    generalize grownCap w n 0 5 = C at *
    have hsz : (Builtin.zeroCells (Value.int IntKind.u8 0).cells n ++ Builtin.zeroCells (Value.int IntKind.u8 0).cells (C - n)).size = C := by
      rw [Array.size_append]
      have e : (Value.int IntKind.u8 0).cells = #[Value.int .u8 0] := rfl
      rw [e, size_zeroCells, size_zeroCells]; omega
    generalize Builtin.zeroCells (Value.int IntKind.u8 0).cells n ++ Builtin.zeroCells (Value.int IntKind.u8 0).cells (C - n) = Z at *
    have HZ := Lib.hid hsz
    clear hsz
    unfold maxLen at hle
    go_enter Try.func101, Try.ntmps101
    go_wp2_with (at_builtin; refine Lib.wpList_append_run _ rfl _ _ _ _ rfl _ _ rfl rfl _ _ (hrun _) ?_)
    go_wp2
    go_ret
    refine ⟨_, rfl, ⟨by simp, .inr ⟨w.heap.size, C, Z, rfl, Nat.le_refl _, ?_, by omega, by unfold maxLen; omega, by rw [HZ.out]; omega, by simp⟩⟩, ?_⟩
    · exact heap_alloc_new w.drew _
    · exact (Below.refl _ _).drew.alloc (by simp) _

set_option maxHeartbeats 4000000 in
/-- slices.Concat(a, b): the bytes of both, in memory of its own -/
theorem concat2 (A : Option Addr) (n cap : Nat) (bs : List UInt8) (A2 : Option Addr) (n2 cap2 : Nat) (bs2 : List UInt8) (g : Nat) (w : World) (hn : bs.length = n) (hn2 : bs2.length = n2) (hm : n ≤ 35184372088832) (hm2 : n2 ≤ 35184372088832) (hA : Lies w A (cells bs)) (hA2 : Lies w A2 (cells bs2)) (hS : g < w.heap.size)
    (hS0 : w.cell? ⟨g, 0, none⟩ = some (.slice A n cap)) (hS1 : w.cell? ⟨g, 1, none⟩ = some (.slice A2 n2 cap2)) :
    Calls Try.prog 95 #[.slice (some ⟨g, 0, none⟩) 2 2] w (Made w (bs ++ bs2)) := by
  obtain ⟨i0, hi, hz0, hz1, hz2⟩ := info_parts infoU8
  have hcl := Lib.hid (show (cells bs).length = n by rw [cells_length, hn])
  have hcl2 := Lib.hid (show (cells bs2).length = n2 by rw [cells_length, hn2])
  have HF := Lib.hid (show ∀ (v : Value) (w' : World), w'.ownsRow w.heap.size 5 1 v (n + n2) (cells bs ++ cells bs2) → Below w.heap.size w w' → Made w (bs ++ bs2) (.returned v) w' from
      fun v w' ho hb => ⟨v, rfl, by rw [cells_append, List.length_append, hn, hn2]; simpa using ho, hb⟩)
  have H1 := Lib.hid (cells_one bs)
  have H2 := Lib.hid (cells_one bs2)
  have HS := Lib.hid hS
  generalize bs ++ bs2 = out at *
  generalize cells bs = cs at *
  generalize cells bs2 = cs2 at *
  clear hn hn2
  have HA := Lib.hid hA
  have HA2 := Lib.hid hA2
  clear hA hA2
  go_enter Try.func95, Try.ntmps95
  go_wp2
  refine wp_loop_rounds 3 ?_
  rw [rounds_succ]
  go_wp2
  rw [rounds_succ]
  go_wp2
  rw [rounds_succ]
  go_wp2_with fail
  have hG := grow_nil (n + n2) w (by omega)
  rw [show ((n + n2 : Nat) : Int) = (n : Int) + (n2 : Int) by omega] at hG
  refine hG.mono ?_
  clear hG
  rintro e w1 ⟨v, rfl, hown, hb1⟩
  have HO := Lib.hid hown
  clear hown
  have c0 : w1.cell? ⟨g, 0, none⟩ = some (.slice A n cap) := by rw [hb1.cell (p := ⟨g, 0, none⟩) HS.out]; exact hS0
  have c1 : w1.cell? ⟨g, 1, none⟩ = some (.slice A2 n2 cap2) := by rw [hb1.cell (p := ⟨g, 1, none⟩) HS.out]; exact hS1
  go_wp2
  refine wp_loop_rounds 3 ?_
  rw [rounds_succ]
  go_wp2_with (at_builtin; refine wpList_app rfl _ _ 68 rfl w.heap.size 5 i0 (.int .u8 0) Try.underlying68 hi hz0 hz1 hz2 rfl v 0 [] rfl HO.out A n cap cs rfl hcl.out (HA.out.below hb1) H1.out (by omega) hb1.size ?_)
  intro v2 w2 ho2 hg2 _
  have hb2 : Below w.heap.size w w2 := hb1.grown hg2 hb1.size (fun q hg => (HO.out.lt q hg).1)
  have HO2 := Lib.hid ho2
  clear ho2 hg2
  have c1' : w2.cell? ⟨g, 1, none⟩ = some (.slice A2 n2 cap2) := by rw [hb2.cell (p := ⟨g, 1, none⟩) HS.out]; exact hS1
  clear c0 c1
  go_wp2
  rw [rounds_succ]
  go_wp2_with (at_builtin; refine wpList_app rfl _ _ 68 rfl w.heap.size 5 i0 (.int .u8 0) Try.underlying68 hi hz0 hz1 hz2 rfl v2 n cs rfl HO2.out A2 n2 cap2 cs2 rfl hcl2.out (HA2.out.below hb2) H2.out (by omega) hb2.size ?_)
  intro v3 w3 ho3 hg3 _
  have hb3 : Below w.heap.size w w3 := hb2.grown hg3 hb2.size (fun q hg => (HO2.out.lt q hg).1)
  have HO3 := Lib.hid ho3
  clear ho3 hg3
  go_wp2
  rw [rounds_succ]
  go_wp2
  go_ret
  exact HF.out _ _ HO3.out hb3
end Go.Proofs.Ythcchfhkeghkhaa

namespace Go.Proofs.Ythcchfhkeghkhaa
open Go.RowKit
set_option maxRecDepth 100000

theorem own_mono {w : World} {base base' n : Nat} {e : TypeId} {v : Value} {xs : List Value} (h : w.ownsRow base e 1 v n xs) (hb : base' ≤ base) : w.ownsRow base' e 1 v n xs :=
  ⟨h.1, h.2.imp id fun ⟨g, cap, cur, h1, h2, h3⟩ => ⟨g, cap, cur, h1, Nat.le_trans hb h2, h3⟩⟩
theorem Made.up {w w1 w' : World} {bs : List UInt8} {e : Ending} (h : Made w1 bs e w') (hb : Below w.heap.size w w1) : Made w bs e w' := by
  obtain ⟨v, rfl, ho, hb2⟩ := h
  exact ⟨v, rfl, own_mono ho hb.size, hb.trans (hb2.mono hb.size)⟩

/-- a span's value -/
def spanOf (x : Plain.Sp) : Value := .agg #[.int .i64 x.t, .int .i64 x.i, .int .i64 x.p, .int .i64 x.s, .int .i64 x.d, .string (str x.sv), .string (str x.nm)]

theorem bytes_puts (x : Plain.Sp) : x.bytes = puts [x.t, x.i, x.p, x.s, x.d] ++ putTs [x.sv, x.nm] := by
  simp [Plain.Sp.bytes, puts, putTs]

set_option maxHeartbeats 4000000 in
theorem spanPut_any (A : Option Addr) (n cap : Nat) (bs : List UInt8) (x : Plain.Sp) (w : World) (hn : bs.length = n) (hm : n ≤ 1000000) (hA : Lies w A (cells bs)) (hsv : x.sv.length ≤ maxLen) (hnm : x.nm.length ≤ maxLen) :
    Calls Try.prog 76 #[.slice A n cap, .agg #[.int .i64 x.t, .int .i64 x.i, .int .i64 x.p, .int .i64 x.s, .int .i64 x.d, .string (str x.sv), .string (str x.nm)]] w (Made w (bs ++ x.outp)) := by
  have hr : x.right = x.right := rfl
  conv at hr => lhs; unfold Plain.Sp.right
  rw [← str_size x.sv, ← str_size x.nm] at hr
  have hout : x.outp = if x.right then x.bytes else [] := rfl
  rw [bytes_puts] at hout
  obtain ⟨t, i, p, s, d, sv, nm⟩ := x
  simp only at *
  have HSV := Lib.hid (show ∀ q ∈ [sv, nm], q.length ≤ maxLen from fun q hq => by simp at hq; rcases hq with rfl | rfl <;> assumption)
  rw [← str_size sv] at hsv
  rw [← str_size nm] at hnm
  have HSS := Lib.hid (show strs [sv, nm] = [.string (str sv), .string (str nm)] from rfl)
  have HTS := Lib.hid (putTs_len [sv, nm])
  have HPS := Lib.hid (puts_len [t, i, p, s, d])
  generalize str sv = SV at *
  generalize str nm = NM at *
  generalize Plain.Sp.outp { t := t, i := i, p := p, s := s, d := d, sv := sv, nm := nm } = out at *
  generalize Plain.Sp.right { t := t, i := i, p := p, s := s, d := d, sv := sv, nm := nm } = R at *
  have HR := Lib.hid hr
  have HOUT := Lib.hid hout
  clear hr hout
  go_enter Try.func76, Try.ntmps76
  go_wp2_with fail
  refine (right_any t i p s d SV NM _ hsv hnm).mono ?_
  rintro e w1 ⟨rfl, hb1⟩
  rw [HR.out]
  have hb0 : Below w.heap.size w w1 := ((Below.refl w.heap.size w).alloc (Nat.le_refl _) (.cells #[.int .i64 t, .int .i64 i, .int .i64 p, .int .i64 s, .int .i64 d, .string SV, .string NM] 45)).trans (hb1.mono (by simp))
  have hs1 := hb1.size
  simp only [World.size_alloc] at hs1
  rcases R with _ | _
  · go_wp2_with fail
    refine (concat2 A n cap bs none 0 0 [] _ _ hn rfl (by omega) (by omega) ((hA.below hb0).keep (by simp) fun q hq => World.cell?_alloc_lt _ _ q hq) Lies.nil (by simp) (by simp) (by simp)).mono ?_
    rintro e w2 hmade
    have hm2 := hmade.up (hb0.alloc hb0.size _)
    obtain ⟨v, rfl, ho, hb2⟩ := hm2
    have HO := Lib.hid ho
    clear ho hmade
    go_wp2
    go_ret
    exact ⟨v, rfl, by rw [HOUT.out]; exact HO.out, hb2⟩
  · have hcells : ∀ j u, #[Value.int .i64 t, .int .i64 i, .int .i64 p, .int .i64 s, .int .i64 d, .string SV, .string NM][j]? = some u → w1.cell? ⟨w.heap.size, j, none⟩ = some u := fun j u hu => by
      rw [hb1.cell (by simp)]; simpa using hu
    have c0 := hcells 0 _ rfl
    have c1 := hcells 1 _ rfl
    have c2 := hcells 2 _ rfl
    have c3 := hcells 3 _ rfl
    have c4 := hcells 4 _ rfl
    have c5 := hcells 5 _ rfl
    have c6 := hcells 6 _ rfl
    clear hcells
    go_wp2_with fail
    refine (putNumbers_any none 0 [] _ 5 5 [t, i, p, s, d] _ (by simp) (by simp) (by simp) rfl (by omega) Lies.nil (lies_made _ _ _ _ _ rfl rfl)).mono ?_
    rintro e w2 ⟨A2, cap2, rfl, hl2, hm2, hL2, hb2⟩
    have hb02 : Below w.heap.size w w2 := (hb0.alloc hb0.size _).trans (hb2.mono (by simp; omega))
    have d5 : w2.cell? ⟨w.heap.size, 5, none⟩ = some (.string SV) := by rw [hb2.cell (by simp; omega), World.cell?_alloc_lt _ _ _ (by simp; omega)]; exact c5
    have d6 : w2.cell? ⟨w.heap.size, 6, none⟩ = some (.string NM) := by rw [hb2.cell (by simp; omega), World.cell?_alloc_lt _ _ _ (by simp; omega)]; exact c6
    clear c0 c1 c2 c3 c4 c5 c6
    simp only [List.nil_append] at hl2 hL2 ⊢
    have HP1 := HPS.out
    generalize puts [t, i, p, s, d] = ps at *
    simp only [List.length_cons, List.length_nil] at HP1
    go_wp2_with fail
    refine (putTexts_any A2 cap2 ps _ 2 2 [sv, nm] _ (by omega) hl2 hm2 rfl (by omega) HSV.out (hL2.keep (by simp) fun q hq => World.cell?_alloc_lt _ _ q hq) (lies_made _ _ _ _ _ (by rw [HSS.out]) rfl)).mono ?_
    rintro e w3 ⟨A3, cap3, rfl, hl3, hm3, hL3, hb3⟩
    have hb03 : Below w.heap.size w w3 := (hb02.alloc hb02.size _).trans (hb3.mono (by have := hb02.size; simp; omega))
    clear d5 d6
    have HT1 := HTS.out
    simp only [List.length_cons, List.length_nil] at HT1
    have HL3 := Lib.hid (show (ps ++ putTs [sv, nm]).length = ps.length + (putTs [sv, nm]).length from List.length_append)
    have HB := Lib.hid (show bs ++ out = bs ++ (ps ++ putTs [sv, nm]) by rw [HOUT.out]; rfl)
    generalize ps ++ putTs [sv, nm] = qs at *
    generalize putTs [sv, nm] = ts at *
    have hq := HL3.out
    go_wp2_with fail
    refine (concat2 A n cap bs A3 qs.length cap3 qs _ _ hn rfl (by omega) (by omega) ((hA.below hb03).keep (by simp) fun q hq => World.cell?_alloc_lt _ _ q hq) (hL3.keep (by simp) fun q hq => World.cell?_alloc_lt _ _ q hq) (by simp) (by simp) (by simp; omega)).mono ?_
    rintro e w4 hmade
    have hm4 := hmade.up (hb03.alloc hb03.size _)
    obtain ⟨v, rfl, ho, hb4⟩ := hm4
    have HO := Lib.hid ho
    clear ho hmade
    go_wp2
    go_ret
    exact ⟨v, rfl, by rw [HB.out]; exact HO.out, hb4⟩
end Go.Proofs.Ythcchfhkeghkhaa
