/-
  Layer 1: what vint.grown and vint.Put answer, of any bytes and any integer: new memory, with the number's bytes behind b's; nothing that was there has turned. Assumed: b is at most 2^40 bytes long.
-/
import Derived.Test.YtiipcnldedjkdaaDoorVSize
import Derived.Test.YtiipcnldedjkdaaDoorMem
import Derived.Maps.AppendAt
import Derived.Laws.CopyOwn
import Derived.Lib.AppendStr
namespace Go.Proofs.YtiipcnldedjkdaaDoor
open Go.RowKit
set_option maxRecDepth 100000

theorem grown_any (A : Option Addr) (cap : Nat) (bs : List UInt8) (more : Nat) (w : World) (hm : bs.length ≤ 1099511627776) (hmore : more ≤ 1024) (hA : Lies w A (cells bs)) :
    Calls Tryd.prog 49 #[.slice A bs.length cap, .int .i64 more] w (Made w bs) := by
  obtain ⟨i0, hi, hz0, hz1, hz2⟩ := info_parts infoU8
  have hmk : ∀ u : World, (Instr.makeSlice 24 (.int .i64 (bs.length : Int)) (.int .i64 ((bs.length : Int) + (more : Int)))).run Tryd.prog u =
      .ok (.slice (some ⟨u.heap.size, 0, none⟩) bs.length (bs.length + more)) (u.alloc (.cells (madeCells #[.int .u8 0] (bs.length + more)) 5)) := fun u => by
    have h := run_make (P := Tryd.prog) u 24 5 i0 (.int .u8 0) Tryd.underlying24 hi hz0 .i64 .i64 (bs.length : Int) ((bs.length : Int) + (more : Int)) (by omega) (by omega) (by rw [hz2]; omega) (by omega)
    have e : ((bs.length : Int) + (more : Int)).toNat = bs.length + more := by omega
    rw [e] at h
    simpa [hz1, Value.cells] using h
  have hms := Lib.hid (size_madeCells #[.int .u8 0] (bs.length + more))
  generalize madeCells #[.int .u8 0] (bs.length + more) = Z at *
  have hcl := Lib.hid (cells_length bs)
  have hA2 : Lies (w.alloc (.cells Z 5)) A (cells bs) := hA.keep (by simp) fun p hp => World.cell?_alloc_lt w _ p hp
  have h1 := cells_one bs
  generalize hcs : cells bs = cs at *
  have HCS := Lib.hid hcs
  have H1 := Lib.hid h1
  clear hcs h1
  go_enter Tryd.func49, Tryd.ntmps49
  go_wp2_with (with_reducible refine wpList_copy_splice rfl _ _ 24 24 rfl 5 Tryd.underlying24 sizeU8 _ _ _ _ _ _ rfl rfl w.heap.size 0 Z.toList 5 ?c1 cs ?c2 ?c3 ?c4 H1.out w.heap.size w ?c5 (Nat.le_refl _) ?c6)
  case c1 => exact heap_alloc_new w _
  case c2 => rw [hcl.out]; simp
  case c3 =>
    intro hpos
    rcases hA2 with h | ⟨ad, e, _, hc⟩
    · rw [h] at hpos; simp at hpos
    · exact ⟨ad, e, hc⟩
  case c4 => have := hms.out; have := hcl.out; simp; omega
  case c5 => exact (Below.refl _ _).alloc (Nat.le_refl _) _
  case c6 =>
    intro w' hg hb
    go_wp2
    go_ret
    refine ⟨_, rfl, ⟨by rw [cells_length]; omega, .inr ⟨w.heap.size, bs.length + more, _, rfl, Nat.le_refl _, hg.out, by omega, by unfold maxLen; omega, ?_, ?_⟩⟩, hb⟩
    · have := length_splice Z.toList 0 cs (by have := hms.out; have := hcl.out; simp; omega)
      simp only [List.size_toArray, this]
      have := hms.out
      simp; omega
    · have := hcl.out
      rw [← HCS.out]
      have e : bs.length * 1 = (cells bs).length := by rw [cells_length]; omega
      rw [e]
      simp [splice, HCS.out]

theorem and127_i64 (m : Nat) (h : m < 4611686018427387904) : bits .and .i64 (m : Int) 127 = ((m % 128 : Nat) : Int) := by
  have e : ∀ c : Nat, c < 4611686018427387904 → (BitVec.ofInt 64 (c : Int)).toNat = c := fun c hc => by
    rw [BitVec.ofInt_natCast, BitVec.toNat_ofNat]; exact Nat.mod_eq_of_lt (by omega)
  show IntKind.i64.wrap ((BitVec.ofInt 64 (m : Int) &&& BitVec.ofInt 64 ((127 : Nat) : Int)).toNat : Int) = _
  rw [BitVec.toNat_and, e m h, e 127 (by omega), nat_mask7, IntKind.wrap_i64]
  omega
theorem or128_u8 (r : Nat) (h : r < 128) : bits .or .u8 (r : Int) 128 = ((r + 128 : Nat) : Int) := by
  have h1 := u8_or_nat r 128 (by omega) (by omega)
  have h2 : 128 ||| r = 128 + r := nat_join 7 128 r (by decide) (by omega)
  rw [Nat.or_comm, h2, Nat.add_comm] at h1
  exact h1

theorem enc_more (k n : Nat) : Plain.enc (k + 2) n = UInt8.ofNat (n % 128 + 128) :: Plain.enc (k + 1) (n / 128) := by rw [Plain.enc, if_neg (by omega)]

def PutRel (w : World) (bs : List UInt8) (size n : Nat) (vn vo vl : Value) (wr : World) : Prop :=
  ∃ (k m : Nat) (done : List UInt8), vn = .int .i64 m ∧ vl = .int .i64 k ∧ k ≤ size ∧ m ≤ 281474976710656 ∧ wr.ownsRow w.heap.size 5 1 vo done.length (cells done) ∧ Below w.heap.size w wr ∧ done.length + k = bs.length + size ∧ done ++ Plain.enc k m = bs ++ Plain.enc size n

theorem put_yes (A : Option Addr) (cap : Nat) (bs : List UInt8) (n : Nat) (w : World) (hm : bs.length ≤ 1099511627776) (hn : n ≤ 281474976710656) (hA : Lies w A (cells bs)) :
    Calls Tryd.prog 39 #[.slice A bs.length cap, .int .i64 n] w (Made w (bs ++ Plain.enc (Plain.sz n) n)) := by
  obtain ⟨i0, hi, hz0, hz1, hz2⟩ := info_parts infoU8
  have hsz := Plain.sz_le n
  have hlen := Lib.hid (show (bs ++ Plain.enc (Plain.sz n) n).length = bs.length + Plain.sz n by rw [List.length_append, Plain.enc_length])
  have HS := Lib.hid (size_yes n w hn)
  generalize hq : Plain.sz n = size at *
  clear hq
  go_enter Tryd.func39, Tryd.ntmps39
  go_wp2_with fail
  refine HS.out.mono ?_
  rintro e w' ⟨rfl, rfl⟩
  go_wp2_with fail
  refine (grown_any A cap bs size _ hm (by omega) hA).mono ?_
  rintro e w1 ⟨v, rfl, hown, hb⟩
  have HO := Lib.hid hown
  clear hown
  go_wp2
  go_loopw [1, 6, 7] (fun vn vo vl wr => PutRel w bs size n vn vo vl wr) (fun _ _ vl _ => (intOf vl).toNat)
  case atStart => exact ⟨size, n, bs, rfl, rfl, Nat.le_refl _, hn, HO.out, hb, rfl, rfl⟩
  case round =>
    obtain ⟨k, m, done, rfl, rfl, hk, hmx, hown, hbr, hdl, hde⟩ := hrel
    have HO := Lib.hid hown
    have HD := Lib.hid hde
    have HDL := Lib.hid hdl
    clear hown hde hdl
    rcases Nat.lt_trichotomy k 1 with h1 | rfl | h1
    · obtain rfl : k = 0 := by omega
      go_wp2
      go_ret
      refine ⟨_, rfl, ?_, hbr⟩
      have e : bs ++ Plain.enc size n = done := by have := HD.out; simpa [Plain.enc] using this.symm
      rw [e]
      exact HO.out
    · have hand := and127_i64 m (by omega)
      have hr : m % 128 < 128 := Nat.mod_lt _ (by omega)
      have HE := Lib.hid (show done ++ [UInt8.ofNat (m % 128)] ++ Plain.enc 0 (m / 128) = bs ++ Plain.enc size n by rw [← HD.out]; simp [Plain.enc])
      have HB := Lib.hid (Plain.byte_last m)
      generalize m % 128 = r at *
      go_wp2_with (at_builtin; refine wpList_append_own_at _ rfl _ _ 24 rfl w.heap.size 5 i0 (.int .u8 0) 1 1 Tryd.underlying24 hi hz0 hz1 hz2 rfl (by decide) u6 done.length (cells done) rfl ?a1 ⟨wr.heap.size, 0, none⟩ 1 1 [.int .u8 (r : Int)] rfl rfl ?a2 ?a3 ?a4 ?a5 ?a6 ?a7)
      case a1 => exact HO.out.alloc _
      case a2 => exact cell_one_new _ _ _
      case a3 => simp [Value.oneCell']
      case a4 => have := HDL.out; unfold maxLen; omega
      case a5 => have := HDL.out; omega
      case a6 => have := hbr.size; simp; omega
      case a7 =>
        intro v' w2 hown2 hgrow hnil hat
        have hb2 : Below w.heap.size w w2 := (hbr.alloc hbr.size _).grown hgrow (by have := hbr.size; simp; omega) (fun g hg => (HO.out.lt g hg).1)
        have HO2 := Lib.hid (show w2.ownsRow w.heap.size 5 1 v' (done ++ [UInt8.ofNat r]).length (cells (done ++ [UInt8.ofNat r])) by
          rw [cells_append, List.length_append]; simpa [cells, HB.out] using hown2)
        clear hown2 hgrow hnil hat
        go_wp2
        go_roundw
        case rel => exact ⟨0, m / 128, done ++ [UInt8.ofNat r], by go_num, rfl, by omega, by omega, HO2.out, hb2, by have := HDL.out; simp; omega, HE.out⟩
        case measure => simp [intOf]
    · obtain ⟨k, rfl⟩ : ∃ j, k = j + 2 := ⟨k - 2, by omega⟩
      have hand := and127_i64 m (by omega)
      have hr : m % 128 < 128 := Nat.mod_lt _ (by omega)
      have HE := Lib.hid (show done ++ [UInt8.ofNat (m % 128 + 128)] ++ Plain.enc (k + 1) (m / 128) = bs ++ Plain.enc size n by rw [← HD.out, enc_more, List.append_assoc]; rfl)
      have HB := Lib.hid (Plain.byte_more m)
      generalize m % 128 = r at *
      have hor := or128_u8 r hr
      generalize hq : r + 128 = q at *
      have hq2 : q ≤ 255 := by omega
      clear hq
      go_wp2_with (at_builtin; refine wpList_append_own_at _ rfl _ _ 24 rfl w.heap.size 5 i0 (.int .u8 0) 1 1 Tryd.underlying24 hi hz0 hz1 hz2 rfl (by decide) u6 done.length (cells done) rfl ?b1 ⟨wr.heap.size, 0, none⟩ 1 1 [.int .u8 (q : Int)] rfl rfl ?b2 ?b3 ?b4 ?b5 ?b6 ?b7)
      case b1 => exact HO.out.alloc _
      case b2 => exact cell_one_new _ _ _
      case b3 => simp [Value.oneCell']
      case b4 => have := HDL.out; unfold maxLen; omega
      case b5 => have := HDL.out; omega
      case b6 => have := hbr.size; simp; omega
      case b7 =>
        intro v' w2 hown2 hgrow hnil hat
        have hb2 : Below w.heap.size w w2 := (hbr.alloc hbr.size _).grown hgrow (by have := hbr.size; simp; omega) (fun g hg => (HO.out.lt g hg).1)
        have HO2 := Lib.hid (show w2.ownsRow w.heap.size 5 1 v' (done ++ [UInt8.ofNat q]).length (cells (done ++ [UInt8.ofNat q])) by
          rw [cells_append, List.length_append]; simpa [cells, HB.out] using hown2)
        clear hown2 hgrow hnil hat
        go_wp2
        go_roundw
        case rel => exact ⟨k + 1, m / 128, done ++ [UInt8.ofNat q], by go_num, by go_num, by omega, by omega, HO2.out, hb2, by have := HDL.out; simp; omega, HE.out⟩
        case measure => simp [intOf]; omega

theorem put_no (A : Option Addr) (cap : Nat) (bs : List UInt8) (n : Int) (w : World) (hm : bs.length ≤ 1099511627776) (hn : n < 0 ∨ 281474976710656 < n) (hA : Lies w A (cells bs)) :
    Calls Tryd.prog 39 #[.slice A bs.length cap, .int .i64 n] w (Made w bs) := by
  have HN := Lib.hid hn
  clear hn
  go_enter Tryd.func39, Tryd.ntmps39
  go_wp2_with fail
  refine (size_no n _ HN.out).mono ?_
  rintro e w' ⟨rfl, rfl⟩
  go_wp2_with fail
  refine (grown_any A cap bs 0 _ hm (by omega) hA).mono ?_
  rintro e w1 ⟨v, rfl, hown, hb⟩
  have HO := Lib.hid hown
  clear hown
  go_wp2
  refine wp_loop_rounds 1 ?_
  rw [rounds_succ]
  go_wp2
  go_ret
  exact ⟨_, rfl, HO.out, hb⟩

/-- Put, of any bytes and any integer. -/
theorem put_any (A : Option Addr) (cap : Nat) (bs : List UInt8) (n : Int) (w : World) (hm : bs.length ≤ 1099511627776) (hA : Lies w A (cells bs)) :
    Calls Tryd.prog 39 #[.slice A bs.length cap, .int .i64 n] w (Made w (bs ++ Plain.put n)) := by
  unfold Plain.put
  split
  · rename_i h
    obtain ⟨m, rfl⟩ := Int.eq_ofNat_of_zero_le h.1
    exact put_yes A cap bs m w hm (by omega) hA
  · rw [List.append_nil]
    exact put_no A cap bs n w hm (by omega) hA

/-- PutText, of any bytes and any text. -/
theorem putText_any (A : Option Addr) (cap : Nat) (bs s : List UInt8) (w : World) (hm : bs.length ≤ 1099511627776) (hA : Lies w A (cells bs)) (hs : s.length ≤ maxLen) :
    Calls Tryd.prog 40 #[.slice A bs.length cap, .string (str s)] w (Made w (bs ++ Plain.putText s)) := by
  obtain ⟨i0, hi, hz0, hz1, hz2⟩ := info_parts infoU8
  have hsl := str_size s
  have hsc := Lib.hid (strCells_cells s)
  unfold maxLen at hs
  have HL := Lib.hid (show (bs ++ Plain.put s.length).length = bs.length + Plain.size s.length by rw [List.length_append, Plain.put_length])
  have HP := Lib.hid (put_any A cap bs s.length w hm hA)
  unfold Plain.putText
  by_cases h : 32 < s.length
  · rw [if_pos h, List.append_nil]
    generalize str s = S at *
    generalize s.length = L at *
    subst hsl
    go_enter Tryd.func40, Tryd.ntmps40
    go_wp2_with fail
    refine (grown_any A cap bs 0 _ hm (by omega) hA).mono ?_
    rintro e w1 ⟨v, rfl, hown, hb⟩
    have HO := Lib.hid hown
    clear hown
    go_wp2
    go_ret
    exact ⟨_, rfl, HO.out, hb⟩
  · rw [if_neg h, ← List.append_assoc]
    have hpl := Plain.size_le s.length
    have HF := Lib.hid (show ∀ (v : Value) (w' : World), w'.ownsRow w.heap.size 5 1 v ((bs ++ Plain.put s.length).length + s.length) (cells (bs ++ Plain.put s.length) ++ cells s) → Below w.heap.size w w' → Made w (bs ++ Plain.put s.length ++ s) (.returned v) w' from
      fun v w' ho hb => ⟨v, rfl, by rw [cells_append, List.length_append]; exact ho, hb⟩)
    generalize bs ++ Plain.put s.length ++ s = out at *
    generalize bs ++ Plain.put s.length = mid at *
    generalize str s = S at *
    generalize cells s = cs at *
    generalize hq : Plain.size s.length = q at *
    clear hq
    generalize s.length = L at *
    subst hsl
    go_enter Tryd.func40, Tryd.ntmps40
    go_wp2_with fail
    refine HP.out.mono ?_
    rintro e w1 ⟨v, rfl, hown, hb⟩
    have HO := Lib.hid hown
    clear hown
    go_wp2_with (at_builtin; refine Lib.wpList_append_own_string _ rfl _ _ 24 9 rfl w.heap.size 5 i0 Tryd.underlying24 Tryd.underlying9 hi hz0 hz1 hz2 v mid.length (cells mid) rfl ?a1 S rfl ?a2 ?a3 ?a4 ?a5)
    case a1 => exact HO.out
    case a2 => have := HL.out; unfold maxLen; omega
    case a3 => have := HL.out; omega
    case a4 => exact hb.size
    case a5 =>
      intro v' w2 hown2 hgrow hnil
      have hb2 : Below w.heap.size w w2 := hb.grown hgrow hb.size (fun g hg => (HO.out.lt g hg).1)
      rw [hsc.out] at hown2
      have HO2 := Lib.hid hown2
      clear hown2 hgrow hnil
      go_wp2
      go_ret
      exact HF.out _ _ HO2.out hb2
end Go.Proofs.YtiipcnldedjkdaaDoor
