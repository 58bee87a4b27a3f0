/-
  Bat1: Layer 4: a slice of spans in memory, batch.isBatch, and the laws' Great: what they answer, of any spans. Nothing is assumed but that the spans lie in memory.
  BatPut: Layer 4: batch.Put: the bytes that it makes, of any spans. Assumed: that the spans lie in memory, and that the program's table of sums holds what its text lays there.
  BatHd: Layer 4: bytes.HasPrefix, batch.takeHead and batch.takeSpans: what they answer, of any bytes. Assumed: that the bytes lie in memory, and that errors.errorType is what its own text lays.
  BatSp: Layer 4: batch.takeSpans: what it answers, of any bytes. Assumed: that the bytes lie in memory, and that errors.errorType is what its own text lays.
-/
import Derived.Test.YtimelckjbofhbaaDoorSpanO
import Derived.Test.YtimelckjbofhbaaDoorMath
import Derived.Test.YtimelckjbofhbaaDoorRef3
import Derived.RegionTactic
import Derived.BigRegion
import Derived.Test.YtimelckjbofhbaaDoorCrcC
import Derived.Lib.SlBytesConst
import Derived.Test.YtimelckjbofhbaaDoorSpanG

namespace Go.Proofs.YtimelckjbofhbaaDoor
open Go.RowKit
set_option maxRecDepth 100000

/-- the k-th span's cells, in every later world, as the walk spells them -/
theorem at_span {w : World} {A : Option Addr} {l : List Plain.Sp} (h : Lies w A (flat l)) (k : Nat) (hk : k < l.length) :
    ∃ ad, A = some ad ∧ ad.block < w.heap.size ∧ ∀ u, Below w.heap.size w u → u.cell? (ad.add (k * 7)) = some (.int .i64 l[k].t) ∧ u.cell? ⟨(ad.add (k * 7)).block, (ad.add (k * 7)).off + 1, none⟩ = some (.int .i64 l[k].i) ∧ u.cell? ⟨(ad.add (k * 7)).block, (ad.add (k * 7)).off + 2, none⟩ = some (.int .i64 l[k].p) ∧ u.cell? ⟨(ad.add (k * 7)).block, (ad.add (k * 7)).off + 3, none⟩ = some (.int .i64 l[k].s) ∧ u.cell? ⟨(ad.add (k * 7)).block, (ad.add (k * 7)).off + 4, none⟩ = some (.int .i64 l[k].d) ∧ u.cell? ⟨(ad.add (k * 7)).block, (ad.add (k * 7)).off + 5, none⟩ = some (.string (str l[k].sv)) ∧ u.cell? ⟨(ad.add (k * 7)).block, (ad.add (k * 7)).off + 6, none⟩ = some (.string (str l[k].nm)) := by
  obtain ⟨ad, rfl, hadb, -⟩ := h.at_ (k := k * 7) (by rw [flat_length]; omega)
  refine ⟨ad, rfl, hadb, ?_⟩
  have hc2 : ∀ j u, (spanCells l[k])[j]? = some u → w.cell? ((ad.add (k * 7)).add j) = some u := fun j u hu => by
    have hj : j < 7 := by
      rcases Nat.lt_or_ge j 7 with h | h
      · exact h
      · rw [List.getElem?_eq_none (by rw [spanCells_length]; exact h)] at hu; cases hu
    have hf := flat_at l k j l[k] (List.getElem?_eq_getElem hk) hj
    rw [hu] at hf
    rw [addr_add]
    rcases h with h | ⟨ad', e, _, hc⟩
    · rw [h] at hf; simp at hf
    · injection e with e; subst e; exact hc _ _ hf
  have hpb : (ad.add (k * 7)).block < w.heap.size := by rw [addr_block]; exact hadb
  exact fun u hu => ⟨(hu.cell hpb).trans (hc2 0 _ rfl), (hu.cell (p := ⟨(ad.add (k * 7)).block, (ad.add (k * 7)).off + 1, none⟩) hpb).trans (hc2 1 _ rfl), (hu.cell (p := ⟨(ad.add (k * 7)).block, (ad.add (k * 7)).off + 2, none⟩) hpb).trans (hc2 2 _ rfl), (hu.cell (p := ⟨(ad.add (k * 7)).block, (ad.add (k * 7)).off + 3, none⟩) hpb).trans (hc2 3 _ rfl), (hu.cell (p := ⟨(ad.add (k * 7)).block, (ad.add (k * 7)).off + 4, none⟩) hpb).trans (hc2 4 _ rfl), (hu.cell (p := ⟨(ad.add (k * 7)).block, (ad.add (k * 7)).off + 5, none⟩) hpb).trans (hc2 5 _ rfl), (hu.cell (p := ⟨(ad.add (k * 7)).block, (ad.add (k * 7)).off + 6, none⟩) hpb).trans (hc2 6 _ rfl)⟩

/-- spans whose texts may be -/
def Fine (l : List Plain.Sp) : Prop := ∀ x ∈ l, x.sv.length ≤ maxLen ∧ x.nm.length ≤ maxLen
theorem sp_right (x : Plain.Sp) : Plain.rightN x.t x.i x.p x.s x.d (str x.sv).size (str x.nm).size = x.right := by rw [str_size, str_size]; rfl

set_option maxHeartbeats 2000000 in
theorem isBatch_any (A : Option Addr) (n cap : Nat) (l : List Plain.Sp) (w : World) (hn : l.length = n) (hm : n ≤ maxLen) (hA : Lies w A (flat l)) (hS : Fine l) :
    Calls Tryd.prog 26 #[.slice A n cap] w fun e w' => e = .returned (.bool (Plain.isB l)) ∧ Below w.heap.size w w' := by
  have HN := Lib.hid hn
  have HA := Lib.hid hA
  have HS := Lib.hid hS
  have HI := Lib.hid (Plain.isB_iff l)
  unfold maxLen at hm
  clear hn hA hS
  by_cases h256 : 256 < n
  · go_enter Tryd.func26, Tryd.ntmps26
    go_wp2
    go_ret
    refine ⟨?_, Below.refl _ _⟩
    have : Plain.isB l = false := by rw [Bool.eq_false_iff]; intro h; have := (HI.out.1 h).1; have := HN.out; omega
    rw [this]; rfl
  go_enter Tryd.func26, Tryd.ntmps26
  go_wp2
  go_loopw [10] (fun i wr => ∃ k : Nat, i = .int .i64 k ∧ k ≤ n ∧ (∀ x ∈ l.take k, x.right = true) ∧ Below w.heap.size w wr) (fun i _ => n - (intOf i).toNat)
  case atStart => exact ⟨0, rfl, Nat.zero_le _, by simp, Below.refl _ _⟩
  case round =>
    obtain ⟨k, rfl, hk, hall, hbr⟩ := hrel
    have HALL := Lib.hid hall
    clear hall
    by_cases hlt : k < n
    · have hkl : k < l.length := by rw [HN.out]; exact hlt
      obtain ⟨ad, rfl, hadb, hc⟩ := at_span HA.out k hkl
      obtain ⟨x0, x1, x2, x3, x4, x5, x6⟩ := hc wr hbr
      obtain ⟨hxv, hxn⟩ := HS.out l[k] (List.getElem_mem hkl)
      have HT := Lib.hid (show l.take (k + 1) = l.take k ++ [l[k]] from List.take_succ_eq_append_getElem hkl)
      have HM := Lib.hid (show l[k] ∈ l from List.getElem_mem hkl)
      have hR := sp_right l[k]
      rw [← str_size] at hxv hxn
      clear hc
      generalize l[k] = x at *
      obtain ⟨R, hRR⟩ : ∃ R, x.right = R := ⟨_, rfl⟩
      have HRR := Lib.hid hRR
      rw [hRR] at hR
      have HR := Lib.hid hR
      clear hR hRR
      obtain ⟨xt, xi, xp, xs, xd, xv, xn⟩ := x
      simp only at *
      generalize str xv = XV at *
      generalize str xn = XN at *
      go_wp2_with fail
      clear x0 x1 x2 x3 x4 x5 x6
      refine (right_any xt xi xp xs xd XV XN _ hxv hxn).mono ?_
      rintro e w2 ⟨rfl, d2⟩
      rw [HR.out]
      have d3 := (hbr.alloc hbr.size (.cells #[.int .i64 xt, .int .i64 xi, .int .i64 xp, .int .i64 xs, .int .i64 xd, .string XV, .string XN] 39)).trans (d2.mono (by have := hbr.size; simp; omega))
      rcases R with _ | _
      · go_wp2
        go_ret
        refine ⟨?_, d3⟩
        have : Plain.isB l = false := by
          rw [Bool.eq_false_iff]; intro h
          have h1 := (HI.out.1 h).2 _ HM.out
          rw [HRR.out] at h1; cases h1
        rw [this]; rfl
      · go_wp2
        go_roundw
        case rel =>
          refine ⟨k + 1, by go_num, by omega, ?_, d3⟩
          rw [HT.out]
          intro y hy
          rcases List.mem_append.1 hy with hy | hy
          · exact HALL.out y hy
          · rw [List.mem_singleton.1 hy]; exact HRR.out
        case measure => simp [intOf]; omega
    · obtain rfl : k = n := by omega
      go_wp2
      go_ret
      refine ⟨?_, hbr⟩
      have : Plain.isB l = true := HI.out.2 ⟨by rw [HN.out]; omega, by
        have := HALL.out
        rwa [List.take_of_length_le (by rw [HN.out]; omega)] at this⟩
      rw [this]; rfl
end Go.Proofs.YtimelckjbofhbaaDoor

namespace Go.Proofs.YtimelckjbofhbaaDoor
open Go.RowKit
set_option maxRecDepth 100000

theorem lies_frz (w : World) (g : Nat) (xs : List Value) (cs : Array Value) (t : TypeId) (fr : Nat × Nat) (h : xs = cs.toList) (hg : w.heap.size = g) : Lies (w.alloc (.cells cs t fr)) (some ⟨g, 0, none⟩) xs := by
  subst h hg; exact .inr ⟨_, rfl, by simp, World.news_of_block (heap_alloc_new w _)⟩
theorem outp_right (x : Plain.Sp) (h : x.right = true) : x.outp = x.bytes := by unfold Plain.Sp.outp; rw [if_pos h]

set_option maxHeartbeats 2000000 in
theorem batchPut_any (A : Option Addr) (n cap : Nat) (l : List Plain.Sp) (w : World) (hT : Tab w) (hn : l.length = n) (hm : n ≤ maxLen) (hA : Lies w A (flat l)) (hS : Fine l) :
    Calls Tryd.prog 13 #[.slice A n cap] w (Made w (Plain.bput l)) := by
  obtain ⟨i0, hi, hz0, hz1, hz2⟩ := info_parts infoU8
  have HN := Lib.hid hn
  have HA := Lib.hid hA
  have HS := Lib.hid hS
  have HT := Lib.hid hT
  have HIB := Lib.hid (isBatch_any A n cap l w hn hm hA hS)
  have HY := Lib.hid (Plain.bput_yes l)
  have HZ := Lib.hid (Plain.bput_no l)
  have HI := Lib.hid (Plain.isB_iff l)
  have HBL := Lib.hid (Plain.body_le l)
  have HBD := Lib.hid (show Plain.body l = Plain.front l.length ++ Plain.wire l from rfl)
  unfold maxLen at hm
  clear hn hA hS hT
  go_enter Tryd.func13, Tryd.ntmps13
  go_wp2_with fail
  refine HIB.out.mono ?_
  rintro e w1 ⟨rfl, c1⟩
  clear HIB
  obtain ⟨R, hR⟩ : ∃ R, Plain.isB l = R := ⟨_, rfl⟩
  rw [hR] at HY HZ HI ⊢
  clear hR
  rcases R with _ | _
  · go_wp2
    go_ret
    refine ⟨_, rfl, ?_, c1⟩
    rw [HZ.out trivial]
    exact World.ownsRow_nil _ _ _ _
  obtain ⟨h256, hright⟩ := HI.out.1 rfl
  rw [HN.out] at h256
  have HR := Lib.hid hright
  clear hright
  have cs := fun (W : World) (C : Array Value) (n c : Nat) => Lib.run_convert_bytes_const (P := Tryd.prog) W 23 5 C n c Tryd.underlying23 Tryd.underlying5
  have hL2 := lies_frz w1 w1.heap.size (cells [84, 66]) #[.int .u8 84, .int .u8 66] 5 (2, 3) rfl rfl
  have c2 : Below w.heap.size w (w1.alloc (.cells #[.int .u8 84, .int .u8 66] 5 (2, 3))) := c1.alloc c1.size _
  have HP := Lib.hid (put_any (some ⟨w1.heap.size, 0, none⟩) 2 [84, 66] (n : Int) (w1.alloc (.cells #[.int .u8 84, .int .u8 66] 5 (2, 3))) (by simp) hL2)
  clear hL2
  go_wp2_with fail
  generalize w1.alloc (.cells #[.int .u8 84, .int .u8 66] 5 (2, 3)) = W2 at *
  refine HP.out.mono ?_
  rintro e w3 ⟨v3, rfl, ho3, d3⟩
  have HO3 := Lib.hid (show w3.ownsRow W2.heap.size 5 1 v3 (Plain.front n).length (cells (Plain.front n)) from ho3)
  have HFL := Lib.hid (show (Plain.front n).length ≤ 4 by rw [Plain.front_len n h256]; split <;> omega)
  clear ho3 HP
  go_wp2
  go_loopw [3, 16] (fun v i wr => ∃ k : Nat, i = .int .i64 k ∧ k ≤ n ∧ wr.ownsRow W2.heap.size 5 1 v (Plain.front n ++ Plain.wire (l.take k)).length (cells (Plain.front n ++ Plain.wire (l.take k))) ∧ Below W2.heap.size W2 wr) (fun _ i _ => n - (intOf i).toNat)
  case atStart => exact ⟨0, rfl, Nat.zero_le _, by simpa [Plain.wire_nil] using HO3.out, d3⟩
  case round =>
    obtain ⟨k, rfl, hk, hown, hbr⟩ := hrel
    have HO := Lib.hid hown
    clear hown
    have hbw : Below w.heap.size w wr := c2.trans (hbr.mono c2.size)
    have HWL := Lib.hid (Plain.wire_len (l.take k))
    have HTL := Lib.hid (show (l.take k).length ≤ 256 by rw [List.length_take]; omega)
    by_cases hlt : k < n
    · have hkl : k < l.length := by rw [HN.out]; exact hlt
      obtain ⟨ad, rfl, hadb, hc⟩ := at_span HA.out k hkl
      obtain ⟨x0, x1, x2, x3, x4, x5, x6⟩ := hc wr hbw
      obtain ⟨hxv, hxn⟩ := HS.out l[k] (List.getElem_mem hkl)
      have HTK := Lib.hid (show Plain.wire (l.take (k + 1)) = Plain.wire (l.take k) ++ l[k].bytes by rw [List.take_succ_eq_append_getElem hkl, Plain.wire_append, Plain.wire_one])
      have HOB := Lib.hid (outp_right l[k] (HR.out l[k] (List.getElem_mem hkl)))
      have hbm := l[k].bytes_max
      have HP := Lib.hid (fun u : World => spanPut_any none 0 0 [] l[k] u rfl (by omega) Lies.nil hxv hxn)
      rw [HOB.out] at HP
      clear hc
      generalize l[k].bytes = q at *
      generalize l[k] = x at *
      obtain ⟨xt, xi, xp, xs, xd, xv, xn⟩ := x
      simp only at *
      generalize str xv = XV at *
      generalize str xn = XN at *
      go_wp2_with fail
      clear x0 x1 x2 x3 x4 x5 x6
      refine (HP.out _).mono ?_
      rintro e w5 ⟨v5, rfl, ho5, d5⟩
      obtain ⟨A5, cap5, rfl, hl5, hm5, -, hL5⟩ := own_form ho5
      have hal : Below W2.heap.size W2 (wr.alloc (.cells #[.int .i64 xt, .int .i64 xi, .int .i64 xp, .int .i64 xs, .int .i64 xd, .string XV, .string XN] 39)) := hbr.alloc hbr.size _
      have HO5 := Lib.hid (own_keep (HO.out.alloc (.cells #[.int .i64 xt, .int .i64 xi, .int .i64 xp, .int .i64 xs, .int .i64 xd, .string XV, .string XN] 39)) d5)
      have c5 : Below W2.heap.size W2 w5 := hal.trans (d5.mono hal.size)
      have HWL' := HWL.out
      have HTL' := HTL.out
      have HFL' := HFL.out
      clear ho5 d5 hal
      have HL5 := Lib.hid hL5
      clear hL5
      have hqq : ([] ++ q).length = q.length := rfl
      rw [hqq] at hl5 ⊢
      have HQ := Lib.hid (show Lies w5 A5 (cells q) from HL5.out)
      have HC1 := Lib.hid (cells_length q)
      have HC2 := Lib.hid (cells_one q)
      have HAP := Lib.hid (show cells (Plain.front n ++ Plain.wire (l.take k)) ++ cells q = cells (Plain.front n ++ Plain.wire (l.take (k + 1))) by rw [HTK.out, ← cells_append, List.append_assoc])
      have HAL := Lib.hid (show (Plain.front n ++ Plain.wire (l.take k)).length + q.length = (Plain.front n ++ Plain.wire (l.take (k + 1))).length by rw [HTK.out]; simp only [List.length_append]; omega)
      have hsm : (Plain.front n ++ Plain.wire (l.take k)).length ≤ 30000 := by rw [List.length_append]; omega
      have hql : q.length ≤ 101 := hbm
      clear HL5 hqq
      generalize cells q = Q at *
      generalize q.length = ql at *
      generalize (Plain.front n ++ Plain.wire (l.take k)).length = pl at *
      generalize cells (Plain.front n ++ Plain.wire (l.take k)) = PC at *
      go_wp2_with (at_builtin; refine wpList_app rfl _ _ 23 rfl W2.heap.size 5 i0 (.int .u8 0) Tryd.underlying23 hi hz0 hz1 hz2 rfl u3 pl PC rfl HO5.out A5 ql cap5 Q rfl HC1.out HQ.out HC2.out (by omega) c5.size ?_)
      intro v6 w6 ho6 hg6 _
      have c6 : Below W2.heap.size W2 w6 := c5.grown hg6 c5.size (fun g hg => (HO5.out.lt g hg).1)
      rw [HAP.out, HAL.out] at ho6
      have HO6 := Lib.hid ho6
      clear ho6 hg6
      go_wp2
      go_roundw
      case rel => exact ⟨k + 1, by go_num, by omega, HO6.out, c6⟩
      case measure => simp [intOf]; omega
    · obtain rfl : k = n := by omega
      have hbl := HBL.out (by rw [HN.out]; exact h256)
      have HOb : wr.ownsRow W2.heap.size 5 1 u3 (Plain.body l).length (cells (Plain.body l)) := by
        rw [HBD.out, HN.out]
        have := HO.out
        rwa [List.take_of_length_le (by rw [HN.out]; omega)] at this
      obtain ⟨Ab, capb, rfl, hlb, hmb, -, hLb⟩ := own_form HOb
      have HSE := Lib.hid (seal_walk Ab capb (Plain.body l) wr (by omega) hLb (HT.out.below hbw (Nat.le_refl _)))
      have HHY := Lib.hid (HY.out trivial)
      clear HOb hLb HO hbl
      generalize (Plain.body l).length = bl at *
      go_wp2_with fail
      refine HSE.out.mono ?_
      rintro e w6 ⟨v6, rfl, ho6, d6⟩
      have HO6 := Lib.hid ho6
      clear ho6
      go_wp2
      go_ret
      refine ⟨_, rfl, ?_, hbw.trans (d6.mono hbw.size)⟩
      rw [HHY.out]
      exact own_mono HO6.out hbw.size
end Go.Proofs.YtimelckjbofhbaaDoor

namespace Go.Proofs.YtimelckjbofhbaaDoor
open Go.RowKit
set_option maxRecDepth 100000

theorem hasPrefix_any (A B : Option Addr) (n m ca cb : Nat) (xs ys : List UInt8) (w : World) (hn : xs.length = n) (hm : ys.length = m) (hc : n ≤ ca) (_hca : ca ≤ maxLen) (hA : Lies w A (cells xs)) (hB : Lies w B (cells ys)) :
    Calls Tryd.prog 53 #[.slice A n ca, .slice B m cb] w fun e w' => e = .returned (.bool (decide (xs.take m = ys))) ∧ w = w' := by
  unfold maxLen at _hca
  by_cases h : m ≤ n
  · have hL := hA.take m
    rw [cells_take] at hL
    have HE := Lib.hid (equal_walk A B m m ca cb (xs.take m) ys w (by rw [List.length_take]; omega) hm hL hB)
    clear hL hA hB hn hm
    generalize xs.take m = zs at *
    go_enter Tryd.func53, Tryd.ntmps53
    go_wp2_with fail
    refine HE.out.mono ?_
    rintro e w' ⟨rfl, rfl⟩
    go_wp2
    go_ret
    exact ⟨rfl, rfl⟩
  · have HE := Lib.hid (show decide (xs.take m = ys) = false by
      rw [decide_eq_false_iff_not]; intro hh
      have := congrArg List.length hh
      rw [List.length_take] at this; omega)
    clear hA hB hn hm
    go_enter Tryd.func53, Tryd.ntmps53
    go_wp2
    go_ret
    exact ⟨by rw [HE.out]; rfl, rfl⟩

/-- a batch's error: nil, or a fault of a number -/
def errB (at_ code : Nat) : Value := if code = 0 then .nilIface else .iface 47 (.agg #[.int .i64 at_, .iface 26 (.int .i64 code)])
theorem errB_zero (at_ : Nat) : errB at_ 0 = .nilIface := rfl
theorem errB_pos (at_ code : Nat) (h : code ≠ 0) : errB at_ code = .iface 47 (.agg #[.int .i64 at_, .iface 26 (.int .i64 code)]) := by unfold errB; rw [if_neg h]

set_option maxHeartbeats 2000000 in
theorem takeHead_any (A : Option Addr) (n cap : Nat) (x : List UInt8) (w : World) (hn : x.length = n) (hc : n ≤ cap) (hm : cap ≤ maxLen) (hA : Lies w A (cells x)) (N a p c : Nat) (hh : Plain.hd x = (N, a, p, c)) :
    Calls Tryd.prog 35 #[.slice A n cap] w fun e w' => e = .returned (.tuple #[.int .i64 N, .int .i64 a, errB p c]) ∧ Below w.heap.size w w' := by
  have cs := fun (W : World) (C : Array Value) (n c : Nat) => Lib.run_convert_bytes_const (P := Tryd.prog) W 23 5 C n c Tryd.underlying23 Tryd.underlying5
  have hA1 : Lies (w.alloc (.cells #[.int .u8 84, .int .u8 66] 5 (2, 3))) A (cells x) := hA.keep (by simp) fun p hp => World.cell?_alloc_lt w _ p hp
  have hP1 : Lies (w.alloc (.cells #[.int .u8 84, .int .u8 66] 5 (2, 3))) (some ⟨w.heap.size, 0, none⟩) (cells [84, 66]) := .inr ⟨_, rfl, by simp, World.news_of_block (heap_alloc_new w _)⟩
  have HF := Lib.hid (hasPrefix_any A (some ⟨w.heap.size, 0, none⟩) n 2 cap 2 x [84, 66] _ hn rfl hc hm hA1 hP1)
  have hbw : Below w.heap.size w (w.alloc (.cells #[.int .u8 84, .int .u8 66] 5 (2, 3))) := (Below.refl _ _).alloc (Nat.le_refl _) _
  unfold Plain.hd at hh
  by_cases h84 : x.take 2 = [84, 66]
  rotate_left
  · rw [if_pos h84] at hh
    simp only [Prod.mk.injEq] at hh
    obtain ⟨rfl, rfl, rfl, rfl⟩ := hh
    rw [decide_eq_false h84] at HF
    clear hA hA1 hP1 h84 hn
    go_enter Tryd.func35, Tryd.ntmps35
    go_wp2_with fail
    generalize w.alloc (.cells #[.int .u8 84, .int .u8 66] 5 (2, 3)) = W1 at *
    refine HF.out.mono ?_
    rintro e w' ⟨rfl, rfl⟩
    go_wp2
    go_returns
    exact ⟨rfl, hbw⟩
  rw [if_neg (by simpa using h84)] at hh
  rw [decide_eq_true h84] at HF
  have h2n : 2 ≤ n := by
    have := congrArg List.length h84
    rw [List.length_take, hn] at this
    simp at this; omega
  have hsl : ∀ W, (Instr.sliceAt 23 (.slice A n cap) (some (.int .i64 2)) none none).run Tryd.prog W = .ok (.slice (cutA A cap 2) (n - 2) (cap - 2)) W := fun W => slice_lo A n cap 2 W h2n hc hm
  generalize hCA : cutA A cap 2 = CA at *
  have hld : (x.drop 2).length = n - 2 := by rw [List.length_drop, hn]
  have hLd := hA1.drop (k := 2) (cap := cap) (by rw [cells_length, hn]; exact hc)
  rw [cells_drop] at hLd
  have hLd : Lies (w.alloc (.cells #[.int .u8 84, .int .u8 66] 5 (2, 3))) CA (cells (x.drop 2)) := by rw [← hCA]; exact hLd
  have hsm := Plain.get_small (x.drop 2)
  rw [hld] at hsm
  have hcc := Plain.code_cases (x.drop 2)
  obtain ⟨X, hX⟩ : ∃ X, (Plain.get (x.drop 2)).1 = X := ⟨_, rfl⟩
  obtain ⟨K, hK⟩ : ∃ K, (Plain.get (x.drop 2)).2.1 = K := ⟨_, rfl⟩
  obtain ⟨C, hC⟩ : ∃ C, (Plain.get (x.drop 2)).2.2 = C := ⟨_, rfl⟩
  have HG := Lib.hid (get_is CA (n - 2) (cap - 2) (x.drop 2) _ X K C hld (by unfold maxLen at *; omega) hLd (by rw [hX]) (by rw [hK]) (by rw [hC]))
  rw [hX, hK, hC] at hh
  rw [hX, hK] at hsm
  rw [hC] at hcc
  clear hX hK hC hLd hld hA hA1 hP1 h84 hn hCA
  unfold maxLen at hm
  by_cases hC0 : C = 0
  · subst hC0
    rw [if_neg (by omega)] at hh
    by_cases h256 : 256 < X
    · rw [if_pos h256] at hh
      simp only [Prod.mk.injEq] at hh
      obtain ⟨rfl, rfl, rfl, rfl⟩ := hh
      go_enter Tryd.func35, Tryd.ntmps35
      go_wp2_with fail
      generalize w.alloc (.cells #[.int .u8 84, .int .u8 66] 5 (2, 3)) = W1 at *
      refine HF.out.mono ?_
      rintro e w' ⟨rfl, rfl⟩
      go_wp2_with fail
      refine HG.out.mono ?_
      rintro e w2 ⟨rfl, d2⟩
      go_wp2
      go_returns
      refine ⟨?_, hbw.trans (d2.mono hbw.size)⟩
      rw [errB_pos 2 12 (by omega)]
      rfl
    · rw [if_neg h256] at hh
      simp only [Prod.mk.injEq] at hh
      obtain ⟨rfl, rfl, rfl, rfl⟩ := hh
      go_enter Tryd.func35, Tryd.ntmps35
      go_wp2_with fail
      generalize w.alloc (.cells #[.int .u8 84, .int .u8 66] 5 (2, 3)) = W1 at *
      refine HF.out.mono ?_
      rintro e w' ⟨rfl, rfl⟩
      go_wp2_with fail
      refine HG.out.mono ?_
      rintro e w2 ⟨rfl, d2⟩
      go_wp2
      go_returns
      exact ⟨by rw [errB_zero]; go_num, hbw.trans (d2.mono hbw.size)⟩
  · rw [if_pos hC0] at hh
    simp only [Prod.mk.injEq] at hh
    obtain ⟨rfl, rfl, rfl, rfl⟩ := hh
    have hne : ((C : Int) == 0) = false := beq_eq_false_iff_ne.2 (by omega)
    go_enter Tryd.func35, Tryd.ntmps35
    go_wp2_with fail
    generalize w.alloc (.cells #[.int .u8 84, .int .u8 66] 5 (2, 3)) = W1 at *
    refine HF.out.mono ?_
    rintro e w' ⟨rfl, rfl⟩
    go_wp2_with fail
    refine HG.out.mono ?_
    rintro e w2 ⟨rfl, d2⟩
    go_wp2
    go_returns
    exact ⟨by rw [errB_pos 2 C hC0]; rfl, hbw.trans (d2.mono hbw.size)⟩
end Go.Proofs.YtimelckjbofhbaaDoor

namespace Go.Proofs.YtimelckjbofhbaaDoor
open Go.RowKit
set_option maxRecDepth 100000

theorem infoSp : (Tryd.prog.info? 39).map (fun i => (i.zero, i.size, i.bytes)) = some (some (.agg #[.int .i64 0, .int .i64 0, .int .i64 0, .int .i64 0, .int .i64 0, .string ⟨#[]⟩, .string ⟨#[]⟩]), 7, 72) := by kernel_rfl

/-- reading so many from here, with these got, comes to r -/
def RdsIs (x : List UInt8) (n a : Nat) (acc : List Plain.Sp) (r : List Plain.Sp × Nat × Nat) : Prop := ∀ q : Nat, q ≤ n → n ≤ q → Plain.rds x q a acc = r
theorem rds_far {x : List UInt8} {n a : Nat} {acc : List Plain.Sp} {r : List Plain.Sp × Nat × Nat} (h : Plain.rds x n a acc = r) : RdsIs x n a acc r := fun q h1 h2 => by rw [Nat.le_antisymm h1 h2]; exact h
theorem rds_near {x : List UInt8} {n a : Nat} {acc : List Plain.Sp} {r : List Plain.Sp × Nat × Nat} (h : RdsIs x n a acc r) : Plain.rds x n a acc = r := h n (Nat.le_refl _) (Nat.le_refl _)
theorem rds_stop {x : List UInt8} {n a e : Nat} {acc : List Plain.Sp} {r : List Plain.Sp × Nat × Nat} (h : RdsIs x (n + 1) a acc r) (hr : Plain.Sp.rd (x.drop a) = (Plain.Sp.zero, 0, e)) (he : e ≠ 0) : r = ([], a, e) := by
  have := rds_near h
  unfold Plain.rds at this
  rw [hr] at this
  simpa [he] using this.symm
theorem rds_go {x : List UInt8} {n a k : Nat} {s : Plain.Sp} {acc : List Plain.Sp} {r : List Plain.Sp × Nat × Nat} (h : RdsIs x (n + 1) a acc r) (hr : Plain.Sp.rd (x.drop a) = (s, k, 0)) : RdsIs x n (a + k) (acc ++ [s]) r := by
  have := rds_near h
  unfold Plain.rds at this
  rw [hr] at this
  exact rds_far (by simpa using this)
theorem rds_end {x : List UInt8} {a : Nat} {acc : List Plain.Sp} {r : List Plain.Sp × Nat × Nat} (h : RdsIs x 0 a acc r) : r = if a < x.length then ([], a, 12) else (acc, a, 0) := (rds_near h).symm

/-- a slice of spans that was handed back -/
def GivesS (w w' : World) (l : List Plain.Sp) (v : Value) : Prop := ∃ A cap, v = .slice A l.length cap ∧ l.length ≤ cap ∧ cap ≤ maxLen ∧ Lies w' A (flat l) ∧ Below w.heap.size w w'
theorem GivesS.nil {w w' : World} (h : Below w.heap.size w w') : GivesS w w' [] (.slice none 0 0) := ⟨none, 0, rfl, by simp, by unfold maxLen; omega, .inl rfl, h⟩
theorem GivesS.own {w w' : World} {l : List Plain.Sp} {v : Value} {B : Nat} (ho : w'.ownsRow B 39 7 v l.length (flat l)) (h : Below w.heap.size w w') : GivesS w w' l v := by
  rcases ho.2 with ⟨rfl, h0⟩ | ⟨g, cap, cur, rfl, hb, hg, h1, h2, h3⟩
  · have : l = [] := List.eq_nil_of_length_eq_zero h0
    subst this
    exact GivesS.nil h
  · exact ⟨_, cap, rfl, h1, h2, .inr ⟨_, rfl, (ho.lt g rfl).2, ho.cells (g := g) rfl⟩, h⟩

set_option maxHeartbeats 4000000 in
theorem takeSpans_any (A : Option Addr) (n cap : Nat) (x : List UInt8) (w : World) (hH : Handle w) (hn : x.length = n) (hc : n ≤ cap) (hm : cap ≤ maxLen) (hf : n ≤ 1099511627776) (hA : Lies w A (cells x)) (N a : Nat) (hN : N ≤ 256) (ha : a ≤ n) (l : List Plain.Sp) (p c : Nat) (hr : Plain.rds x N a [] = (l, p, c)) :
    Calls Tryd.prog 36 #[.slice A n cap, .int .i64 a, .int .i64 N] w fun e w' => ∃ v, e = .returned (.tuple #[v, errB p c]) ∧ GivesS w w' l v := by
  obtain ⟨i0, hi, hz0, hz1, hz2⟩ := info_parts infoSp
  have HH := Lib.hid hH
  have HNX := Lib.hid hn
  have HA := Lib.hid hA
  have HR0 := rds_far hr
  clear hH hn hA hr
  have hm' := hm
  unfold maxLen at hm'
  obtain ⟨W1, hmk, ho1, hg1⟩ := run_make_own (P := Tryd.prog) w w.heap.size 22 39 i0 (.agg #[.int .i64 0, .int .i64 0, .int .i64 0, .int .i64 0, .int .i64 0, .string ⟨#[]⟩, .string ⟨#[]⟩]) 7 Tryd.underlying22 hi hz0 hz1 .i64 .i64 N (by rw [hz2]; omega) (by unfold maxLen; omega) (Nat.le_refl _)
  have b1 : Below w.heap.size w W1 := (Below.refl _ _).grown hg1 (Nat.le_refl _) (fun g hg => by cases hg)
  have HO1 := Lib.hid ho1
  clear ho1 hg1
  go_enter Tryd.func36, Tryd.ntmps36
  go_wp2
  clear hmk
  go_loopw [1, 8, 15] (fun pv v i wr => ∃ (k q : Nat) (acc : List Plain.Sp), i = .int .i64 k ∧ k ≤ N ∧ pv = .int .i64 q ∧ q ≤ n ∧ acc.length = k ∧ RdsIs x (N - k) q acc (l, p, c) ∧ wr.ownsRow w.heap.size 39 7 v k (flat acc) ∧ Below w.heap.size w wr) (fun _ _ i _ => N - (intOf i).toNat)
  case atStart => exact ⟨0, a, [], rfl, Nat.zero_le _, rfl, ha, rfl, HR0, HO1.out, b1⟩
  case round =>
    obtain ⟨k, q, acc, rfl, hk, rfl, hq, hacc, HR, hown, hbr⟩ := hrel
    have HO := Lib.hid hown
    have HAC := Lib.hid hacc
    clear hown hacc
    by_cases hlt : k < N
    · have hLd := (HA.out.below hbr).drop (k := q) (cap := cap) (by rw [cells_length, HNX.out]; exact hc)
      rw [cells_drop] at hLd
      have hsl := fun W => slice_lo A n cap q W hq hc hm
      have hG := spanGet_any (cutA A cap q) (n - q) (cap - q) (x.drop q) wr (HH.out.below HH.out.lt hbr) (by rw [List.length_drop, HNX.out]) (by omega) (by omega) (by omega) hLd
      rw [show N - k = (N - (k + 1)) + 1 by omega] at HR
      generalize hCA : cutA A cap q = CA at *
      clear hLd hCA
      rcases Plain.Sp.get_cases (x.drop q) with hrd | ⟨s, hrd, hsr, hsl2, -⟩
      · obtain ⟨ee, hee, hrd⟩ : ∃ ee : Nat, (ee = 11 ∨ ee = 12) ∧ Plain.Sp.rd (x.drop q) = (Plain.Sp.zero, 0, ee) := by
          rcases hrd with h | h
          · exact ⟨11, .inl rfl, h⟩
          · exact ⟨12, .inr rfl, h⟩
        rw [hrd] at hG
        have hst := rds_stop HR hrd (by omega)
        simp only [Prod.mk.injEq] at hst
        obtain ⟨rfl, rfl, rfl⟩ := hst
        have HG := Lib.hid hG
        have hne : ((c : Int) == 0) = false := beq_eq_false_iff_ne.2 (by omega)
        clear hG hrd HR HR0
        go_wp2_with fail
        refine HG.out.mono ?_
        rintro e w2 ⟨rfl, d2⟩
        simp only [Plain.Sp.zero, str]
        go_wp2
        go_returns
        exact ⟨_, by rw [errB_pos p c (by omega)]; rfl, GivesS.nil ((hbr.trans (d2.mono hbr.size)).alloc (Nat.le_trans hbr.size d2.size) _)⟩
      · rw [hrd] at hG
        have HR2 := rds_go HR hrd
        rw [List.length_drop, HNX.out] at hsl2
        have HFL := Lib.hid (show flat acc ++ [.int .i64 s.t, .int .i64 s.i, .int .i64 s.p, .int .i64 s.s, .int .i64 s.d, .string (str s.sv), .string (str s.nm)] = flat (acc ++ [s]) by rw [flat_append]; rfl)
        generalize s.bytes.length = m at *
        have HG := Lib.hid hG
        clear hG hrd HR hsr
        obtain ⟨acc2, hacc2⟩ : ∃ acc2, acc ++ [s] = acc2 := ⟨_, rfl⟩
        have HL2 := Lib.hid (show acc2.length = k + 1 by rw [← hacc2, List.length_append, HAC.out]; rfl)
        rw [hacc2] at HR2 HFL
        clear hacc2
        obtain ⟨xt, xi, xp, xs, xd, xv, xn⟩ := s
        simp only at *
        generalize str xv = XV at *
        generalize str xn = XN at *
        go_wp2_with fail
        refine HG.out.mono ?_
        rintro e w2 ⟨rfl, d2⟩
        have hbs := hbr.size
        have hds := d2.size
        have f4 : Below w.heap.size w (w2.alloc (.cells #[.int .i64 xt, .int .i64 xi, .int .i64 xp, .int .i64 xs, .int .i64 xd, .string XV, .string XN] 39)) := (hbr.trans (d2.mono hbr.size)).alloc (Nat.le_trans hbr.size d2.size) _
        have HO4 := Lib.hid (show (w2.alloc (.cells #[.int .i64 xt, .int .i64 xi, .int .i64 xp, .int .i64 xs, .int .i64 xd, .string XV, .string XN] 39)).ownsRow w.heap.size 39 7 u8 k (flat acc) from
          World.ownsRow.alloc (HO.out.kept (row := none) ⟨d2.os, d2.tape, d2.output, d2.size, fun q hq _ => d2.block q hq⟩ (by cases hv : u8.ownBlock <;> simp)) _)
        have hbn := Blk.new w2 #[.int .i64 xt, .int .i64 xi, .int .i64 xp, .int .i64 xs, .int .i64 xd, .string XV, .string XN] 39
        obtain ⟨x0, x1, x2, x3, x4, x5, x6⟩ := hbn.seven
        have hsz4 : (w2.alloc (.cells #[.int .i64 xt, .int .i64 xi, .int .i64 xp, .int .i64 xs, .int .i64 xd, .string XV, .string XN] 39)).heap.size = w2.heap.size + 1 := by simp
        clear hbn
        go_wp2_with (at_builtin; refine wpList_append_own_at _ rfl _ _ 22 rfl w.heap.size 39 i0 (.agg #[.int .i64 0, .int .i64 0, .int .i64 0, .int .i64 0, .int .i64 0, .string ⟨#[]⟩, .string ⟨#[]⟩]) 7 72 Tryd.underlying22 hi hz0 hz1 hz2 rfl (by decide) u8 k (flat acc) rfl ?b1 ⟨w2.heap.size + 1, 0, none⟩ 1 1 [.int .i64 xt, .int .i64 xi, .int .i64 xp, .int .i64 xs, .int .i64 xd, .string XV, .string XN] rfl rfl ?b2 ?b3 ?b4 ?b5 ?b6 ?b7)
        case b1 => exact HO4.out.alloc _
        case b2 =>
          have := World.news_of_block (heap_alloc_new (w2.alloc (.cells #[.int .i64 xt, .int .i64 xi, .int .i64 xp, .int .i64 xs, .int .i64 xd, .string XV, .string XN] 39)) (.cells #[.int .i64 xt, .int .i64 xi, .int .i64 xp, .int .i64 xs, .int .i64 xd, .string XV, .string XN] 39))
          rw [hsz4] at this
          exact this
        case b3 => simp [Value.oneCell']
        case b4 => unfold maxLen; omega
        case b5 => omega
        case b6 => have := f4.size; simp at this ⊢; omega
        case b7 =>
          intro v5 w5 hown5 hgrow hnil hat
          have f5 : Below w.heap.size w w5 := (f4.alloc f4.size _).grown hgrow (by have := f4.size; simp at this ⊢; omega) (fun g hg => (HO4.out.lt g hg).1)
          rw [HFL.out] at hown5
          have HO5 := Lib.hid hown5
          clear hown5 hgrow hnil hat x0 x1 x2 x3 x4 x5 x6
          go_wp2
          go_roundw
          case rel => exact ⟨k + 1, q + m, acc2, by go_num, by omega, by go_num, by omega, HL2.out, HR2, HO5.out, f5⟩
          case measure => simp [intOf]; omega
    · obtain rfl : k = N := by omega
      rw [Nat.sub_self] at HR
      have hend := rds_end HR
      rw [HNX.out] at hend
      by_cases hq2 : q < n
      · rw [if_pos hq2] at hend
        simp only [Prod.mk.injEq] at hend
        obtain ⟨rfl, rfl, rfl⟩ := hend
        clear HR HR0
        go_wp2
        go_returns
        exact ⟨_, by rw [errB_pos p 12 (by omega)]; rfl, GivesS.nil hbr⟩
      · rw [if_neg hq2] at hend
        simp only [Prod.mk.injEq] at hend
        obtain ⟨rfl, rfl, rfl⟩ := hend
        clear HR HR0
        go_wp2
        go_returns
        exact ⟨_, by rw [errB_zero]; rfl, GivesS.own (by rw [HAC.out]; exact HO.out) hbr⟩
end Go.Proofs.YtimelckjbofhbaaDoor
