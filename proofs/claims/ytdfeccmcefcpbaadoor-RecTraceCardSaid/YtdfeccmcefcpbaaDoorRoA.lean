/-
  Layer 13, the developers' rec: the parts that its Put and Get are made of: what may be so (within, rightSealed, change$1) and what the bytes are (putSealed, change$2), of any record. Assumed: that the spans lie in memory.
-/
import Derived.Test.YtdfeccmcefcpbaaDoorRc13
import Derived.Test.YtdfeccmcefcpbaaDoorMathR
import Derived.Test.YtdfeccmcefcpbaaDoorTrP

namespace Go.Proofs.YtdfeccmcefcpbaaDoor
open Go.RowKit
set_option maxRecDepth 100000

theorem dwithin13_any (lo hi n : Int) (w : World) : Calls Tryd.prog 30 #[.int .i64 lo, .int .i64 hi, .int .i64 n] w fun e w' => e = .returned (.bool (decide (lo ≤ n ∧ n ≤ hi))) ∧ w = w' := by
  by_cases h1 : lo ≤ n
  · by_cases h2 : n ≤ hi
    · have t1 : decide (lo ≤ n) = true := by simpa using h1
      have t2 : decide (n ≤ hi) = true := by simpa using h2
      have t3 : decide (lo ≤ n ∧ n ≤ hi) = true := by rw [decide_eq_true_eq]; exact ⟨h1, h2⟩
      rw [t3]
      go_enter Tryd.func30, Tryd.ntmps30
      go_wp2
      go_returns
      exact ⟨rfl, rfl⟩
    · have t1 : decide (lo ≤ n) = true := by simpa using h1
      have t2 : decide (n ≤ hi) = false := by simp; omega
      have t3 : decide (lo ≤ n ∧ n ≤ hi) = false := by rw [decide_eq_false_iff_not]; omega
      rw [t3]
      go_enter Tryd.func30, Tryd.ntmps30
      go_wp2
      go_returns
      exact ⟨rfl, rfl⟩
  · have t1 : decide (lo ≤ n) = false := by simp; omega
    have t3 : decide (lo ≤ n ∧ n ≤ hi) = false := by rw [decide_eq_false_iff_not]; omega
    rw [t3]
    go_enter Tryd.func30, Tryd.ntmps30
    go_wp2
    go_returns
    exact ⟨rfl, rfl⟩

/-- how a change's captured variables lie: the greatest class, the class's bytes, whether there is a class -/
def Cap13 (w : World) (gm gn gc : Nat) (c : Bool) : Prop :=
  Blk w gm #[.int .i64 (if c then 7 else 0)] 2 ∧ Blk w gn #[.int .i64 (if c then 1 else 0)] 3 ∧ Blk w gc #[.bool c] 4
theorem Cap13.below {w w' : World} {gm gn gc : Nat} {c : Bool} (h : Cap13 w gm gn gc c) (hb : Below w.heap.size w w') : Cap13 w' gm gn gc c :=
  ⟨(hb.block _ (Blk.lt h.1)).trans h.1, (hb.block _ (Blk.lt h.2.1)).trans h.2.1, (hb.block _ (Blk.lt h.2.2)).trans h.2.2⟩
theorem Cap13.three {w : World} {gm gn gc : Nat} {c : Bool} (h : Cap13 w gm gn gc c) : w.cell? ⟨gm, 0, none⟩ = some (.int .i64 (if c then 7 else 0)) ∧ w.cell? ⟨gn, 0, none⟩ = some (.int .i64 (if c then 1 else 0)) ∧ w.cell? ⟨gc, 0, none⟩ = some (.bool c) :=
  ⟨Blk.cell h.1 0, Blk.cell h.2.1 0, Blk.cell h.2.2 0⟩

/-- what a change's 'right' answers -/
def fitsC (c : Bool) (r : Rc.R) : Bool := decide (0 ≤ r.cls ∧ r.cls ≤ (if c then 7 else 0)) && (decide (r.tick = 0) && (!r.pin && decide (r.sp.length = 0)))
theorem fits_C (r : Rc.R) (h : r.kind ≠ 1) : Rc.fits r = fitsC (decide (r.kind = 4)) r := by
  unfold Rc.fits fitsC
  rw [if_neg h]
  simp only [decide_eq_true_eq]

set_option maxHeartbeats 2000000 in
theorem dright13C_any (c : Bool) (gm gn gc : Nat) (r : Rc.R) (A : Option Addr) (n cap : Nat) (w : World) (hC : Cap13 w gm gn gc c) (hn : r.sp.length = n) :
    Calls Tryd.prog 55 #[recV r A n cap, .pointer (some ⟨gm, 0, none⟩)] w fun e w' => e = .returned (.bool (fitsC c r)) ∧ Below w.heap.size w w' := by
  have hB0 : Below w.heap.size w (w.alloc (.cells (recCs r A n cap) 24)) := (Below.refl _ _).alloc (Nat.le_refl _) _
  obtain ⟨m0, -, -⟩ := (hC.below hB0).three
  have hbx := Blk.new w (recCs r A n cap) 24
  obtain ⟨x0, x1, x2, x3, x4, x5⟩ := BoxR.six (r := r) hbx
  have hV : fitsC c r = (decide (0 ≤ r.cls ∧ r.cls ≤ (if c then 7 else 0)) && (decide (r.tick = 0) && (!r.pin && decide ((n : Int) = 0)))) := by
    unfold fitsC
    rw [hn]
    simp only [Int.natCast_eq_zero]
  obtain ⟨mx, hmx⟩ : ∃ mx : Int, (if c then 7 else 0) = mx := ⟨_, rfl⟩
  rw [hmx] at m0 hV
  rw [hV]
  unfold recV recCs at *
  obtain ⟨kind, id, cls, tick, pin, sp⟩ := r
  simp only at x0 x1 x2 x3 x4 x5 m0 hB0 ⊢
  have HB0 := Lib.hid hB0
  have HW := Lib.hid (fun (W : World) => dwithin13_any 0 mx cls W)
  obtain ⟨q1, h1⟩ : ∃ q, decide (0 ≤ cls ∧ cls ≤ mx) = q := ⟨_, rfl⟩
  obtain ⟨q2, h2⟩ : ∃ q, decide (tick = 0) = q := ⟨_, rfl⟩
  obtain ⟨q3, h3⟩ : ∃ q, decide ((n : Int) = 0) = q := ⟨_, rfl⟩
  have e2 : (tick == 0) = q2 := by rw [← h2]; exact (Bool.beq_eq_decide_eq tick 0)
  have e3 : ((n : Int) == 0) = q3 := by rw [← h3]; exact (Bool.beq_eq_decide_eq (n : Int) 0)
  rw [h1] at HW ⊢
  rw [h2, h3]
  clear h1 h2 h3 hV hmx hB0 hbx hC hn
  cases q1 <;> cases q2 <;> cases pin <;> cases q3
  all_goals
    go_enter Tryd.func55, Tryd.ntmps55
    go_wp2_with fail
    refine (HW.out _).mono ?_
    rintro e w2 ⟨rfl, rfl⟩
    go_wp2
    go_ret
    exact ⟨rfl, HB0.out⟩

/-- the bytes behind the kind, of a change -/
def restC (c : Bool) (r : Rc.R) : List UInt8 := Plain.put r.id ++ (if c then [UInt8.ofNat r.cls.toNat] else [])
theorem rest_C (r : Rc.R) (h : r.kind ≠ 1) : Rc.rest r = restC (decide (r.kind = 4)) r := by
  unfold Rc.rest restC
  rw [if_neg h]
  simp only [decide_eq_true_eq]

set_option maxHeartbeats 4000000 in
theorem dput13C_any (c : Bool) (gm gn gc : Nat) (r : Rc.R) (A : Option Addr) (n cap : Nat) (w : World) (hC : Cap13 w gm gn gc c) (hc : 0 ≤ r.cls ∧ r.cls ≤ 7) :
    Calls Tryd.prog 56 #[recV r A n cap, .pointer (some ⟨gc, 0, none⟩)] w (Made w (restC c r)) := by
  obtain ⟨i0, hi, hz0, hz1, hz2⟩ := info_parts infoU8
  have hB0 : Below w.heap.size w (w.alloc (.cells (recCs r A n cap) 24)) := (Below.refl _ _).alloc (Nat.le_refl _) _
  have hbx := Blk.new w (recCs r A n cap) 24
  have HX := Lib.hid (fun (u : World) (h : Below (w.alloc (.cells (recCs r A n cap) 24)).heap.size (w.alloc (.cells (recCs r A n cap) 24)) u) => BoxR.six (BoxR.below hbx h))
  have HC := Lib.hid (fun (u : World) (h : Below w.heap.size w u) => (hC.below h).three)
  have hr : restC c r = Plain.put r.id ++ (if c then [UInt8.ofNat r.cls.toNat] else []) := rfl
  unfold recV recCs at *
  obtain ⟨kind, id, cls, tick, pin, sp⟩ := r
  simp only at hc HX hB0 hr ⊢
  obtain ⟨k, rfl⟩ := Int.eq_ofNat_of_zero_le hc.1
  rw [Int.toNat_natCast] at hr
  have ec : ((k : Int) % 256) = (k : Int) := by omega
  have HP := Lib.hid (fun (W : World) => put_any none 0 [] id W (by simp) Lies.nil)
  have hplen := Plain.put_length id
  have hple := Plain.size_le id
  rw [List.nil_append] at HP
  have HVH := Lib.hid (cells_u8 k (by omega))
  have HLE := Lib.hid (show (Plain.put id).length ≤ 100 by omega)
  obtain ⟨w0, hw0⟩ : ∃ w0, w.alloc (.cells #[.int .i64 kind, .int .i64 id, .int .i64 (k : Int), .int .i64 tick, .bool pin, .slice A n cap] 24) = w0 := ⟨_, rfl⟩
  have hs0 : w0.heap.size = w.heap.size + 1 := by rw [← hw0]; simp
  rw [hw0] at HX hB0
  have HW0 := Lib.hid hw0
  have HB0 := Lib.hid hB0
  obtain ⟨x0, x1, x2, x3, x4, x5⟩ := HX.out w0 (Below.refl _ _)
  have HFIN := Lib.hid (show c = true → ∀ (v : Value) (w' : World), w'.ownsRow w.heap.size 5 1 v ((Plain.put id).length + 1) (cells (Plain.put id) ++ [.int .u8 (k : Int)]) → Below w.heap.size w w' → Made w (restC c ⟨kind, id, (k : Int), tick, pin, sp⟩) (.returned v) w' from
    fun hcc v w' ho hb => ⟨v, rfl, by rw [hr, if_pos hcc, cells_append, List.length_append, HVH.out]; exact ho, hb⟩)
  have HFI0 := Lib.hid (show c = false → restC c ⟨kind, id, (k : Int), tick, pin, sp⟩ = Plain.put id from fun hcc => by rw [hr, if_neg (by simp [hcc]), List.append_nil])
  generalize restC c ⟨kind, id, (k : Int), tick, pin, sp⟩ = out at *
  clear hplen hple hr hbx hC hB0
  generalize Plain.put id = mid at *
  go_enter Tryd.func56, Tryd.ntmps56
  rw [← HW0.out] at x0 x1 x2 x3 x4 x5
  clear hw0
  go_wp2_with fail
  rw [HW0.out]
  refine (HP.out w0).mono ?_
  rintro e w2 hM
  have hb02 : Below w0.heap.size w0 w2 := hM.choose_spec.2.2
  obtain ⟨v, rfl, ho, hb2⟩ := hM.up HB0.out
  obtain ⟨y0, y1, y2, y3, y4, y5⟩ := HX.out w2 hb02
  obtain ⟨m0, m1, m2⟩ := HC.out w2 hb2
  have HO := Lib.hid ho
  have HB2 := Lib.hid hb2
  clear x0 x1 x2 x3 x4 x5 ho hb2 hb02 hM m0 m1
  cases c with
  | true =>
    go_wp2_with (at_builtin; refine wpList_app rfl _ _ 25 rfl w.heap.size 5 i0 (.int .u8 0) Tryd.underlying25 hi hz0 hz1 hz2 rfl v mid.length (cells mid) rfl ?a1 (some ⟨w2.heap.size, 0, none⟩) 1 1 [.int .u8 (k : Int)] rfl rfl ?a2 ?a3 ?a4 ?a5 ?a6)
    case a1 => exact HO.out.alloc _
    case a2 => exact Lies.new w2 #[.int .u8 (k : Int)] 5
    case a3 => simp [Value.oneCell']
    case a4 => have := HLE.out; omega
    case a5 => have := HB2.out.size; simp; omega
    case a6 =>
      intro v3 w3 ho3 hg3 _
      have hb3 : Below w.heap.size w w3 := (HB2.out.alloc HB2.out.size _).grown hg3 (by have := HB2.out.size; simp; omega) (fun g hg => (HO.out.lt g hg).1)
      have HO3 := Lib.hid ho3
      clear ho3 hg3
      go_wp2
      go_ret
      exact HFIN.out trivial _ _ HO3.out hb3
  | false =>
    go_wp2
    go_ret
    rw [HFI0.out trivial]
    exact ⟨_, rfl, HO.out, HB2.out⟩
end Go.Proofs.YtdfeccmcefcpbaaDoor
