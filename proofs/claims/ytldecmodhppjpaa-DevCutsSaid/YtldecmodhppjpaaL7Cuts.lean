/-
  Power fails at just the thing that it is to; what comes behind it has ErrDown, and changes nothing, until a Boot: the law DevCuts returns true at any input, and leaves what it was given as it was. Nothing is assumed.
-/
import Derived.Test.YtldecmodhppjpaaOpD

namespace Go.Proofs.Ytldecmodhppjpaa.Plain
/-- a device to cut, behind k writes -/
def cutS (after : Nat) : Nat → Dv
  | 0 => (Dv.new 4).cutAt after
  | k + 1 => ((cutS after k).write ((k : Int) % 4) (full (UInt8.ofNat k))).1
theorem cut_idx (k : Nat) : ((k : Int) % 4) = ((k % 4 : Nat) : Int) := by omega
theorem begin_cut (d : Dv) (hd : d.down = false) (hc : d.cut = true) (hl : d.left ≠ 0) : d.begin = ({ d with left := d.left - 1, done := d.done + 1 }, 0) := by
  unfold Dv.begin
  rw [if_neg (by simp [hd]), if_neg (by simp [hl]), if_pos hc]
theorem begin_end (d : Dv) (hd : d.down = false) (hc : d.cut = true) (hl : d.left = 0) : d.begin = ({ d with down := true }, 71) := by
  unfold Dv.begin
  rw [if_neg (by simp [hd]), if_pos ⟨hc, hl⟩]
theorem begin_down (d : Dv) (hd : d.down = true) : d.begin = (d, 71) := by
  unfold Dv.begin
  rw [if_pos hd]
structure CutOk (after k : Nat) (d : Dv) : Prop where
  ok : d.Ok
  n : d.n = 4
  cut : d.cut = true
  left : d.left = after - k
  done : d.done = min k after
  down : d.down = decide (after < k)
theorem write_at (d : Dv) (i : Nat) (b : List UInt8) (hi : i < d.n) (hb : b.length = 64) : d.write i b = if d.begin.2 ≠ 0 then d.begin else ({ d.begin.1 with wr := upd d.wr i (some b) }, 0) := by
  unfold Dv.write
  rw [if_neg]
  · rfl
  · rintro (h | h)
    · rw [(d.has_iff i).2 (by omega)] at h; cases h
    · exact h hb
theorem cutOk (after : Nat) (ha : after ≤ 255) : ∀ k, CutOk after k (cutS after k)
  | 0 => ⟨Dv.cutAt_ok _ (Dv.new_ok 4 (by omega) (by omega)) _ (by omega), by simp [cutS, Dv.cutAt, Dv.new], by simp [cutS, Dv.cutAt], by simp [cutS, Dv.cutAt], by simp [cutS, Dv.cutAt, Dv.new], by simp [cutS, Dv.cutAt, Dv.new]⟩
  | k + 1 => by
    have h := cutOk after ha k
    have hw := write_at (cutS after k) (k % 4) (full (UInt8.ofNat k)) (by rw [h.n]; omega) (full_length _)
    have hok : (cutS after (k + 1)).Ok := (cutS after k).write_ok h.ok _ _
    have hn : (cutS after (k + 1)).n = 4 := ((cutS after k).write_n _ _).trans h.n
    by_cases h1 : after < k
    · have hb := begin_down (cutS after k) (by rw [h.down]; simpa using h1)
      have e : cutS after (k + 1) = cutS after k := by
        show ((cutS after k).write ((k : Int) % 4) _).1 = _
        rw [cut_idx, hw, hb]; rfl
      rw [e]
      exact ⟨h.ok, h.n, h.cut, by rw [h.left]; omega, by rw [h.done]; omega, by rw [h.down]; simp; omega⟩
    · by_cases h2 : after = k
      · have hb := begin_end (cutS after k) (by rw [h.down]; simpa using Nat.le_of_not_lt h1) h.cut (by rw [h.left]; omega)
        have e : cutS after (k + 1) = { cutS after k with down := true } := by
          show ((cutS after k).write ((k : Int) % 4) _).1 = _
          rw [cut_idx, hw, hb]; rfl
        refine ⟨hok, hn, ?_, ?_, ?_, ?_⟩ <;> rw [e] <;> simp only
        · exact h.cut
        · rw [h.left]; omega
        · rw [h.done]; omega
        · simp; omega
      · have hb := begin_cut (cutS after k) (by rw [h.down]; simpa using Nat.le_of_not_lt h1) h.cut (by rw [h.left]; omega)
        have e : cutS after (k + 1) = { cutS after k with left := (cutS after k).left - 1, done := (cutS after k).done + 1, wr := upd (cutS after k).wr (k % 4) (some (full (UInt8.ofNat k))) } := by
          show ((cutS after k).write ((k : Int) % 4) _).1 = _
          rw [cut_idx, hw, hb]; rfl
        refine ⟨hok, hn, ?_, ?_, ?_, ?_⟩ <;> rw [e] <;> simp only
        · exact h.cut
        · rw [h.left]; omega
        · rw [h.done]; omega
        · rw [h.down, decide_eq_decide]; omega
theorem cut_err (after : Nat) (ha : after ≤ 255) (k : Nat) : ((cutS after k).write ((k : Int) % 4) (full (UInt8.ofNat k))).2 = if after ≤ k then 71 else 0 := by
  have h := cutOk after ha k
  rw [cut_idx, write_at (cutS after k) (k % 4) (full (UInt8.ofNat k)) (by rw [h.n]; omega) (full_length _)]
  by_cases h1 : after < k
  · rw [begin_down (cutS after k) (by rw [h.down]; simpa using h1)]; simp; omega
  · by_cases h2 : after = k
    · rw [begin_end (cutS after k) (by rw [h.down]; simpa using Nat.le_of_not_lt h1) h.cut (by rw [h.left]; omega)]; simp; omega
    · rw [begin_cut (cutS after k) (by rw [h.down]; simpa using Nat.le_of_not_lt h1) h.cut (by rw [h.left]; omega)]; simp; omega
theorem cut_read (after : Nat) (ha : after ≤ 255) (k : Nat) : ((cutS after k).read 0).2 = if after < k then 71 else 0 := by
  have h := cutOk after ha k
  unfold Dv.read
  rw [if_neg (by rw [((cutS after k).has_iff 0).2 (by rw [h.n]; omega)]; simp), h.down]
  by_cases h1 : after < k <;> simp [h1]
theorem cut_flush (after : Nat) (ha : after ≤ 255) (k : Nat) : (cutS after k).flush.2 = if k < after then 0 else 71 := by
  have h := cutOk after ha k
  unfold Dv.flush
  by_cases h1 : after < k
  · rw [begin_down (cutS after k) (by rw [h.down]; simpa using h1)]; simp; omega
  · by_cases h2 : after = k
    · rw [begin_end (cutS after k) (by rw [h.down]; simpa using Nat.le_of_not_lt h1) h.cut (by rw [h.left]; omega)]; simp; omega
    · rw [begin_cut (cutS after k) (by rw [h.down]; simpa using Nat.le_of_not_lt h1) h.cut (by rw [h.left]; omega)]; simp; omega
theorem boot_flush (d : Dv) (keep : List Bool) (hurt : List Hu) : (d.boot keep hurt).down = false ∧ (d.boot keep hurt).done = d.done ∧ (d.boot keep hurt).flush.2 = 0 ∧ (d.boot keep hurt).flush.1.loose = [] := by
  refine ⟨rfl, rfl, ?_, ?_⟩
  · simp [Dv.flush, Dv.begin, Dv.boot]
  · simp [Dv.flush, Dv.begin, Dv.boot, Dv.loose]
end Go.Proofs.Ytldecmodhppjpaa.Plain

namespace Go.Proofs.Ytldecmodhppjpaa.devCuts
open Go.ChangeShapes Go.WideShapes Go.ChangeAt Go.RowKit
set_option maxRecDepth 100000

set_option maxHeartbeats 8000000 in
theorem walk (w : World) (m : Int) (hm : 0 ≤ m ∧ m ≤ 255) (t : Int) (ht : 0 ≤ t ∧ t ≤ 255) :
    Calls Try.prog 6 #[.int .u8 m, .int .u8 t] w fun e w' => e = .returned (.bool true) ∧ Below w.heap.size w w' := by
  obtain ⟨many, rfl⟩ := Int.eq_ofNat_of_zero_le hm.1
  obtain ⟨after, rfl⟩ := Int.eq_ofNat_of_zero_le ht.1
  have hm2 : many ≤ 255 := by omega
  have ht2 : after ≤ 255 := by omega
  clear hm ht
  go_enter Try.func6, Try.ntmps6
  go_wp2_with fail
  refine (head_any w).mono ?_
  rintro e w0 ⟨rfl, hB0⟩
  go_wp2_with fail
  refine Calls.mono (show Calls Try.prog 11 #[.int .i64 4] w0 _ from newDev_yes 4 w0 (by omega) (by omega)) ?_
  rintro e w1 ⟨rfl, hd1, hB1⟩
  obtain ⟨g, hg⟩ : ∃ g, w0.heap.size = g := ⟨_, rfl⟩
  have z0 := hB0.size
  rw [hg] at hd1 hB1 z0 ⊢
  have z1 := hd1.lt
  have HB1 := Lib.hid (hB0.trans (hB1.mono z0))
  have HD0 := Lib.hid hd1
  clear hd1 hB1 hB0 hg
  go_wp2_with fail
  refine (cutAt_any w1 g (Plain.Dv.new 4) after (by omega) HD0.out).mono ?_
  rintro e w2 ⟨rfl, hd2, k2⟩
  have HD2 := Lib.hid (show IsDev w2 g (Plain.cutS after 0) from hd2)
  have z2 := k2.size
  have HB2 := Lib.hid (k2.belowB HB1.out (by omega) (by simp; omega))
  clear hd2 k2
  go_wp2
  go_loopw [7] (fun s wr => ∃ k : Nat, s = .int .i64 (k : Int) ∧ k ≤ many ∧ IsDev wr g (Plain.cutS after k) ∧ Below w.heap.size w wr ∧ w2.heap.size ≤ wr.heap.size) (fun s _ => many - (RowKit.intOf s).toNat)
  case atStart => exact ⟨0, rfl, Nat.zero_le _, HD2.out, HB2.out, Nat.le_refl _⟩
  case round =>
    obtain ⟨k, rfl, hk, hd, hB, hz⟩ := hrel
    have HD := Lib.hid hd
    have HB := Lib.hid hB
    have HC := Lib.hid (Plain.cutOk after ht2 k)
    clear hd hB
    by_cases hkm : k < many
    · have hk0 : (0 : Int) ≤ (k : Int) := by omega
      have hk1 : (k : Int) ≤ 255 := by omega
      have e1 : ((UInt8.ofNat k).toNat : Int) = k := by simp; omega
      have hf := full_any (UInt8.ofNat k) wr
      rw [e1] at hf
      have HF := Lib.hid hf
      have HE := Lib.hid (Plain.cut_err after ht2 k)
      clear hf e1
      go_wp2_with fail
      refine HF.out.mono ?_
      rintro e w3 ⟨b3, rfl, hb3, hk3, hB3⟩
      have z3 := hB3.size
      have HB3 := Lib.hid (HB.out.trans (hB3.mono (by omega)))
      have HW3 := Lib.hid (write_full w3 g (Plain.cutS after k) ((k : Int) % 4) b3 (UInt8.ofNat k) hk3 (by rw [HC.out.done]; omega) (HD.out.below hB3))
      clear hb3 hk3 hB3
      go_wp2_with fail
      refine HW3.out.mono ?_
      rintro e w4 ⟨rfl, hd4, k4⟩
      have HD4 := Lib.hid (show IsDev w4 g (Plain.cutS after (k + 1)) from hd4)
      have z4 := k4.size
      have HB4 := Lib.hid (k4.belowB HB3.out (by omega) (by simp; omega))
      rw [HE.out]
      clear hd4 k4
      by_cases hak : after ≤ k
      · rw [if_pos hak]
        have t1 : decide ((after : Int) ≤ (k : Int)) = true := by simpa using hak
        go_wp2
        go_roundw
        case rel => exact ⟨k + 1, by go_num, by omega, HD4.out, HB4.out, by omega⟩
        case measure => simp [RowKit.intOf]; omega
      · rw [if_neg hak]
        have t1 : decide ((after : Int) ≤ (k : Int)) = false := by simpa using hak
        go_wp2
        go_roundw
        case rel => exact ⟨k + 1, by go_num, by omega, HD4.out, HB4.out, by omega⟩
        case measure => simp [RowKit.intOf]; omega
    · obtain rfl : many = k := by omega
      rcases Nat.lt_trichotomy many after with hcmp | hcmp | hcmp
      · have t0 : decide (after < many) = false := by simp; try omega
        have t1 : decide ((after : Int) < (many : Int)) = false := by simp; try omega
        have t2 : decide (many < after) = true := by simp; try omega
        have t3 : decide ((many : Int) < (after : Int)) = true := by simp; try omega
        obtain ⟨q, hq⟩ : ∃ q, min many after = q := ⟨_, rfl⟩
        have hmin : min (many : Int) (after : Int) = (q : Int) := by omega
        have HDONE := Lib.hid (show (Plain.cutS after many).done = q by rw [HC.out.done]; exact hq)
        have HDOWN := Lib.hid (show (Plain.cutS after many).down = false by rw [HC.out.down]; exact t0)
        have HRE := Lib.hid (show ((Plain.cutS after many).read 0).2 = 0 by rw [Plain.cut_read after ht2 many]; simp; try omega)
        have HFE := Lib.hid (show (Plain.cutS after many).flush.2 = 0 by rw [Plain.cut_flush after ht2 many]; simp; try omega)
        have HDL := Lib.hid (show (Plain.cutS after many).flush.1.done ≤ 1000 from Nat.le_trans (Plain.Dv.flush_done _) (by rw [HDONE.out]; omega))
        clear hq
        go_wp2_with fail
        refine (read_any wr g (Plain.cutS after many) 0 HD.out).mono ?_
        intro e w5 hg5
        obtain ⟨A5, cap5, rfl, -, hB5⟩ := hg5.text
        rw [HRE.out]
        have z5 := hB5.size
        have HB5 := Lib.hid (HB.out.trans (hB5.mono (by omega)))
        have HD5 := Lib.hid (HD.out.below hB5)
        have HDD := Lib.hid (done_any w5 g _ HD5.out)
        rw [HDONE.out] at HDD
        have HDW := Lib.hid (down_any w5 g _ HD5.out)
        rw [HDOWN.out] at HDW
        have HFL := Lib.hid (flush_any w5 g _ (by rw [HDONE.out]; omega) HD5.out)
        rw [HFE.out] at HFL
        clear hg5 hB5
        generalize ((Plain.cutS after many).read 0).1.length = ln
        go_wp2_with fail
        refine HDD.out.mono ?_
        rintro e w' ⟨rfl, rfl⟩
        go_wp2_with fail
        refine HDW.out.mono ?_
        rintro e w' ⟨rfl, rfl⟩
        go_wp2_with fail
        refine HFL.out.mono ?_
        rintro e w6 ⟨rfl, hd6, k6⟩
        have z6 := k6.size
        have HB6 := Lib.hid (k6.belowB HB5.out (by omega) (by simp; omega))
        have HD6 := Lib.hid hd6
        have HBO := Lib.hid (boot_any w6 g _ [] [] none none 0 0 0 0 rfl rfl (Nat.zero_le _) (Nat.zero_le _) Lies.nil Lies.nil (.inl rfl) (.inl rfl) (by simp) hd6)
        clear hd6 k6
        obtain ⟨b1, b2, b3, b4⟩ := Plain.boot_flush (Plain.cutS after many).flush.1 [] []
        have HB1' := Lib.hid b1
        have HB2' := Lib.hid b2
        have HB3' := Lib.hid b3
        have HB4' := Lib.hid b4
        clear b1 b2 b3 b4
        go_wp2_with fail
        refine HBO.out.mono ?_
        rintro e w7 ⟨rfl, hd7, k7⟩
        have z7 := k7.size
        have HB7 := Lib.hid (k7.belowB HB6.out (by omega) (by simp; omega))
        have HDW7 := Lib.hid (down_any w7 g _ hd7)
        rw [HB1'.out] at HDW7
        have HFL7 := Lib.hid (flush_any w7 g _ (by rw [HB2'.out]; have := HDL.out; omega) hd7)
        rw [HB3'.out] at HFL7
        clear hd7 k7
        go_wp2_with fail
        refine HDW7.out.mono ?_
        rintro e w' ⟨rfl, rfl⟩
        go_wp2_with fail
        refine HFL7.out.mono ?_
        rintro e w8 ⟨rfl, hd8, k8⟩
        have z8 := k8.size
        have HB8 := Lib.hid (k8.belowB HB7.out (by omega) (by simp; omega))
        have HLO := Lib.hid (loose_any w8 g _ hd8)
        rw [HB4'.out] at HLO
        clear hd8 k8
        go_wp2_with fail
        refine HLO.out.mono ?_
        rintro e w9 ⟨v9, rfl, ho9, hB9⟩
        obtain ⟨A9, cap9, rfl, -, -, -, -, -⟩ := own_off ho9
        have HB9 := Lib.hid (HB8.out.trans (hB9.mono (by omega)))
        clear ho9 hB9
        go_wp2
        go_returns
        exact ⟨rfl, HB9.out⟩
      · have t0 : decide (after < many) = false := by simp; try omega
        have t1 : decide ((after : Int) < (many : Int)) = false := by simp; try omega
        have t2 : decide (many < after) = false := by simp; try omega
        have t3 : decide ((many : Int) < (after : Int)) = false := by simp; try omega
        obtain ⟨q, hq⟩ : ∃ q, min many after = q := ⟨_, rfl⟩
        have hmin : min (many : Int) (after : Int) = (q : Int) := by omega
        have HDONE := Lib.hid (show (Plain.cutS after many).done = q by rw [HC.out.done]; exact hq)
        have HDOWN := Lib.hid (show (Plain.cutS after many).down = false by rw [HC.out.down]; exact t0)
        have HRE := Lib.hid (show ((Plain.cutS after many).read 0).2 = 0 by rw [Plain.cut_read after ht2 many]; simp; try omega)
        have HFE := Lib.hid (show (Plain.cutS after many).flush.2 = 71 by rw [Plain.cut_flush after ht2 many]; simp; try omega)
        have HDL := Lib.hid (show (Plain.cutS after many).flush.1.done ≤ 1000 from Nat.le_trans (Plain.Dv.flush_done _) (by rw [HDONE.out]; omega))
        clear hq
        go_wp2_with fail
        refine (read_any wr g (Plain.cutS after many) 0 HD.out).mono ?_
        intro e w5 hg5
        obtain ⟨A5, cap5, rfl, -, hB5⟩ := hg5.text
        rw [HRE.out]
        have z5 := hB5.size
        have HB5 := Lib.hid (HB.out.trans (hB5.mono (by omega)))
        have HD5 := Lib.hid (HD.out.below hB5)
        have HDD := Lib.hid (done_any w5 g _ HD5.out)
        rw [HDONE.out] at HDD
        have HDW := Lib.hid (down_any w5 g _ HD5.out)
        rw [HDOWN.out] at HDW
        have HFL := Lib.hid (flush_any w5 g _ (by rw [HDONE.out]; omega) HD5.out)
        rw [HFE.out] at HFL
        clear hg5 hB5
        generalize ((Plain.cutS after many).read 0).1.length = ln
        go_wp2_with fail
        refine HDD.out.mono ?_
        rintro e w' ⟨rfl, rfl⟩
        go_wp2_with fail
        refine HDW.out.mono ?_
        rintro e w' ⟨rfl, rfl⟩
        go_wp2_with fail
        refine HFL.out.mono ?_
        rintro e w6 ⟨rfl, hd6, k6⟩
        have z6 := k6.size
        have HB6 := Lib.hid (k6.belowB HB5.out (by omega) (by simp; omega))
        have HD6 := Lib.hid hd6
        have HBO := Lib.hid (boot_any w6 g _ [] [] none none 0 0 0 0 rfl rfl (Nat.zero_le _) (Nat.zero_le _) Lies.nil Lies.nil (.inl rfl) (.inl rfl) (by simp) hd6)
        clear hd6 k6
        obtain ⟨b1, b2, b3, b4⟩ := Plain.boot_flush (Plain.cutS after many).flush.1 [] []
        have HB1' := Lib.hid b1
        have HB2' := Lib.hid b2
        have HB3' := Lib.hid b3
        have HB4' := Lib.hid b4
        clear b1 b2 b3 b4
        go_wp2_with fail
        refine HBO.out.mono ?_
        rintro e w7 ⟨rfl, hd7, k7⟩
        have z7 := k7.size
        have HB7 := Lib.hid (k7.belowB HB6.out (by omega) (by simp; omega))
        have HDW7 := Lib.hid (down_any w7 g _ hd7)
        rw [HB1'.out] at HDW7
        have HFL7 := Lib.hid (flush_any w7 g _ (by rw [HB2'.out]; have := HDL.out; omega) hd7)
        rw [HB3'.out] at HFL7
        clear hd7 k7
        go_wp2_with fail
        refine HDW7.out.mono ?_
        rintro e w' ⟨rfl, rfl⟩
        go_wp2_with fail
        refine HFL7.out.mono ?_
        rintro e w8 ⟨rfl, hd8, k8⟩
        have z8 := k8.size
        have HB8 := Lib.hid (k8.belowB HB7.out (by omega) (by simp; omega))
        have HLO := Lib.hid (loose_any w8 g _ hd8)
        rw [HB4'.out] at HLO
        clear hd8 k8
        go_wp2_with fail
        refine HLO.out.mono ?_
        rintro e w9 ⟨v9, rfl, ho9, hB9⟩
        obtain ⟨A9, cap9, rfl, -, -, -, -, -⟩ := own_off ho9
        have HB9 := Lib.hid (HB8.out.trans (hB9.mono (by omega)))
        clear ho9 hB9
        go_wp2
        go_returns
        exact ⟨rfl, HB9.out⟩
      · have t0 : decide (after < many) = true := by simp; try omega
        have t1 : decide ((after : Int) < (many : Int)) = true := by simp; try omega
        have t2 : decide (many < after) = false := by simp; try omega
        have t3 : decide ((many : Int) < (after : Int)) = false := by simp; try omega
        obtain ⟨q, hq⟩ : ∃ q, min many after = q := ⟨_, rfl⟩
        have hmin : min (many : Int) (after : Int) = (q : Int) := by omega
        have HDONE := Lib.hid (show (Plain.cutS after many).done = q by rw [HC.out.done]; exact hq)
        have HDOWN := Lib.hid (show (Plain.cutS after many).down = true by rw [HC.out.down]; exact t0)
        have HRE := Lib.hid (show ((Plain.cutS after many).read 0).2 = 71 by rw [Plain.cut_read after ht2 many]; simp; try omega)
        have HFE := Lib.hid (show (Plain.cutS after many).flush.2 = 71 by rw [Plain.cut_flush after ht2 many]; simp; try omega)
        have HDL := Lib.hid (show (Plain.cutS after many).flush.1.done ≤ 1000 from Nat.le_trans (Plain.Dv.flush_done _) (by rw [HDONE.out]; omega))
        clear hq
        go_wp2_with fail
        refine (read_any wr g (Plain.cutS after many) 0 HD.out).mono ?_
        intro e w5 hg5
        obtain ⟨A5, cap5, rfl, -, hB5⟩ := hg5.text
        rw [HRE.out]
        have z5 := hB5.size
        have HB5 := Lib.hid (HB.out.trans (hB5.mono (by omega)))
        have HD5 := Lib.hid (HD.out.below hB5)
        have HDD := Lib.hid (done_any w5 g _ HD5.out)
        rw [HDONE.out] at HDD
        have HDW := Lib.hid (down_any w5 g _ HD5.out)
        rw [HDOWN.out] at HDW
        have HFL := Lib.hid (flush_any w5 g _ (by rw [HDONE.out]; omega) HD5.out)
        rw [HFE.out] at HFL
        clear hg5 hB5
        generalize ((Plain.cutS after many).read 0).1.length = ln
        go_wp2_with fail
        refine HDD.out.mono ?_
        rintro e w' ⟨rfl, rfl⟩
        go_wp2_with fail
        refine HDW.out.mono ?_
        rintro e w' ⟨rfl, rfl⟩
        go_wp2_with fail
        refine HFL.out.mono ?_
        rintro e w6 ⟨rfl, hd6, k6⟩
        have z6 := k6.size
        have HB6 := Lib.hid (k6.belowB HB5.out (by omega) (by simp; omega))
        have HD6 := Lib.hid hd6
        have HBO := Lib.hid (boot_any w6 g _ [] [] none none 0 0 0 0 rfl rfl (Nat.zero_le _) (Nat.zero_le _) Lies.nil Lies.nil (.inl rfl) (.inl rfl) (by simp) hd6)
        clear hd6 k6
        obtain ⟨b1, b2, b3, b4⟩ := Plain.boot_flush (Plain.cutS after many).flush.1 [] []
        have HB1' := Lib.hid b1
        have HB2' := Lib.hid b2
        have HB3' := Lib.hid b3
        have HB4' := Lib.hid b4
        clear b1 b2 b3 b4
        go_wp2_with fail
        refine HBO.out.mono ?_
        rintro e w7 ⟨rfl, hd7, k7⟩
        have z7 := k7.size
        have HB7 := Lib.hid (k7.belowB HB6.out (by omega) (by simp; omega))
        have HDW7 := Lib.hid (down_any w7 g _ hd7)
        rw [HB1'.out] at HDW7
        have HFL7 := Lib.hid (flush_any w7 g _ (by rw [HB2'.out]; have := HDL.out; omega) hd7)
        rw [HB3'.out] at HFL7
        clear hd7 k7
        go_wp2_with fail
        refine HDW7.out.mono ?_
        rintro e w' ⟨rfl, rfl⟩
        go_wp2_with fail
        refine HFL7.out.mono ?_
        rintro e w8 ⟨rfl, hd8, k8⟩
        have z8 := k8.size
        have HB8 := Lib.hid (k8.belowB HB7.out (by omega) (by simp; omega))
        have HLO := Lib.hid (loose_any w8 g _ hd8)
        rw [HB4'.out] at HLO
        clear hd8 k8
        go_wp2_with fail
        refine HLO.out.mono ?_
        rintro e w9 ⟨v9, rfl, ho9, hB9⟩
        obtain ⟨A9, cap9, rfl, -, -, -, -, -⟩ := own_off ho9
        have HB9 := Lib.hid (HB8.out.trans (hB9.mono (by omega)))
        clear ho9 hB9
        go_wp2
        go_returns
        exact ⟨rfl, HB9.out⟩


set_option maxRecDepth 100000 in
theorem lifted (os : Os) (started : os.Started) (H : Type) (enc : TypeId × Value → H) :
    ReturnsInHanded {} Try.checked os 6 .any (Rows.devCutsSpec.pre6 enc Try.prog Try.f6 Rows.devCutsRow.domain false) (Rows.devCutsSpec.post enc Try.prog Try.f6 false true false false) := by
  refine returnsInHanded_of_change (C := Try.checked) own started (by kernel_rfl) Try.func6
    (ChangeSpec.witness6 (enc := enc) (C := Try.checked) false ⟨#[], #[.int .u8 0, .int .u8 0], []⟩ 8 (by kernel_rfl) (by kernel_rfl) (by kernel_rfl) (by kernel_rfl)) ?_
  intro W base args ds gs before hval0 hW hcnd _
  have hval : ∀ (j : Nat) t v, Try.f6.params[j]? = some t → args[j]? = some v → Value.okWide Try.prog W .any base t v := hval0
  have hfin := fun W' => law_post (enc := enc) (P := Try.prog) (f := Try.f6) (s := Rows.devCutsSpec) (tb := 4) (W := W) (W' := W') (args := args) (ds := ds) (gs := gs) (before := before) laidOut rfl (by kernel_rfl) Try.underlying4 (by kernel_rfl) (fun xs h => by rw [Try.params6] at h; match xs, h with | [_, _], _ => rfl) hW
  obtain ⟨p, q, hA0, hV, rfl, hfz, hnd⟩ := hW
  have hA : DataW.TrodAll enc Try.prog W 0 (fun _ => true) true Try.f6.params.toList args.toList ds p := hA0
  rw [Try.params6] at hA hval
  obtain ⟨v0, vs0, d0, ds0, p0, q0, hargs, rfl, rfl, h0, r0⟩ := trodAll_cons hA
  obtain ⟨v1, vs1, d1, ds1, p1, q1, rfl, rfl, rfl, h1, r1⟩ := trodAll_cons r0
  obtain ⟨rfl, rfl, rfl⟩ := trodAll_nil r1
  obtain rfl : args = #[v0, v1] := by cases args; simp_all
  obtain ⟨a0, rfl, rfl, rfl, w0⟩ := open_int Try.underlying5 (hval 0 5 v0 rfl rfl) h0
  obtain ⟨a1, rfl, rfl, rfl, w1⟩ := open_int Try.underlying5 (hval 1 5 v1 rfl rfl) h1
  refine (walk W a0 (bounds_u8 w0) a1 (bounds_u8 w1)).mono fun e W' ⟨he, hg⟩ => ?_
  subst he
  exact ⟨_, rfl, hfin W' hg⟩

theorem proved : Rows.DevCutsSaid :=
  OpenClaim.holds_of_wide 6 Try.f6 rfl rfl rfl rfl rfl rfl rfl ⟨rfl, rfl, rfl, rfl, rfl⟩ rfl rfl rfl rfl rfl (by kernel_rfl) Try.func6 (by kernel_rfl)
    (of_decide_eq_true (by kernel_rfl)) (by unfold Func.isWrapper; first | (rw [if_pos (by decide +kernel)]; kernel_rfl) | (rw [if_neg (by decide +kernel)]; exact ⟨rfl, rfl⟩))
    (fun os started H enc _ => lifted os started H enc)
#print axioms proved
end Go.Proofs.Ytldecmodhppjpaa.devCuts
