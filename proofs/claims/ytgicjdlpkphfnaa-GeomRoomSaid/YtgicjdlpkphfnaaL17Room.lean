/-
  GeomRoom (turntablelaw17): holds for every input. No condition but that the inputs are a Geo and numbers. (Made by gen17/l17room.py.)
-/
import Derived.Test.YtgicjdlpkphfnaaHd17
import Derived.Test.YtgicjdlpkphfnaaGeS
import Derived.BigRegion
import Derived.BigQuiet
import Derived.Deep.CutRange
import Derived.Lib.MinMax
import Derived.Test.YtgicjdlpkphfnaaGeZ
import Derived.Test.YtgicjdlpkphfnaaOpG

namespace Go.Proofs.Ytgicjdlpkphfnaa.geomRoom
open Go.RowKit Go.Maps
set_option maxRecDepth 100000

theorem rem17 (W : World) (a b c : Int) (h0 : 0 < b) (ha : 0 ≤ a) (h : a % b = c) (hb : b ≤ 1000000) (_ha2 : a ≤ 1000000) : (binOp .rem 3 (.int .i64 a) (.int .i64 b)).run Try.prog W = .ok (.int .i64 c) W := by
  have e : Int.tmod a b = c := by rw [Int.tmod_eq_emod_of_nonneg ha]; exact h
  have hb0 : b ≠ 0 := by omega
  have h2 : 0 ≤ a % b ∧ a % b < b := ⟨Int.emod_nonneg _ hb0, Int.emod_lt_of_pos _ h0⟩
  have hw := wrap17 c (by omega) (by omega)
  go_simp
def u16s (l : List Int) : List Value := l.map fun x => .int .u16 x
theorem at_u16 {w : World} {A : Option Addr} {l : List Int} (h : Lies w A (u16s l)) (k : Nat) (hk : k < l.length) : ∃ ad, A = some ad ∧ ad.block < w.heap.size ∧ ∀ u, Below w.heap.size w u → u.cell? (ad.add k) = some (.int .u16 l[k]) := by
  obtain ⟨ad, rfl, hadb, hc⟩ := h.at_ (k := k) (by unfold u16s; rw [List.length_map]; exact hk)
  refine ⟨ad, rfl, hadb, fun u hu => (hu.cell (by rw [addr_block]; exact hadb)).trans ?_⟩
  rw [hc]
  simp [u16s]

set_option maxHeartbeats 8000000 in
theorem walkN (hOk : GeomOk) (w : World) (g : Ge.G) (A : Option Addr) (n cap : Nat) (l : List Int) (hn : l.length = n) (_hc : n ≤ cap) (_hm : cap ≤ maxLen) (hA : Lies w A (u16s l)) (hl : ∀ x ∈ l, 0 ≤ x ∧ x ≤ 65535) : Calls Try.prog 5 #[.agg #[.int .i64 g.E, .int .i64 g.S, .int .i64 g.M], .slice A n cap] w fun e w' => e = .returned (.bool true) ∧ Below w.heap.size w w' := by
  have HH := Lib.hid (fun (W : World) => head17_any hOk W)
  have hb := Blk.new w #[.int .i64 g.E, .int .i64 g.S, .int .i64 g.M] 23
  have HB := Lib.hid (show Below w.heap.size w (w.alloc (.cells #[.int .i64 g.E, .int .i64 g.S, .int .i64 g.M] 23)) from (Below.refl _ _).alloc (Nat.le_refl _) _)
  obtain ⟨wa, hwa⟩ : ∃ wa, (w.alloc (.cells #[.int .i64 g.E, .int .i64 g.S, .int .i64 g.M] 23)) = wa := ⟨_, rfl⟩
  rw [hwa] at HB hb
  have HW := Lib.hid hwa
  have HX := Lib.hid (fun (W : World) (hW : Below wa.heap.size wa W) => show W.cell? ⟨w.heap.size, 0, none⟩ = some (.int .i64 g.E) ∧ W.cell? ⟨w.heap.size, 1, none⟩ = some (.int .i64 g.S) ∧ W.cell? ⟨w.heap.size, 2, none⟩ = some (.int .i64 g.M) from ⟨((Kept.of hW []).blk hb (by simp)).cell 0, ((Kept.of hW []).blk hb (by simp)).cell 1, ((Kept.of hW []).blk hb (by simp)).cell 2⟩)
  have HSA := Lib.hid (show w.heap.size < wa.heap.size from hb.lt)
  clear hb hwa
  by_cases hok : g.ok
  rotate_left
  · have hrt : Ge.right g = false := decide_eq_false hok
    have HR := Lib.hid (fun (W : World) => show Calls Try.prog 9 #[.agg #[.int .i64 g.E, .int .i64 g.S, .int .i64 g.M]] W (fun e w' => e = .returned (.bool false) ∧ Below W.heap.size W w') by have := hOk.right g W; rwa [hrt] at this)
    clear hok hrt hOk
    go_enter Try.func5, Try.ntmps5
    go_wp2_with fail
    rw [HW.out]
    refine (HH.out wa).mono ?_
    rintro e w1 ⟨rfl, d1⟩
    obtain ⟨x0, x1, x2⟩ := HX.out w1 d1
    go_wp2_with fail
    refine (HR.out w1).mono ?_
    rintro e w2 ⟨rfl, d2⟩
    have HB2 := Lib.hid (HB.out.trans ((d1.trans (d2.mono d1.size)).mono HB.out.size))
    clear d1 d2
    go_wp2
    go_ret
    exact ⟨rfl, HB2.out⟩
  · have hrt : Ge.right g = true := decide_eq_true hok
    have HR := Lib.hid (fun (W : World) => show Calls Try.prog 9 #[.agg #[.int .i64 g.E, .int .i64 g.S, .int .i64 g.M]] W (fun e w' => e = .returned (.bool true) ∧ Below W.heap.size W w') by have := hOk.right g W; rwa [hrt] at this)
    unfold maxLen at _hm
    have HG := Lib.hid hok
    have HN := Lib.hid hn
    have HA := Lib.hid hA
    have HLL := Lib.hid hl
    have hE : 4 ≤ g.E ∧ g.E ≤ 8 ∧ 1 ≤ g.S ∧ g.S ≤ 64 ∧ 64 ≤ g.M ∧ g.M ≤ 57 * g.S ∧ g.M ≤ 3600 := by obtain ⟨h1, h2, h3, h4, h5, h6, h7⟩ := hok; exact ⟨h1, h2, h3, h4, h5, h6, h7⟩
    have hroom := Ge.room_ok hok
    obtain ⟨rm, hrm⟩ : ∃ rm, 57 * g.S = rm := ⟨_, rfl⟩
    rw [hrm] at hroom hE
    have HRM := Lib.hid hrm
    have hrb : rm ≤ 3648 := by omega
    have HST := Lib.hid (Ge.Fill.start hok)
    obtain ⟨bu, hbu⟩ : ∃ bu, Ge.budget g = bu := ⟨_, rfl⟩
    have hbl : bu ≤ 18240 := by rw [← hbu]; exact Ge.budget_le hok
    rw [hbu, hrm] at HST
    have HBU := Lib.hid hbu
    have FB := Lib.hid (fun (W : World) => show Calls Try.prog 17 #[.agg #[.int .i64 g.E, .int .i64 g.S, .int .i64 g.M]] W (fun e w' => e = .returned (.int .i64 bu) ∧ Below W.heap.size W w') by have := hOk.budget g W; rwa [hbu] at this)
    have FR := Lib.hid (fun (W : World) => show Calls Try.prog 15 #[.agg #[.int .i64 g.E, .int .i64 g.S, .int .i64 g.M]] W (fun e w' => e = .returned (.int .i64 rm) ∧ Below W.heap.size W w') by have := hOk.room g W; rwa [hroom] at this)
    clear hok hrt hOk hroom hrm hbu hn hA hl
    by_cases hbig : 2000 < n
    · have hb2 : decide ((2000 : Int) < (n : Int)) = true := decide_eq_true (by omega)
      go_enter Try.func5, Try.ntmps5
      go_wp2_with fail
      rw [HW.out]
      refine (HH.out wa).mono ?_
      rintro e w1 ⟨rfl, d1⟩
      have H1 := Lib.hid d1
      obtain ⟨x0, x1, x2⟩ := HX.out w1 d1
      clear d1
      go_wp2_with fail
      refine (HR.out w1).mono ?_
      rintro e w2 ⟨rfl, d2⟩
      have H2 := Lib.hid (H1.out.trans (d2.mono H1.out.size))
      clear d2 x0 x1 x2
      obtain ⟨x0, x1, x2⟩ := HX.out w2 H2.out
      have hs := Nat.lt_of_lt_of_le HSA.out H2.out.size
      have HE := Lib.hid (HB.out.trans (H2.out.mono HB.out.size))
      go_wp2
      go_ret
      exact ⟨rfl, HE.out⟩
    · have hb2 : decide ((2000 : Int) < (n : Int)) = false := decide_eq_false (by omega)
      go_enter Try.func5, Try.ntmps5
      go_wp2_with fail
      rw [HW.out]
      refine (HH.out wa).mono ?_
      rintro e w1 ⟨rfl, d1⟩
      have H1 := Lib.hid d1
      obtain ⟨x0, x1, x2⟩ := HX.out w1 d1
      clear d1
      go_wp2_with fail
      refine (HR.out w1).mono ?_
      rintro e w2 ⟨rfl, d2⟩
      have H2 := Lib.hid (H1.out.trans (d2.mono H1.out.size))
      clear d2 x0 x1 x2
      obtain ⟨x0, x1, x2⟩ := HX.out w2 H2.out
      have hs := Nat.lt_of_lt_of_le HSA.out H2.out.size
      go_wp2_with fail
      refine (FB.out w2).mono ?_
      rintro e w3 ⟨rfl, d⟩
      have H3 := Lib.hid (H2.out.trans (d.mono H2.out.size))
      clear d x0 x1 x2 hs
      have hs := Nat.lt_of_lt_of_le HSA.out H3.out.size
      obtain ⟨x0, x1, x2⟩ := HX.out w3 H3.out
      go_wp2_with fail
      refine (FR.out w3).mono ?_
      rintro e w4 ⟨rfl, d⟩
      have H4 := Lib.hid (H3.out.trans (d.mono H3.out.size))
      clear d x0 x1 x2 hs
      have hs := Nat.lt_of_lt_of_le HSA.out H4.out.size
      obtain ⟨x0, x1, x2⟩ := HX.out w4 H4.out
      go_wp2
      go_loopw [6, 8, 9, 10, 11] (fun s6 s8 s9 s10 s11 wr => ∃ (i : Nat) (left x out inn : Int), s6 = .int .i64 left ∧ s8 = .int .i64 x ∧ s9 = .int .i64 out ∧ s10 = .int .i64 inn ∧ s11 = .int .i64 (i : Int) ∧ i ≤ n ∧ x ≤ (i : Int) ∧ Ge.Fill g x inn left out ∧ Below wa.heap.size wa wr) (fun _ _ _ _ i _ => n - (intOf i).toNat)
      case atStart => exact ⟨0, bu, 0, 0, rm, rfl, rfl, rfl, rfl, rfl, Nat.zero_le _, by omega, HST.out, H4.out⟩
      case round =>
        obtain ⟨i, left, x, out, inn, rfl, rfl, rfl, rfl, rfl, hi, hxi, hfill, hbr⟩ := hrel
        have HBR := Lib.hid hbr
        have HFL := Lib.hid hfill
        obtain ⟨f1, f2, f3, f4, f5, f6, f7, -, -⟩ := hfill
        rw [HRM.out] at f3
        rw [HBU.out] at f5
        clear x0 x1 x2
        obtain ⟨x0, x1, x2⟩ := HX.out wr hbr
        by_cases hlt : i < n
        · have hil : i < l.length := by rw [HN.out]; exact hlt
          obtain ⟨ad, rfl, hadb, hcl⟩ := at_u16 HA.out i hil
          have c0 := hcl wr (HB.out.trans (hbr.mono HB.out.size))
          have hc1 := HLL.out _ (List.getElem_mem hil)
          obtain ⟨c, hcc⟩ : ∃ c, l[i]'hil = c := ⟨_, rfl⟩
          rw [hcc] at c0 hc1
          have HCL := Lib.hid (fun (W : World) (hW : Below wa.heap.size wa W) => hcl W (HB.out.trans (hW.mono HB.out.size)))
          simp only [hcc] at HCL
          clear hcl hcc hbr
          obtain ⟨r, hr⟩ : ∃ r, Int.tmod c g.M = r := ⟨_, rfl⟩
          have hr0 : 0 ≤ r ∧ r < g.M := by rw [← hr, Int.tmod_eq_emod_of_nonneg hc1.1]; exact ⟨Int.emod_nonneg _ (by omega), Int.emod_lt_of_pos _ (by omega)⟩
          have hw1 := wrap17 c (by omega) (by omega)
          have hw2 := wrap17 (1 + r) (by omega) (by omega)
          have hw3 := wrap17 r (by omega) (by omega)
          have hix := fun (W : World) => show (Instr.indexAt 36 (.slice (some ad) n cap) (.int .i64 (i : Int))).run Try.prog W = .ok (.pointer (some (ad.add i))) W by go_simp
          go_upto_region 12 with (fail)
          go_quiet (fail)
          obtain ⟨wq, hwq⟩ : ∃ wq, wr.drewN nq = wq := ⟨_, rfl⟩
          rw [hwq]
          have HBQ := Lib.hid (show Below wa.heap.size wa wq by rw [← hwq]; exact below_many HBR.out _)
          clear hwq x0 x1 x2 c0
          obtain ⟨x0, x1, x2⟩ := HX.out wq HBQ.out
          have c0 := HCL.out wq HBQ.out
          by_cases h1 : left < 1 + r
          · have s1 : decide (left < 1 + r) = true := decide_eq_true h1
            go_wp2
            go_roundw
            case rel => exact ⟨i + 1, left, x, out, inn, rfl, rfl, rfl, rfl, by go_num, by omega, by omega, HFL.out, HBQ.out⟩
            case measure => simp [intOf]; omega
          · have s1 : decide (left < 1 + r) = false := decide_eq_false h1
            have hw4 := wrap17 (left - (1 + r)) (by omega) (by omega)
            have hw5 := wrap17 (inn + (1 + r)) (by omega) (by omega)
            have hw6 := wrap17 (x + 1) (by omega) (by omega)
            obtain ⟨r3, hr3⟩ : ∃ r3, Int.tmod c 3 = r3 := ⟨_, rfl⟩
            have h3b : 0 ≤ r3 ∧ r3 < 3 := by rw [← hr3, Int.tmod_eq_emod_of_nonneg hc1.1]; exact ⟨Int.emod_nonneg _ (by omega), Int.emod_lt_of_pos _ (by omega)⟩
            have hu3 : IntKind.u16.wrap r3 = r3 := by simp [IntKind.wrap, IntKind.bits, IntKind.signed]; omega
            obtain ⟨r58, hr58⟩ : ∃ r58, Int.tmod c 58 = r58 := ⟨_, rfl⟩
            have h58 : 0 ≤ r58 ∧ r58 < 58 := by rw [← hr58, Int.tmod_eq_emod_of_nonneg hc1.1]; exact ⟨Int.emod_nonneg _ (by omega), Int.emod_lt_of_pos _ (by omega)⟩
            have hw7 := wrap17 r58 (by omega) (by omega)
            by_cases hx0 : x = 0
            · subst hx0
              have HF2 := Lib.hid (show Ge.Fill g 1 (1 + r) (left - (1 + r)) out by have := HFL.out.next HG.out (c := 1 + r) (by omega) (by omega) (by omega) (.inl rfl); rwa [Int.zero_add, Int.zero_add] at this)
              by_cases h3 : r3 = 0
              · have s3 : (r3 == 0) = true := by simpa using h3
                by_cases h4 : out < g.E
                · have s4 : decide (out < g.E) = true := decide_eq_true h4
                  have hw8 := wrap17 ((1 + r) + r58) (by omega) (by omega)
                  have hw9 := wrap17 (out + 1) (by omega) (by omega)
                  obtain ⟨mn, hmn⟩ : ∃ mn, min rm ((1 + r) + r58) = mn := ⟨_, rfl⟩
                  have HF3 := Lib.hid (HF2.out.over h58.1 (by omega) h4 (by omega))
                  rw [HRM.out, hmn] at HF3
                  go_wp2
                  go_roundw
                  case rel => exact ⟨i + 1, left - (1 + r), 1, out + 1, mn, rfl, rfl, rfl, by first | rfl | simp [hmn], by go_num, by omega, by omega, HF3.out, HBQ.out⟩
                  case measure => simp [intOf]; omega
                · have s4 : decide (out < g.E) = false := decide_eq_false h4
                  go_wp2
                  go_roundw
                  case rel => exact ⟨i + 1, left - (1 + r), 1, out, (1 + r), rfl, rfl, rfl, rfl, by go_num, by omega, by omega, HF2.out, HBQ.out⟩
                  case measure => simp [intOf]; omega
              · have s3 : (r3 == 0) = false := by simpa using h3
                go_wp2
                go_roundw
                case rel => exact ⟨i + 1, left - (1 + r), 1, out, (1 + r), rfl, rfl, rfl, rfl, by go_num, by omega, by omega, HF2.out, HBQ.out⟩
                case measure => simp [intOf]; omega
            · have s2 : (x == 0) = false := by simpa using hx0
              by_cases h2 : rm < inn + (1 + r)
              · have s5 : decide (rm < inn + (1 + r)) = true := decide_eq_true h2
                have HF2 := Lib.hid (show Ge.Fill g (x + 1) (1 + r) (left - (1 + r)) out by have := HFL.out.next HG.out (c := 1 + r) (by omega) (by omega) (by omega) (.inr (by rw [HRM.out]; exact h2)); rwa [Int.zero_add] at this)
                by_cases h3 : r3 = 0
                · have s3 : (r3 == 0) = true := by simpa using h3
                  by_cases h4 : out < g.E
                  · have s4 : decide (out < g.E) = true := decide_eq_true h4
                    have hw8 := wrap17 ((1 + r) + r58) (by omega) (by omega)
                    have hw9 := wrap17 (out + 1) (by omega) (by omega)
                    obtain ⟨mn, hmn⟩ : ∃ mn, min rm ((1 + r) + r58) = mn := ⟨_, rfl⟩
                    have HF3 := Lib.hid (HF2.out.over h58.1 (by omega) h4 (by omega))
                    rw [HRM.out, hmn] at HF3
                    go_wp2
                    go_roundw
                    case rel => exact ⟨i + 1, left - (1 + r), (x + 1), out + 1, mn, rfl, rfl, rfl, by first | rfl | simp [hmn], by go_num, by omega, by omega, HF3.out, HBQ.out⟩
                    case measure => simp [intOf]; omega
                  · have s4 : decide (out < g.E) = false := decide_eq_false h4
                    go_wp2
                    go_roundw
                    case rel => exact ⟨i + 1, left - (1 + r), (x + 1), out, (1 + r), rfl, rfl, rfl, rfl, by go_num, by omega, by omega, HF2.out, HBQ.out⟩
                    case measure => simp [intOf]; omega
                · have s3 : (r3 == 0) = false := by simpa using h3
                  go_wp2
                  go_roundw
                  case rel => exact ⟨i + 1, left - (1 + r), (x + 1), out, (1 + r), rfl, rfl, rfl, rfl, by go_num, by omega, by omega, HF2.out, HBQ.out⟩
                  case measure => simp [intOf]; omega
              · have s5 : decide (rm < inn + (1 + r)) = false := decide_eq_false h2
                have HF2 := Lib.hid (HFL.out.here (c := 1 + r) (by omega) (by omega) hx0 (by rw [HRM.out]; omega))
                by_cases h3 : r3 = 0
                · have s3 : (r3 == 0) = true := by simpa using h3
                  by_cases h4 : out < g.E
                  · have s4 : decide (out < g.E) = true := decide_eq_true h4
                    have hw8 := wrap17 ((inn + (1 + r)) + r58) (by omega) (by omega)
                    have hw9 := wrap17 (out + 1) (by omega) (by omega)
                    obtain ⟨mn, hmn⟩ : ∃ mn, min rm ((inn + (1 + r)) + r58) = mn := ⟨_, rfl⟩
                    have HF3 := Lib.hid (HF2.out.over h58.1 (by omega) h4 (by omega))
                    rw [HRM.out, hmn] at HF3
                    go_wp2
                    go_roundw
                    case rel => exact ⟨i + 1, left - (1 + r), x, out + 1, mn, rfl, rfl, rfl, by first | rfl | simp [hmn], by go_num, by omega, by omega, HF3.out, HBQ.out⟩
                    case measure => simp [intOf]; omega
                  · have s4 : decide (out < g.E) = false := decide_eq_false h4
                    go_wp2
                    go_roundw
                    case rel => exact ⟨i + 1, left - (1 + r), x, out, (inn + (1 + r)), rfl, rfl, rfl, rfl, by go_num, by omega, by omega, HF2.out, HBQ.out⟩
                    case measure => simp [intOf]; omega
                · have s3 : (r3 == 0) = false := by simpa using h3
                  go_wp2
                  go_roundw
                  case rel => exact ⟨i + 1, left - (1 + r), x, out, (inn + (1 + r)), rfl, rfl, rfl, rfl, by go_num, by omega, by omega, HF2.out, HBQ.out⟩
                  case measure => simp [intOf]; omega
        · have q0 : decide ((i : Int) < (n : Int)) = false := decide_eq_false (by omega)
          obtain ⟨hd1, hd2⟩ := HFL.out.done HG.out
          have t1 : decide (x ≤ g.E - 2) = true := decide_eq_true hd1
          have t2 : decide (0 ≤ left) = true := decide_eq_true hd2
          have hw1 := wrap17 (g.E - 2) (by omega) (by omega)
          have HE := Lib.hid (HB.out.trans (HBR.out.mono HB.out.size))
          clear hbr
          go_wp2
          go_ret
          exact ⟨rfl, HE.out⟩

open Go.ChangeShapes Go.WideShapes Go.ChangeAt

theorem walk (w : World) (g : Ge.G) (A : Option Addr) (cap : Nat) (l : List Int) (hl : l.length ≤ cap) (hm : cap ≤ maxLen) (hA : Lies w A (l.map fun x => .int .u16 x)) (hQ : ∀ x ∈ l, 0 ≤ x ∧ x ≤ 65535) :
    Calls Try.prog 5 #[.agg #[.int .i64 g.E, .int .i64 g.S, .int .i64 g.M], .slice A l.length cap] w fun e w' => e = .returned (.bool true) ∧ Below w.heap.size w w' :=
  walkN geomOk w g A l.length cap l rfl hl hm hA hQ

set_option maxRecDepth 100000 in
theorem lifted (os : Os) (started : os.Started) (H : Type) (enc : TypeId × Value → H) :
    ReturnsInHanded {} Try.checked os 5 .any (Rows.geomRoomSpec.pre6 enc Try.prog Try.f5 Rows.geomRoomRow.domain false) (Rows.geomRoomSpec.post enc Try.prog Try.f5 false true false false) := by
  refine returnsInHanded_of_change (C := Try.checked) own started (by kernel_rfl) Try.func5
    (ChangeSpec.witness6 (enc := enc) (C := Try.checked) false ⟨#[], #[.agg #[.int .i64 0, .int .i64 0, .int .i64 0], .slice none 0 0], []⟩ 8 (by kernel_rfl) (by kernel_rfl) (by kernel_rfl) (by kernel_rfl)) ?_
  intro W base args ds gs before hval0 hW hcnd _
  have hval : ∀ (j : Nat) t v, Try.f5.params[j]? = some t → args[j]? = some v → Value.okWide Try.prog W .any base t v := hval0
  have hfin := fun W' => law_post (enc := enc) (P := Try.prog) (f := Try.f5) (s := Rows.geomRoomSpec) (tb := 4) (W := W) (W' := W') (args := args) (ds := ds) (gs := gs) (before := before) laidOut rfl (by kernel_rfl) Try.underlying4 (by kernel_rfl) (fun xs h => by rw [Try.params5] at h; match xs, h with | [_, _], _ => rfl) hW
  have hlt : ∀ x ∈ before, x.block < W.heap.size := fun x hx => hW.lt x hx
  obtain ⟨p, q, hA0, hV, rfl, hfz, hnd⟩ := hW
  have hA : DataW.TrodAll enc Try.prog W 0 (fun _ => true) true Try.f5.params.toList args.toList ds p := hA0
  rw [Try.params5] at hA hval
  obtain ⟨v0, vs0, d0, ds0, p0, q0, hargs, rfl, rfl, h0, r0⟩ := trodAll_cons hA
  obtain ⟨v1, vs1, d1, ds1, p1, q1, rfl, rfl, rfl, h1, r1⟩ := trodAll_cons r0
  obtain ⟨rfl, rfl, rfl⟩ := trodAll_nil r1
  obtain rfl : args = #[v0, v1] := by cases args; simp_all
  obtain ⟨g0, rfl⟩ := open_geo (hval 0 23 v0 rfl rfl) h0
  obtain ⟨A1, cap1, l1, rfl, hl1, hm1, hB1, hQ1⟩ := open_u16s (hval 1 36 v1 rfl rfl) h1 (fun x hx => hlt x (by simp [hx]))
  refine (walk W g0 A1 cap1 l1 hl1 hm1 hB1 hQ1).mono fun e W' ⟨he, hg⟩ => ?_
  subst he
  exact ⟨_, rfl, hfin W' hg⟩

theorem proved : Rows.GeomRoomSaid :=
  OpenClaim.holds_of_wide 5 Try.f5 rfl rfl rfl rfl rfl rfl rfl ⟨rfl, rfl, rfl, rfl, rfl⟩ rfl rfl rfl rfl rfl (by kernel_rfl) Try.func5 (by kernel_rfl)
    (of_decide_eq_true (by kernel_rfl)) (by unfold Func.isWrapper; first | (rw [if_pos (by decide +kernel)]; kernel_rfl) | (rw [if_neg (by decide +kernel)]; exact ⟨rfl, rfl⟩))
    (fun os started H enc _ => lifted os started H enc)
#print axioms proved
end Go.Proofs.Ytgicjdlpkphfnaa.geomRoom
