/-
  PoolFull (turntablelaw16): holds for every input. No condition but that the inputs are a Go bool and a uint8.
-/
import Derived.Test.YthcchfhkeghkhaaLwP
import Derived.BigRegion
import Derived.BigQuiet
import Derived.Deep.CutRange
import Derived.Test.YthcchfhkeghkhaaPoZ

namespace Go.Proofs.Ythcchfhkeghkhaa.poolFull
open Go.RowKit Go.Maps Po
set_option maxRecDepth 100000

/-! what is gathered -/
def nextF (one : Bool) (k : Nat) : Plain.Sp := if one then s16 7 (k + 1) else s16 (k + 1) 1
def seqF (one : Bool) (k : Nat) : List Plain.Sp := (List.range k).map (nextF one)
theorem seqF_succ (one : Bool) (k : Nat) : seqF one (k + 1) = seqF one k ++ [nextF one k] := by unfold seqF; rw [List.range_succ, List.map_append]; rfl
theorem seqF_len (one : Bool) (k : Nat) : (seqF one k).length = k := by simp [seqF]
theorem seqF_mem {one : Bool} {k : Nat} {x : Plain.Sp} : x ∈ seqF one k ↔ ∃ i, i < k ∧ nextF one i = x := by simp [seqF]
theorem of_true (k : Nat) : Po.of (seqF true k) 7 = seqF true k := by
  unfold Po.of
  rw [List.filter_eq_self]
  intro x hx
  obtain ⟨i, -, rfl⟩ := seqF_mem.1 hx
  rfl
theorem of_false (k j : Nat) (h : k ≤ j) : Po.of (seqF false k) ((j : Int) + 1) = [] := by
  unfold Po.of
  rw [List.filter_eq_nil_iff]
  intro x hx
  obtain ⟨i, hi, rfl⟩ := seqF_mem.1 hx
  simp only [nextF, s16]
  simp
  omega
theorem of_seven : ∀ k, 7 ≤ k → (Po.of (seqF false k) 7).length = 1 := by
  intro k
  induction k with
  | zero => intro h; omega
  | succ k ih =>
    intro h
    rw [seqF_succ, of_snoc]
    by_cases e : k = 6
    · subst e
      rw [if_pos (by rfl)]
      have := of_false 6 6 (Nat.le_refl _)
      rw [show ((6 : Nat) : Int) + 1 = 7 from rfl] at this
      rw [this]; rfl
    · rw [if_neg (by simp [nextF, s16]; omega)]
      exact ih (by omega)
theorem ids_false (k : Nat) : (Po.ids (seqF false k)).length = k := by
  induction k with
  | zero => rfl
  | succ k ih =>
    rw [seqF_succ, ids_snoc, insU_len, if_neg, ih]
    rw [← of_nil]
    exact of_false k k (Nat.le_refl _)
theorem ids_true (k : Nat) (h : 1 ≤ k) : (Po.ids (seqF true k)).length = 1 := by
  induction k with
  | zero => omega
  | succ k ih =>
    rw [seqF_succ, ids_snoc, insU_len]
    by_cases e : k = 0
    · subst e; rfl
    · rw [if_pos, ih (by omega)]
      exact (ids_mem _ _).2 ⟨nextF true 0, seqF_mem.2 ⟨0, by omega, rfl⟩, rfl⟩
theorem right_next (one : Bool) (k : Nat) (h : k ≤ 100) : (nextF one k).right = true := by
  cases one
  · exact right16 (by omega)
  · exact right16 (by omega)
theorem unlike (one : Bool) (k : Nat) : ∀ x ∈ seqF one k, ¬ (x.t = (nextF one k).t ∧ x.i = (nextF one k).i) := by
  intro x hx
  obtain ⟨i, hi, rfl⟩ := seqF_mem.1 hx
  cases one <;> simp only [nextF, s16] <;> simp <;> omega
theorem code_yes (one : Bool) (k : Nat) (h : k < 64) : code 1048576 (seqF one k) (nextF one k) = 0 := by
  refine code_zero.2 ⟨right_next one k (by omega), unlike one k, ?_, ?_, Int.le_trans (cost_le16 _) (by omega)⟩
  · cases one
    · rw [show (nextF false k).t = (k : Int) + 1 from rfl, of_false k k (Nat.le_refl _)]; simp
    · rw [show (nextF true k).t = 7 from rfl, of_true, seqF_len]; exact h
  · intro _
    cases one
    · rw [ids_false]; exact h
    · by_cases e : k = 0
      · subst e; simp [seqF, Po.ids]
      · rw [ids_true k (by omega)]; omega
theorem code_no (one : Bool) (k : Nat) (h : 64 ≤ k) (h2 : k ≤ 100) : code 1048576 (seqF one 64) (nextF one k) = 2 := by
  refine code_many (right_next one k h2) ?_ ?_
  · intro x hx
    obtain ⟨i, hi, rfl⟩ := seqF_mem.1 hx
    cases one <;> simp only [nextF, s16] <;> simp <;> omega
  · cases one
    · right
      rw [show (nextF false k).t = (k : Int) + 1 from rfl, of_false 64 k h, ids_false]
      exact ⟨rfl, Nat.le_refl _⟩
    · left
      rw [show (nextF true k).t = 7 from rfl, of_true, seqF_len]
      exact Nat.le_refl _
theorem codes_one (most : Int) (G : List Plain.Sp) (s : Plain.Sp) : codes most G [s] = code most G s := by
  show (if code most G s = 0 then (0 : Int) else code most G s) = code most G s
  split
  · rename_i h; exact h.symm
  · rfl
theorem step (one : Bool) (k : Nat) (h : k ≤ 100) : (codes 1048576 (seqF one (min k 64)) [nextF one k] = if k < 64 then 0 else 2) ∧ put 1048576 (seqF one (min k 64)) [nextF one k] = seqF one (min (k + 1) 64) := by
  by_cases h6 : k < 64
  · have e : codes 1048576 (seqF one (min k 64)) [nextF one k] = 0 := by rw [codes_one, Nat.min_eq_left (by omega)]; exact code_yes one k h6
    refine ⟨by rw [e, if_pos h6], ?_⟩
    unfold put
    rw [if_pos e, Nat.min_eq_left (by omega), Nat.min_eq_left (by omega), seqF_succ]
  · have e : codes 1048576 (seqF one (min k 64)) [nextF one k] = 2 := by rw [codes_one, Nat.min_eq_right (by omega)]; exact code_no one k (by omega) h
    refine ⟨by rw [e, if_neg h6], ?_⟩
    unfold put
    rw [if_neg (by rw [e]; decide), Nat.min_eq_right (by omega), Nat.min_eq_right (by omega)]
set_option maxHeartbeats 8000000 in
theorem walkN {IsP : List Nat → World → Nat → List Nat → Int → List Plain.Sp → Prop} (hOk : PoolOk IsP) (w : World) (one : Bool) (m : Int) (hm : 0 ≤ m ∧ m ≤ 255) :
    Calls Try.prog 8 #[.bool one, .int .u8 m] w fun e w' => e = .returned (.bool true) ∧ Below w.heap.size w w' := by
  have HK := Lib.hid hOk
  have HH := Lib.hid (head16_any hOk w)
  clear hOk
  go_enter Try.func8, Try.ntmps8
  go_wp2_with fail
  refine HH.out.mono ?_
  rintro e w1 ⟨rfl, d1⟩
  have HB1 := Lib.hid d1
  clear d1 HH
  go_wp2_with fail
  refine (HK.out.new [] 1048576 w1 (by simp)).mono ?_
  rintro e w2 ⟨p, O, rfl, h2, ho2, d2⟩
  have HP2 := Lib.hid h2
  have HO2 := Lib.hid (fun g (hg : g ∈ O) => show w.heap.size ≤ g from Nat.le_trans HB1.out.size (ho2 g hg))
  have HB2 := Lib.hid (HB1.out.trans (d2.mono HB1.out.size))
  clear h2 ho2 d2 HB1
  obtain ⟨N, hN, h60, h68⟩ : ∃ N : Nat, 60 + m % 9 = (N : Int) ∧ 60 ≤ N ∧ N ≤ 68 := ⟨(60 + m % 9).toNat, by omega, by omega, by omega⟩
  have HNN := Lib.hid hN
  clear hN
  go_wp2
  rw [HNN.out]
  go_loopw [8] (fun s8 wr => ∃ (k : Nat) (O : List Nat), s8 = .int .i64 (k : Int) ∧ k ≤ N ∧ IsP [] wr p O 1048576 (seqF one (min k 64)) ∧ (∀ g ∈ O, w.heap.size ≤ g) ∧ Below w.heap.size w wr) (fun i _ => N - (intOf i).toNat)
  case atStart => exact ⟨0, O, rfl, Nat.zero_le _, HP2.out, HO2.out, HB2.out⟩
  case round =>
    obtain ⟨k, Ok, rfl, hk, hP, hO, hbr⟩ := hrel
    have HP := Lib.hid hP
    have HO := Lib.hid hO
    have HBR := Lib.hid hbr
    clear hP hO hbr HP2 HO2 HB2
    by_cases hlt : k < N
    · have HST := Lib.hid (step one k (by omega))
      go_wp2_with fail
      refine (one16_any ((k : Int) + 1) 1 10 wr (by omega) (by omega) (by omega)).mono ?_
      rintro e w3 ⟨rfl, d3⟩
      have HP3 := Lib.hid (HK.out.below HP.out d3)
      have HB3 := Lib.hid (HBR.out.trans (d3.mono HBR.out.size))
      clear d3 HP HBR
      have HBA := Lib.hid (fun (o : Obj) => show Below w3.heap.size w3 (w3.alloc o) from (Below.refl _ _).alloc (Nat.le_refl _) _)
      rcases one with _ | _
      · have x3 := Blk.new w3 #[.int .i64 ((k : Int) + 1), .int .i64 1, .int .i64 0, .int .i64 10, .int .i64 5, .string ⟨#[119, 101, 98]⟩, .string ⟨#[110]⟩] 45
        obtain ⟨y0, y1, y2, y3, y4, y5, y6⟩ := seven16 x3
        have HA := Lib.hid (addRow16 HK.out (w := w3.alloc (.cells #[.int .i64 ((k : Int) + 1), .int .i64 1, .int .i64 0, .int .i64 10, .int .i64 5, .string ⟨#[119, 101, 98]⟩, .string ⟨#[110]⟩] 45)) (HK.out.below HP3.out (HBA.out _)) (nextF false k) (right_next false k (by omega)) (w3.heap.size + 1) (by simp) HST.out.1 HST.out.2)
        clear x3 HST
        by_cases h6 : k < 64
        · rw [if_pos h6] at HA
          have t6 : decide ((k : Int) < 64) = true := decide_eq_true (by omega)
          go_wp2_with fail
          refine HA.out.mono ?_
          rintro e w4 ⟨rfl, O4, h4, hb4⟩
          have HP4 := Lib.hid h4
          have HB4 := Lib.hid (hb4 w (HB3.out.trans ((HBA.out _).mono HB3.out.size)) HO.out)
          clear h4 hb4 HA y0 y1 y2 y3 y4 y5 y6
          go_wp2
          go_roundw
          case rel => exact ⟨k + 1, O4, by go_num, by omega, HP4.out, HB4.out.2, HB4.out.1⟩
          case measure => simp [intOf]; omega
        · rw [if_neg h6] at HA
          have t6 : decide ((k : Int) < 64) = false := decide_eq_false (by omega)
          go_wp2_with fail
          refine HA.out.mono ?_
          rintro e w4 ⟨rfl, O4, h4, hb4⟩
          have HP4 := Lib.hid h4
          have HB4 := Lib.hid (hb4 w (HB3.out.trans ((HBA.out _).mono HB3.out.size)) HO.out)
          clear h4 hb4 HA y0 y1 y2 y3 y4 y5 y6
          go_wp2
          go_roundw
          case rel => exact ⟨k + 1, O4, by go_num, by omega, HP4.out, HB4.out.2, HB4.out.1⟩
          case measure => simp [intOf]; omega
      · have x3 := Blk.new w3 #[.int .i64 ((k : Int) + 1), .int .i64 1, .int .i64 0, .int .i64 10, .int .i64 5, .string ⟨#[119, 101, 98]⟩, .string ⟨#[110]⟩] 45
        have HX3 := Lib.hid (show BoxS _ w3.heap.size ⟨(k : Int) + 1, 1, 0, 10, 5, [119, 101, 98], [110]⟩ from x3)
        clear x3
        go_wp2_with fail
        refine (one16_any 7 ((k : Int) + 1) (10 * ((k : Int) + 1)) _ (by omega) (by omega) rfl).mono ?_
        rintro e w4 ⟨rfl, d4⟩
        have HX4 := Lib.hid ((Kept.of d4 []).blk HX3.out (by simp))
        have HP4 := Lib.hid (HK.out.below (HK.out.below (HK.out.more (S := [w3.heap.size]) HP3.out (by simp)) (HBA.out _)) d4)
        have HB4 := Lib.hid ((HB3.out.trans ((HBA.out _).mono HB3.out.size)).trans (d4.mono (by have := HB3.out.size; simp; omega)))
        have HZ4 := Lib.hid (show w3.heap.size + 1 ≤ w4.heap.size by have := d4.size; simpa using this)
        clear d4 HX3
        obtain ⟨w5, hr5, hx5, hk5⟩ := store_sp HX4.out (nextF true k)
        have HR5 := Lib.hid hr5
        have HX5 := Lib.hid hx5
        have HK5 := Lib.hid hk5
        clear hr5 hx5 hk5 HX4
        have hz0 := HB4.out.size
        have HP5 := Lib.hid (HK.out.more (S := []) (HK.out.keep HP4.out HK5.out (by simp)) (by simp))
        have HB5 := Lib.hid (Kept.below HB4.out HK5.out (by have := HB3.out.size; simp; omega))
        have HA := Lib.hid (addRow16 HK.out (w := w5) HP5.out (nextF true k) (right_next true k (by omega)) w5.heap.size rfl HST.out.1 HST.out.2)
        obtain ⟨y0, y1, y2, y3, y4, y5, y6⟩ := seven16 (show Blk w5 w3.heap.size #[.int .i64 7, .int .i64 ((k : Int) + 1), .int .i64 0, .int .i64 (10 * ((k : Int) + 1)), .int .i64 5, .string ⟨#[119, 101, 98]⟩, .string ⟨#[110]⟩] 45 from HX5.out)
        clear HP4 HB4 HK5 HX5 HP5 HST
        by_cases h6 : k < 64
        · rw [if_pos h6] at HA
          have t6 : decide ((k : Int) < 64) = true := decide_eq_true (by omega)
          go_wp2_with (first | fail | refine wpList_storeW16 rfl _ _ _ rfl _ _ rfl rfl HR5.out ?_)
          refine HA.out.mono ?_
          rintro e w6 ⟨rfl, O6, h4, hb4⟩
          have HP6 := Lib.hid h4
          have HB6 := Lib.hid (hb4 w HB5.out HO.out)
          clear h4 hb4 HA y0 y1 y2 y3 y4 y5 y6 HR5
          go_wp2
          go_roundw
          case rel => exact ⟨k + 1, O6, by go_num, by omega, HP6.out, HB6.out.2, HB6.out.1⟩
          case measure => simp [intOf]; omega
        · rw [if_neg h6] at HA
          have t6 : decide ((k : Int) < 64) = false := decide_eq_false (by omega)
          go_wp2_with (first | fail | refine wpList_storeW16 rfl _ _ _ rfl _ _ rfl rfl HR5.out ?_)
          refine HA.out.mono ?_
          rintro e w6 ⟨rfl, O6, h4, hb4⟩
          have HP6 := Lib.hid h4
          have HB6 := Lib.hid (hb4 w HB5.out HO.out)
          clear h4 hb4 HA y0 y1 y2 y3 y4 y5 y6 HR5
          go_wp2
          go_roundw
          case rel => exact ⟨k + 1, O6, by go_num, by omega, HP6.out, HB6.out.2, HB6.out.1⟩
          case measure => simp [intOf]; omega
    · obtain rfl : k = N := by omega
      rcases one with _ | _
      · have h7 : (7 : Int) ∈ Po.ids (seqF false (min k 64)) := by
          refine (ids_mem _ _).2 ⟨nextF false 6, seqF_mem.2 ⟨6, by omega, rfl⟩, rfl⟩
        have HG := Lib.hid (HK.out.get_as HP.out 7 (b := true) (n := 1) (decide_eq_true h7) rfl (by rw [part_len, of_seven _ (by omega)]))
        have HM := Lib.hid (show ((Po.ids (seqF false (min k 64))).length : Int) = ((min k 64 : Nat) : Int) by rw [ids_false])
        clear h7
        go_wp2_with fail
        refine HG.out.mono ?_
        rintro e w4 ⟨AG, cG, rfl, -, -, -, -, d4⟩
        have HP4 := Lib.hid (HK.out.below HP.out d4)
        have HB4 := Lib.hid (HBR.out.trans (d4.mono HBR.out.size))
        clear d4 HG
        go_wp2_with fail
        refine (HK.out.many_as HP4.out HM.out).mono ?_
        rintro e w5 ⟨rfl, d5⟩
        have HB5 := Lib.hid (HB4.out.trans (d5.mono HB4.out.size))
        have he : (((min k 64 : Nat) : Int) == min (k : Int) 64) = true := by rw [beq_iff_eq]; omega
        clear d5
        go_wp2
        all_goals first
          | (go_ret; exact ⟨rfl, HB5.out⟩)
          | (exfalso; omega)
      · have h7 : (7 : Int) ∈ Po.ids (seqF true (min k 64)) := by
          refine (ids_mem _ _).2 ⟨nextF true 0, seqF_mem.2 ⟨0, by omega, rfl⟩, rfl⟩
        have HG := Lib.hid (HK.out.get_as HP.out 7 (b := true) (n := min k 64) (decide_eq_true h7) rfl (by rw [part_len, of_true, seqF_len]))
        have HM := Lib.hid (show ((Po.ids (seqF true (min k 64))).length : Int) = 1 by rw [ids_true _ (by omega)]; rfl)
        clear h7
        obtain ⟨q, hq⟩ : ∃ q, min k 64 = q := ⟨_, rfl⟩
        rw [hq] at HG HM HP
        rcases Nat.lt_or_ge 64 k with h6 | h6
        · obtain rfl : q = 64 := by omega
          have he : ((64 : Int) == min (k : Int) 64) = true := by rw [beq_iff_eq]; omega
          go_wp2_with fail
          refine HG.out.mono ?_
          rintro e w4 ⟨AG, cG, rfl, -, -, -, -, d4⟩
          have HP4 := Lib.hid (HK.out.below HP.out d4)
          have HB4 := Lib.hid (HBR.out.trans (d4.mono HBR.out.size))
          clear d4 HG
          go_wp2_with fail
          refine (HK.out.many_as HP4.out HM.out).mono ?_
          rintro e w5 ⟨rfl, d5⟩
          have HB5 := Lib.hid (HB4.out.trans (d5.mono HB4.out.size))
          clear d5
          go_wp2
          all_goals first
            | (go_ret; exact ⟨rfl, HB5.out⟩)
            | (exfalso; omega)
        · obtain rfl : q = k := by omega
          have he : ((q : Int) == min (q : Int) 64) = true := by rw [beq_iff_eq]; omega
          go_wp2_with fail
          refine HG.out.mono ?_
          rintro e w4 ⟨AG, cG, rfl, -, -, -, -, d4⟩
          have HP4 := Lib.hid (HK.out.below HP.out d4)
          have HB4 := Lib.hid (HBR.out.trans (d4.mono HBR.out.size))
          clear d4 HG
          go_wp2_with fail
          refine (HK.out.many_as HP4.out HM.out).mono ?_
          rintro e w5 ⟨rfl, d5⟩
          have HB5 := Lib.hid (HB4.out.trans (d5.mono HB4.out.size))
          clear d5
          go_wp2
          all_goals first
            | (go_ret; exact ⟨rfl, HB5.out⟩)
            | (exfalso; omega)

open Go.ChangeShapes Go.WideShapes Go.ChangeAt

theorem walk (w : World) (a : Bool) (m : Int) (hm : 0 ≤ m ∧ m ≤ 255) :
    Calls Try.prog 8 #[.bool a, .int .u8 m] w fun e w' => e = .returned (.bool true) ∧ Below w.heap.size w w' :=
  walkN poolOk w a m hm

set_option maxRecDepth 100000 in
theorem lifted (os : Os) (started : os.Started) (H : Type) (enc : TypeId × Value → H) :
    ReturnsInHanded {} Try.checked os 8 .any (Rows.poolFullSpec.pre6 enc Try.prog Try.f8 Rows.poolFullRow.domain false) (Rows.poolFullSpec.post enc Try.prog Try.f8 false true false false) := by
  refine returnsInHanded_of_change (C := Try.checked) own started (by kernel_rfl) Try.func8
    (ChangeSpec.witness6 (enc := enc) (C := Try.checked) false ⟨#[], #[.bool false, .int .u8 0], []⟩ 8 (by kernel_rfl) (by kernel_rfl) (by kernel_rfl) (by kernel_rfl)) ?_
  intro W base args ds gs before hval0 hW hcnd _
  have hval : ∀ (j : Nat) t v, Try.f8.params[j]? = some t → args[j]? = some v → Value.okWide Try.prog W .any base t v := hval0
  have hfin := fun W' => law_post (enc := enc) (P := Try.prog) (f := Try.f8) (s := Rows.poolFullSpec) (tb := 4) (W := W) (W' := W') (args := args) (ds := ds) (gs := gs) (before := before) laidOut rfl (by kernel_rfl) Try.underlying4 (by kernel_rfl) (fun xs h => by rw [Try.params8] at h; match xs, h with | [_, _], _ => rfl) hW
  obtain ⟨p, q, hA0, hV, rfl, hfz, hnd⟩ := hW
  have hA : DataW.TrodAll enc Try.prog W 0 (fun _ => true) true Try.f8.params.toList args.toList ds p := hA0
  rw [Try.params8] at hA hval
  obtain ⟨v0, vs0, d0, ds0, p0, q0, hargs, rfl, rfl, h0, r0⟩ := trodAll_cons hA
  obtain ⟨v1, vs1, d1, ds1, p1, q1, rfl, rfl, rfl, h1, r1⟩ := trodAll_cons r0
  obtain ⟨rfl, rfl, rfl⟩ := trodAll_nil r1
  obtain rfl : args = #[v0, v1] := by cases args; simp_all
  obtain ⟨a0, rfl, rfl, rfl⟩ := open_bool Try.underlying4 (hval 0 4 v0 rfl rfl) h0
  obtain ⟨a1, rfl, rfl, rfl, w1⟩ := open_int Try.underlying5 (hval 1 5 v1 rfl rfl) h1
  refine (walk W a0 a1 (bounds_u8 w1)).mono fun e W' ⟨he, hg⟩ => ?_
  subst he
  exact ⟨_, rfl, hfin W' hg⟩

theorem proved : Rows.PoolFullSaid :=
  OpenClaim.holds_of_wide 8 Try.f8 rfl rfl rfl rfl rfl rfl rfl ⟨rfl, rfl, rfl, rfl, rfl⟩ rfl rfl rfl rfl rfl (by kernel_rfl) Try.func8 (by kernel_rfl)
    (of_decide_eq_true (by kernel_rfl)) (by unfold Func.isWrapper; first | (rw [if_pos (by decide +kernel)]; kernel_rfl) | (rw [if_neg (by decide +kernel)]; exact ⟨rfl, rfl⟩))
    (fun os started H enc _ => lifted os started H enc)
#print axioms proved
end Go.Proofs.Ythcchfhkeghkhaa.poolFull
