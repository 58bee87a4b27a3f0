/-
  Layer 16: the head of the laws: it holds, of a package pool that keeps its contracts. (Made by gen16/hd16.py.)
-/
import Derived.Test.YthcchfhkeghkhaaPoK
import Derived.Test.YthcchfhkeghkhaaBatC
import Derived.Test.YthcchfhkeghkhaaRc13

namespace Go.Proofs.Ythcchfhkeghkhaa
open Go.RowKit Go.Maps Po
set_option maxRecDepth 100000

/-- turntablelaw04.One -/
def s16 (t i : Int) : Plain.Sp := ⟨t, i, 0, 10 * i, 5, [119, 101, 98], [110]⟩
theorem seven16 {w : World} {g : Nat} {t : TypeId} {v0 v1 v2 v3 v4 v5 v6 : Value} (h : Blk w g #[v0, v1, v2, v3, v4, v5, v6] t) : w.cell? ⟨g, 0, none⟩ = some v0 ∧ w.cell? ⟨g, 1, none⟩ = some v1 ∧ w.cell? ⟨g, 2, none⟩ = some v2 ∧ w.cell? ⟨g, 3, none⟩ = some v3 ∧ w.cell? ⟨g, 4, none⟩ = some v4 ∧ w.cell? ⟨g, 5, none⟩ = some v5 ∧ w.cell? ⟨g, 6, none⟩ = some v6 :=
  ⟨Blk.cell h 0, Blk.cell h 1, Blk.cell h 2, Blk.cell h 3, Blk.cell h 4, Blk.cell h 5, Blk.cell h 6⟩
theorem one16_any (t i j : Int) (w : World) (hi : 0 ≤ i) (hi2 : i ≤ 1000) (hj : 10 * i = j) :
    Calls Try.prog 29 #[.int .i64 t, .int .i64 i] w fun e w' => e = .returned (.agg #[.int .i64 t, .int .i64 i, .int .i64 0, .int .i64 j, .int .i64 5, .string ⟨#[119, 101, 98]⟩, .string ⟨#[110]⟩]) ∧ Below w.heap.size w w' := by
  subst hj
  obtain ⟨y0, y1, y2, y3, y4, y5, y6⟩ := seven16 (Blk.new w #[.int .i64 t, .int .i64 i, .int .i64 0, .int .i64 (10 * i), .int .i64 5, .string ⟨#[119, 101, 98]⟩, .string ⟨#[110]⟩] 45)
  go_enter Try.func29, Try.ntmps29
  go_wp2
  refine bodyPost_ret (v := .agg #[.int .i64 t, .int .i64 i, .int .i64 0, .int .i64 (10 * i), .int .i64 5, .string ⟨#[119, 101, 98]⟩, .string ⟨#[110]⟩]) (by simp [results, Try.results29, go_sem, y0, y1, y2, y3, y4, y5, y6]) rfl ?_
  exact ⟨rfl, by go_grown⟩

/-! what is answered, reckoned -/
def l16 : List Plain.Sp := [s16 5 2, s16 3 1, s16 5 1]
theorem right16 {t i : Int} (h : 1 ≤ t ∧ t ≤ 1000 ∧ 1 ≤ i ∧ i ≤ 1000) : (s16 t i).right = true := by
  rw [Plain.Sp.right_iff]
  unfold s16
  simp only [List.length_cons, List.length_nil]
  omega
theorem c16_a : codes 100 [] l16 = 0 := by
  have e1 : code 100 [] (s16 5 2) = 0 := code_zero.2 ⟨by decide +kernel, by decide +kernel, by decide +kernel, by decide +kernel, by
    show (Rc.cost (Po.part [s16 5 2] 5) : Int) ≤ 100
    rw [part_eq (d := [s16 5 2]) (by decide +kernel) (by decide +kernel)]; decide +kernel⟩
  have e2 : code 100 [s16 5 2] (s16 3 1) = 0 := code_zero.2 ⟨by decide +kernel, by decide +kernel, by decide +kernel, by decide +kernel, by
    show (Rc.cost (Po.part [s16 5 2, s16 3 1] 3) : Int) ≤ 100
    rw [part_eq (d := [s16 3 1]) (by decide +kernel) (by decide +kernel)]; decide +kernel⟩
  have e3 : code 100 [s16 5 2, s16 3 1] (s16 5 1) = 0 := code_zero.2 ⟨by decide +kernel, by decide +kernel, by decide +kernel, by decide +kernel, by
    show (Rc.cost (Po.part [s16 5 2, s16 3 1, s16 5 1] 5) : Int) ≤ 100
    rw [part_eq (d := [s16 5 1, s16 5 2]) (by decide +kernel) (by decide +kernel)]; decide +kernel⟩
  show (if code 100 [] (s16 5 2) = 0 then (if code 100 [s16 5 2] (s16 3 1) = 0 then (if code 100 [s16 5 2, s16 3 1] (s16 5 1) = 0 then (0 : Int) else _) else _) else _) = 0
  rw [if_pos e1, if_pos e2, if_pos e3]
theorem c16_b : codes 100 l16 [s16 7 1, s16 5 1] = 4 := by
  have e1 : code 100 l16 (s16 7 1) = 0 := code_zero.2 ⟨by decide +kernel, by decide +kernel, by decide +kernel, by decide +kernel, by
    show (Rc.cost (Po.part (l16 ++ [s16 7 1]) 7) : Int) ≤ 100
    rw [part_eq (d := [s16 7 1]) (by decide +kernel) (by decide +kernel)]; decide +kernel⟩
  have e2 : code 100 (l16 ++ [s16 7 1]) (s16 5 1) = 4 := code_there (by decide +kernel) ⟨s16 5 1, by decide +kernel, rfl, rfl⟩
  show (if code 100 l16 (s16 7 1) = 0 then (if code 100 (l16 ++ [s16 7 1]) (s16 5 1) = 0 then (0 : Int) else code 100 (l16 ++ [s16 7 1]) (s16 5 1)) else _) = 4
  rw [if_pos e1, e2]; rfl
theorem c16_c : codes 100 l16 [Plain.Sp.zero] = 1 := by
  have e1 : code 100 l16 Plain.Sp.zero = 1 := code_wrong (by decide +kernel)
  show (if code 100 l16 Plain.Sp.zero = 0 then (0 : Int) else code 100 l16 Plain.Sp.zero) = 1
  rw [e1]; rfl
theorem c16_d : codes 10 [] [s16 5 2] = 51 := by
  have e1 : code 10 [] (s16 5 2) = 51 := code_big (by decide +kernel) (by decide +kernel) (by decide +kernel) (by decide +kernel) (by
    show 10 < (Rc.cost (Po.part [s16 5 2] 5) : Int)
    rw [part_eq (d := [s16 5 2]) (by decide +kernel) (by decide +kernel)]; decide +kernel)
  show (if code 10 [] (s16 5 2) = 0 then (0 : Int) else code 10 [] (s16 5 2)) = 51
  rw [e1]; rfl
theorem p16_a : put 100 [] l16 = l16 := by unfold put; rw [if_pos c16_a]; rfl
theorem p16_b : put 100 l16 [s16 7 1, s16 5 1] = l16 := by unfold put; rw [if_neg (by rw [c16_b]; decide)]
theorem p16_c : put 100 l16 [Plain.Sp.zero] = l16 := by unfold put; rw [if_neg (by rw [c16_c]; decide)]
theorem g16_a : Po.part l16 5 = [s16 5 1, s16 5 2] := part_eq (by decide +kernel) (by decide +kernel)
theorem i16_a : ids l16 = [3, 5] := by decide +kernel
theorem d16_a : Po.drop l16 3 = [s16 5 2, s16 5 1] := by decide +kernel
theorem i16_b : ids [s16 5 2, s16 5 1] = [5] := by decide +kernel
theorem d16_b : Po.drop [s16 5 2, s16 5 1] 3 = [s16 5 2, s16 5 1] := by decide +kernel
theorem fine16 (l : List Plain.Sp) (h : ∀ x ∈ l, x.right = true ∨ x = Plain.Sp.zero) : Fine l := fun x hx => by
  rcases h x hx with h | rfl
  · obtain ⟨-, -, -, -, -, -, -, -, -, -, -, h1, h2, h3⟩ := (Plain.Sp.right_iff x).1 h
    unfold maxLen
    omega
  · unfold maxLen; decide

theorem same_is16 (A B : Option Addr) (n ca cb : Nat) (a : List Plain.Sp) (w : World) (hn : a.length = n) (hca : n ≤ ca) (hcb : n ≤ cb) (hma : ca ≤ maxLen) (hmb : cb ≤ maxLen) (hA : Lies w A (flat a)) (hB : Lies w B (flat a)) :
    Calls Try.prog 17 #[.slice A n ca, .slice B n cb] w fun e w' => e = .returned (.bool true) ∧ Below w.heap.size w w' := by
  have := same_any A B n n ca cb a a w hn hn hca hcb hma hmb hA hB
  rwa [decide_eq_true rfl] at this
theorem sameIds_is16 (A B : Option Addr) (n ca cb : Nat) (a : List Int) (w : World) (hn : a.length = n) (hca : n ≤ ca) (hcb : n ≤ cb) (hma : ca ≤ maxLen) (hmb : cb ≤ maxLen) (hA : Lies w A (nums a)) (hB : Lies w B (nums a)) :
    Calls Try.prog 22 #[.slice A n ca, .slice B n cb] w fun e w' => e = .returned (.bool true) ∧ Below w.heap.size w w' := by
  have := sameIds_any A B n n ca cb a a w hn hn hca hcb hma hmb hA hB
  rwa [decide_eq_true rfl] at this

set_option maxHeartbeats 8000000 in
theorem head16_any {IsP : List Nat → World → Nat → List Nat → Int → List Plain.Sp → Prop} (hOk : PoolOk IsP) (w : World) :
    Calls Try.prog 9 #[] w fun e w' => e = .returned (.bool true) ∧ Below w.heap.size w w' := by
  have HK := Lib.hid hOk
  have HN := Lib.hid (hOk.new [] 100 w (by simp))
  clear hOk
  go_enter Try.func9, Try.ntmps9
  go_wp2_with fail
  refine HN.out.mono ?_
  rintro e w1 ⟨p, O1, rfl, h1, ho1, b1⟩
  have HP1 := Lib.hid h1
  have HO1 := Lib.hid ho1
  have HB1 := Lib.hid b1
  clear h1 ho1 b1
  go_wp2_with fail
  refine (one16_any 5 2 20 _ (by omega) (by omega) (by omega)).mono ?_
  rintro e w2 ⟨rfl, d⟩
  have HP2 := Lib.hid (HK.out.below HP1.out d)
  have HB2 := Lib.hid (HB1.out.trans (d.mono HB1.out.size))
  clear d
  go_wp2_with fail
  refine (one16_any 3 1 10 _ (by omega) (by omega) (by omega)).mono ?_
  rintro e w3 ⟨rfl, d⟩
  have HP3 := Lib.hid (HK.out.below HP2.out d)
  have HB3 := Lib.hid (HB2.out.trans (d.mono HB2.out.size))
  clear d
  go_wp2_with fail
  refine (one16_any 5 1 10 _ (by omega) (by omega) (by omega)).mono ?_
  rintro e w4 ⟨rfl, d⟩
  have HP4 := Lib.hid (HK.out.below HP3.out d)
  have HB4 := Lib.hid (HB3.out.trans (d.mono HB3.out.size))
  clear d
  go_wp2_with fail
  have HA := Lib.hid (HK.out.add_as (w := (w4.alloc (.cells #[.int .i64 5, .int .i64 2, .int .i64 0, .int .i64 20, .int .i64 5, .string ⟨#[119, 101, 98]⟩, .string ⟨#[110]⟩, .int .i64 3, .int .i64 1, .int .i64 0, .int .i64 10, .int .i64 5, .string ⟨#[119, 101, 98]⟩, .string ⟨#[110]⟩, .int .i64 5, .int .i64 1, .int .i64 0, .int .i64 10, .int .i64 5, .string ⟨#[119, 101, 98]⟩, .string ⟨#[110]⟩] 45))) (HK.out.below HP4.out ((Below.refl _ _).alloc (Nat.le_refl _) _)) (by simp) (some ⟨w4.heap.size, 0, none⟩) 3 3 l16 rfl (Nat.le_refl _) (by unfold maxLen; omega) (Lies.new w4 #[.int .i64 5, .int .i64 2, .int .i64 0, .int .i64 20, .int .i64 5, .string ⟨#[119, 101, 98]⟩, .string ⟨#[110]⟩, .int .i64 3, .int .i64 1, .int .i64 0, .int .i64 10, .int .i64 5, .string ⟨#[119, 101, 98]⟩, .string ⟨#[110]⟩, .int .i64 5, .int .i64 1, .int .i64 0, .int .i64 10, .int .i64 5, .string ⟨#[119, 101, 98]⟩, .string ⟨#[110]⟩] _) (off_new (HK.out.own HP4.out) (fun ad e => by cases e; exact Nat.le_refl _)) (fine16 _ (by decide +kernel)) c16_a p16_a)
  refine HA.out.mono ?_
  clear HA
  rintro e w5 ⟨rfl, O5, h, k, ho⟩
  have HP5 := Lib.hid h
  have HB5 := Lib.hid (Kept.below (HB4.out.alloc HB4.out.size _) k HO1.out)
  have HO5 := Lib.hid (fun g (hg : g ∈ O5) => show w.heap.size ≤ g from (ho g hg).elim (HO1.out g) (fun h => Nat.le_trans ((HB4.out.alloc HB4.out.size _)).size h))
  clear h k ho
  go_wp2_with fail
  refine (one16_any 7 1 10 _ (by omega) (by omega) (by omega)).mono ?_
  rintro e w6 ⟨rfl, d⟩
  have HP6 := Lib.hid (HK.out.below HP5.out d)
  have HB6 := Lib.hid (HB5.out.trans (d.mono HB5.out.size))
  clear d
  go_wp2_with fail
  refine (one16_any 5 1 10 _ (by omega) (by omega) (by omega)).mono ?_
  rintro e w7 ⟨rfl, d⟩
  have HP7 := Lib.hid (HK.out.below HP6.out d)
  have HB7 := Lib.hid (HB6.out.trans (d.mono HB6.out.size))
  clear d
  go_wp2_with fail
  have HA := Lib.hid (HK.out.add_as (w := (w7.alloc (.cells #[.int .i64 7, .int .i64 1, .int .i64 0, .int .i64 10, .int .i64 5, .string ⟨#[119, 101, 98]⟩, .string ⟨#[110]⟩, .int .i64 5, .int .i64 1, .int .i64 0, .int .i64 10, .int .i64 5, .string ⟨#[119, 101, 98]⟩, .string ⟨#[110]⟩] 45))) (HK.out.below HP7.out ((Below.refl _ _).alloc (Nat.le_refl _) _)) (by simp) (some ⟨w7.heap.size, 0, none⟩) 2 2 [s16 7 1, s16 5 1] rfl (Nat.le_refl _) (by unfold maxLen; omega) (Lies.new w7 #[.int .i64 7, .int .i64 1, .int .i64 0, .int .i64 10, .int .i64 5, .string ⟨#[119, 101, 98]⟩, .string ⟨#[110]⟩, .int .i64 5, .int .i64 1, .int .i64 0, .int .i64 10, .int .i64 5, .string ⟨#[119, 101, 98]⟩, .string ⟨#[110]⟩] _) (off_new (HK.out.own HP7.out) (fun ad e => by cases e; exact Nat.le_refl _)) (fine16 _ (by decide +kernel)) c16_b p16_b)
  refine HA.out.mono ?_
  clear HA
  rintro e w8 ⟨rfl, O8, h, k, ho⟩
  have HP8 := Lib.hid h
  have HB8 := Lib.hid (Kept.below (HB7.out.alloc HB7.out.size _) k HO5.out)
  have HO8 := Lib.hid (fun g (hg : g ∈ O8) => show w.heap.size ≤ g from (ho g hg).elim (HO5.out g) (fun h => Nat.le_trans ((HB7.out.alloc HB7.out.size _)).size h))
  clear h k ho
  go_wp2_with fail
  have HA := Lib.hid (HK.out.add_as (w := (w8.alloc (.cells #[.int .i64 0, .int .i64 0, .int .i64 0, .int .i64 0, .int .i64 0, .string ⟨#[]⟩, .string ⟨#[]⟩] 45))) (HK.out.below HP8.out ((Below.refl _ _).alloc (Nat.le_refl _) _)) (by simp) (some ⟨w8.heap.size, 0, none⟩) 1 1 [Plain.Sp.zero] rfl (Nat.le_refl _) (by unfold maxLen; omega) (Lies.new w8 #[.int .i64 0, .int .i64 0, .int .i64 0, .int .i64 0, .int .i64 0, .string ⟨#[]⟩, .string ⟨#[]⟩] _) (off_new (HK.out.own HP8.out) (fun ad e => by cases e; exact Nat.le_refl _)) (fine16 _ (by decide +kernel)) c16_c p16_c)
  refine HA.out.mono ?_
  clear HA
  rintro e w9 ⟨rfl, O9, h, k, ho⟩
  have HP9 := Lib.hid h
  have HB9 := Lib.hid (Kept.below (HB8.out.alloc HB8.out.size _) k HO8.out)
  have HO9 := Lib.hid (fun g (hg : g ∈ O9) => show w.heap.size ≤ g from (ho g hg).elim (HO8.out g) (fun h => Nat.le_trans ((HB8.out.alloc HB8.out.size _)).size h))
  clear h k ho
  go_wp2_with fail
  refine (HK.out.get_as HP9.out 5 (b := true) (n := 2) (by rw [i16_a]; rfl) g16_a rfl).mono ?_
  rintro e w10 ⟨AG, cG, rfl, hg1, hg2, hgL, hgo, d⟩
  have HP10 := Lib.hid (HK.out.below HP9.out d)
  have HB10 := Lib.hid (HB9.out.trans (d.mono HB9.out.size))
  clear d
  have HG_10 := Lib.hid hgL
  have HF_HG_10 := Lib.hid (show Off O9 AG (flat [s16 5 1, s16 5 2]) from off_new (HK.out.own HP9.out) hgo)
  clear hgL hgo
  go_wp2_with fail
  refine (HK.out.ids_as HP10.out (n := 2) i16_a rfl).mono ?_
  rintro e w11 ⟨AI, cI, rfl, hi1, hi2, hiL, hio, d⟩
  have HP11 := Lib.hid (HK.out.below HP10.out d)
  have HG_11 := Lib.hid (HG_10.out.below d)
  have HB11 := Lib.hid (HB10.out.trans (d.mono HB10.out.size))
  clear d
  have HI_11 := Lib.hid hiL
  have HF_HI_11 := Lib.hid (show Off O9 AI (nums [3, 5]) from off_new (HK.out.own HP10.out) hio)
  clear hiL hio
  go_wp2_with fail
  refine (HK.out.take_as HP11.out (by simp) 3 (b := true) (by rw [i16_a]; rfl) d16_a).mono ?_
  rintro e w12 ⟨rfl, O12, h, k, ho⟩
  have HP12 := Lib.hid h
  have HB12 := Lib.hid (Kept.below HB11.out k HO9.out)
  have HO12 := Lib.hid (fun g (hg : g ∈ O12) => show w.heap.size ≤ g from (ho g hg).elim (HO9.out g) (fun h => Nat.le_trans (HB11.out).size h))
  have HG_12 := Lib.hid (Lies.kept HG_11.out HF_HG_10.out k)
  have HF_HG_12 := Lib.hid (off_own16 HG_11.out HF_HG_10.out ho)
  have HI_12 := Lib.hid (Lies.kept HI_11.out HF_HI_11.out k)
  have HF_HI_12 := Lib.hid (off_own16 HI_11.out HF_HI_11.out ho)
  clear h k ho
  go_wp2_with fail
  refine (HK.out.take_as HP12.out (by simp) 3 (b := false) (by rw [i16_b]; rfl) d16_b).mono ?_
  rintro e w13 ⟨rfl, O13, h, k, ho⟩
  have HP13 := Lib.hid h
  have HB13 := Lib.hid (Kept.below HB12.out k HO12.out)
  have HO13 := Lib.hid (fun g (hg : g ∈ O13) => show w.heap.size ≤ g from (ho g hg).elim (HO12.out g) (fun h => Nat.le_trans (HB12.out).size h))
  have HG_13 := Lib.hid (Lies.kept HG_12.out HF_HG_12.out k)
  have HF_HG_13 := Lib.hid (off_own16 HG_12.out HF_HG_12.out ho)
  have HI_13 := Lib.hid (Lies.kept HI_12.out HF_HI_12.out k)
  have HF_HI_13 := Lib.hid (off_own16 HI_12.out HF_HI_12.out ho)
  clear h k ho
  have HQ := Lib.hid (HK.out.new [] 10 w13 (by simp))
  go_wp2_with fail
  refine HQ.out.mono ?_
  clear HQ
  rintro e w14 ⟨q, Oq, rfl, hq, hoq, d⟩
  have HP14 := Lib.hid (HK.out.below (HK.out.more HP13.out (fun s hs => .inr (hoq s hs))) d)
  have HG_14 := Lib.hid (HG_13.out.below d)
  have HF_HG_14 := Lib.hid (Off.of HG_13.out hoq)
  have HI_14 := Lib.hid (HI_13.out.below d)
  have HF_HI_14 := Lib.hid (Off.of HI_13.out hoq)
  have HB14 := Lib.hid (HB13.out.trans (d.mono HB13.out.size))
  have HO14 := Lib.hid (fun g (hg : g ∈ Oq) => show w.heap.size ≤ g from Nat.le_trans HB13.out.size (hoq g hg))
  have HQ14 := Lib.hid hq
  clear hq hoq d
  go_wp2_with fail
  refine (one16_any 5 2 20 _ (by omega) (by omega) (by omega)).mono ?_
  rintro e w15 ⟨rfl, d⟩
  have HP15 := Lib.hid (HK.out.below HP14.out d)
  have HQ15 := Lib.hid (HK.out.below HQ14.out d)
  have HG_15 := Lib.hid (HG_14.out.below d)
  have HI_15 := Lib.hid (HI_14.out.below d)
  have HB15 := Lib.hid (HB14.out.trans (d.mono HB14.out.size))
  clear d
  go_wp2_with fail
  have HA := Lib.hid (HK.out.add_as (w := (w15.alloc (.cells #[.int .i64 5, .int .i64 2, .int .i64 0, .int .i64 20, .int .i64 5, .string ⟨#[119, 101, 98]⟩, .string ⟨#[110]⟩] 45))) (HK.out.below HQ15.out ((Below.refl _ _).alloc (Nat.le_refl _) _)) (by simp) (some ⟨w15.heap.size, 0, none⟩) 1 1 [s16 5 2] rfl (Nat.le_refl _) (by unfold maxLen; omega) (Lies.new w15 #[.int .i64 5, .int .i64 2, .int .i64 0, .int .i64 20, .int .i64 5, .string ⟨#[119, 101, 98]⟩, .string ⟨#[110]⟩] _) (off_new (HK.out.own HQ15.out) (fun ad e => by cases e; exact Nat.le_refl _)) (fine16 _ (by decide +kernel)) c16_d rfl)
  refine HA.out.mono ?_
  clear HA
  rintro e w16 ⟨rfl, O16, h, k, ho⟩
  have HB16 := Lib.hid (Kept.below (HB15.out.alloc HB15.out.size _) k HO14.out)
  have HP16 := Lib.hid (HK.out.beside (HK.out.below HP15.out ((Below.refl _ _).alloc (Nat.le_refl _) _)) k ho)
  have HG_16 := Lib.hid (Lies.kept (HG_15.out.below ((Below.refl _ _).alloc (Nat.le_refl _) _)) HF_HG_14.out k)
  have HI_16 := Lib.hid (Lies.kept (HI_15.out.below ((Below.refl _ _).alloc (Nat.le_refl _) _)) HF_HI_14.out k)
  clear h k ho
  go_wp2_with fail
  refine (one16_any 5 1 10 _ (by omega) (by omega) (by omega)).mono ?_
  rintro e w17 ⟨rfl, d⟩
  have HP17 := Lib.hid (HK.out.below HP16.out d)
  have HG_17 := Lib.hid (HG_16.out.below d)
  have HI_17 := Lib.hid (HI_16.out.below d)
  have HB17 := Lib.hid (HB16.out.trans (d.mono HB16.out.size))
  clear d
  go_wp2_with fail
  refine (one16_any 5 2 20 _ (by omega) (by omega) (by omega)).mono ?_
  rintro e w18 ⟨rfl, d⟩
  have HP18 := Lib.hid (HK.out.below HP17.out d)
  have HG_18 := Lib.hid (HG_17.out.below d)
  have HI_18 := Lib.hid (HI_17.out.below d)
  have HB18 := Lib.hid (HB17.out.trans (d.mono HB17.out.size))
  clear d
  go_wp2_with fail
  refine (same_is16 AG (some ⟨w18.heap.size, 0, none⟩) 2 cG 2 [s16 5 1, s16 5 2] _ rfl hg1 (Nat.le_refl _) hg2 (by unfold maxLen; omega) (HG_18.out.below ((Below.refl _ _).alloc (Nat.le_refl _) _)) (Lies.new w18 #[.int .i64 5, .int .i64 1, .int .i64 0, .int .i64 10, .int .i64 5, .string ⟨#[119, 101, 98]⟩, .string ⟨#[110]⟩, .int .i64 5, .int .i64 2, .int .i64 0, .int .i64 20, .int .i64 5, .string ⟨#[119, 101, 98]⟩, .string ⟨#[110]⟩] _)).mono ?_
  rintro e w19 ⟨rfl, d⟩
  have d := Below.trans (show Below w18.heap.size w18 (w18.alloc (.cells #[.int .i64 5, .int .i64 1, .int .i64 0, .int .i64 10, .int .i64 5, .string ⟨#[119, 101, 98]⟩, .string ⟨#[110]⟩, .int .i64 5, .int .i64 2, .int .i64 0, .int .i64 20, .int .i64 5, .string ⟨#[119, 101, 98]⟩, .string ⟨#[110]⟩] 45)) from ((Below.refl _ _).alloc (Nat.le_refl _) _)) (d.mono (by simp))
  have HP19 := Lib.hid (HK.out.below HP18.out d)
  have HG_19 := Lib.hid (HG_18.out.below d)
  have HI_19 := Lib.hid (HI_18.out.below d)
  have HB19 := Lib.hid (HB18.out.trans (d.mono HB18.out.size))
  clear d
  go_wp2_with fail
  refine (sameIds_is16 AI (some ⟨w19.heap.size, 0, none⟩) 2 cI 2 [3, 5] _ rfl hi1 (Nat.le_refl _) hi2 (by unfold maxLen; omega) (HI_19.out.below ((Below.refl _ _).alloc (Nat.le_refl _) _)) (Lies.new w19 #[.int .i64 3, .int .i64 5] _)).mono ?_
  rintro e w20 ⟨rfl, d⟩
  have d := Below.trans (show Below w19.heap.size w19 (w19.alloc (.cells #[.int .i64 3, .int .i64 5] 2)) from ((Below.refl _ _).alloc (Nat.le_refl _) _)) (d.mono (by simp))
  have HP20 := Lib.hid (HK.out.below HP19.out d)
  have HG_20 := Lib.hid (HG_19.out.below d)
  have HI_20 := Lib.hid (HI_19.out.below d)
  have HB20 := Lib.hid (HB19.out.trans (d.mono HB19.out.size))
  clear d
  go_wp2_with fail
  refine (HK.out.many_as HP20.out (n := 1) (by rw [i16_b]; rfl)).mono ?_
  rintro e w21 ⟨rfl, d⟩
  have HB21 := Lib.hid (HB20.out.trans (d.mono HB20.out.size))
  clear d
  go_wp2
  go_ret
  exact ⟨rfl, HB21.out⟩
end Go.Proofs.Ythcchfhkeghkhaa

