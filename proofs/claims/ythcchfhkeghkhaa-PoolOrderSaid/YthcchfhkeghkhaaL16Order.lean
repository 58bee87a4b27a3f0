/-
  PoolOrder (turntablelaw16): holds for every input. No condition but that the inputs are a Go slice of spans and a uint8.
-/
import Derived.Test.YthcchfhkeghkhaaLwP
import Derived.BigRegion
import Derived.BigQuiet
import Derived.Deep.CutRange
import Derived.Test.YthcchfhkeghkhaaPoZ

namespace Go.Proofs.Ythcchfhkeghkhaa.poolOrder
open Go.RowKit Go.Maps Po
set_option maxRecDepth 100000

/-! which may be gathered together -/
def Unlike (a b : Plain.Sp) : Prop := ¬ (a.t = b.t ∧ a.i = b.i)
theorem unlike_symm {a b : Plain.Sp} (h : Unlike a b) : Unlike b a := fun e => h ⟨e.1.symm, e.2.symm⟩
def Good (l : List Plain.Sp) : Prop := (∀ x ∈ l, x.right = true) ∧ l.Pairwise Unlike
theorem good_perm {l m : List Plain.Sp} (h : l.Perm m) (hl : Good l) : Good m := ⟨fun x hx => hl.1 x (h.mem_iff.2 hx), (h.pairwise_iff unlike_symm).1 hl.2⟩
theorem code_good {G : List Plain.Sp} {s : Plain.Sp} (hl : G.length < 60) : code 1048576 G s = 0 ↔ s.right = true ∧ ∀ x ∈ G, Unlike x s := by
  rw [code_zero]
  refine ⟨fun h => ⟨h.1, h.2.1⟩, fun h => ⟨h.1, h.2, ?_, fun _ => ?_, Int.le_trans (cost_le16 _) (by omega)⟩⟩
  · have : (Po.of G s.t).length ≤ G.length := List.length_filter_le ..
    omega
  · have := ids_len G; omega
theorem codes_good : ∀ {l G : List Plain.Sp}, Good G → (G ++ l).length ≤ 60 → (codes 1048576 G l = 0 ↔ Good (G ++ l))
  | [], G, hG, _ => ⟨fun _ => by rwa [List.append_nil], fun _ => rfl⟩
  | s :: l, G, hG, hl => by
    have hl' : G.length < 60 := by rw [List.length_append, List.length_cons] at hl; omega
    show (if code 1048576 G s = 0 then codes 1048576 (G ++ [s]) l else code 1048576 G s) = 0 ↔ _
    by_cases hc : code 1048576 G s = 0
    · rw [if_pos hc]
      obtain ⟨h1, h2⟩ := (code_good hl').1 hc
      have hG2 : Good (G ++ [s]) := ⟨fun x hx => by
        rcases List.mem_append.1 hx with hx | hx
        · exact hG.1 x hx
        · rw [List.mem_singleton.1 hx]; exact h1, List.pairwise_append.2 ⟨hG.2, List.pairwise_singleton .., fun a ha b hb => by rw [List.mem_singleton.1 hb]; exact h2 a ha⟩⟩
      have := codes_good (l := l) hG2 (by rw [List.append_assoc]; exact hl)
      rw [this, List.append_assoc]; rfl
    · rw [if_neg hc]
      refine ⟨fun h => absurd h hc, fun h => absurd ((code_good hl').2 ⟨h.1 s (by simp), fun x hx => ?_⟩) hc⟩
      exact (List.pairwise_append.1 h.2).2.2 x hx s (by simp)
theorem codes_prefix {most : Int} {a b G : List Plain.Sp} (h : codes most G (a ++ b) = 0) : codes most G a = 0 := by
  induction a generalizing G with
  | nil => rfl
  | cons s a ih =>
    have h' : (if code most G s = 0 then codes most (G ++ [s]) (a ++ b) else code most G s) = 0 := h
    show (if code most G s = 0 then codes most (G ++ [s]) a else code most G s) = 0
    by_cases hc : code most G s = 0
    · rw [if_pos hc] at h' ⊢; exact ih h'
    · rw [if_neg hc] at h'; exact absurd h' hc

/-! one by one -/
def pick (l : List Plain.Sp) (t j : Nat) : Plain.Sp := l.getD ((l.length - 1 - j + t) % l.length) Plain.Sp.zero
def picks (l : List Plain.Sp) (t k : Nat) : List Plain.Sp := (List.range k).map (pick l t)
theorem picks_succ (l : List Plain.Sp) (t k : Nat) : picks l t (k + 1) = picks l t k ++ [pick l t k] := by unfold picks; rw [List.range_succ, List.map_append]; rfl
theorem picks_len (l : List Plain.Sp) (t k : Nat) : (picks l t k).length = k := by simp [picks]
theorem picks_perm (l : List Plain.Sp) (t : Nat) : (picks l t l.length).Perm l := by
  rcases Nat.eq_zero_or_pos l.length with h0 | h0
  · rw [List.eq_nil_of_length_eq_zero h0]; simp [picks]
  · obtain ⟨n, hn⟩ : ∃ n, l.length = n := ⟨_, rfl⟩
    obtain ⟨r, hr⟩ : ∃ r, t % n = r := ⟨_, rfl⟩
    have hrn : r < n := by rw [← hr]; exact Nat.mod_lt _ (by omega)
    have hidx : ∀ j, j < n → (n - 1 - j + t) % n = if j < r then r - 1 - j else r + (n - 1 - j) := fun j hj => by
      have e : n - 1 - j + t = (n - 1 - j + r) + n * (t / n) := by have := Nat.div_add_mod t n; omega
      rw [e, Nat.add_mul_mod_self_left]
      split
      · rw [show n - 1 - j + r = (r - 1 - j) + n by omega, Nat.add_mod_right, Nat.mod_eq_of_lt (by omega)]
      · rw [Nat.mod_eq_of_lt (by omega)]; omega
    have key : picks l t n = (l.take r).reverse ++ (l.drop r).reverse := by
      refine List.ext_getElem (by rw [picks_len, List.length_append, List.length_reverse, List.length_reverse, List.length_take, List.length_drop]; omega) fun j h1 h2 => ?_
      rw [picks_len] at h1
      have hp : (picks l t n)[j]'(by rw [picks_len]; exact h1) = pick l t j := by simp [picks]
      rw [hp, List.getElem_append]
      unfold pick
      rw [hn, hidx j h1]
      have hlt : (l.take r).reverse.length = r := by rw [List.length_reverse, List.length_take]; omega
      by_cases hj : j < r
      · rw [if_pos hj, dif_pos (by rw [hlt]; exact hj), List.getElem_reverse, List.getElem_take]
        simp only [List.length_take, hn, Nat.min_eq_left (Nat.le_of_lt hrn)]
        rw [List.getD_eq_getElem?_getD, List.getElem?_eq_getElem (by omega)]; rfl
      · rw [if_neg hj, dif_neg (by rw [hlt]; exact hj), List.getElem_reverse, List.getElem_drop]
        simp only [List.length_drop, hn, hlt]
        rw [List.getD_eq_getElem?_getD, List.getElem?_eq_getElem (by omega)]
        simp only [Option.getD_some]
        congr 1
        omega
    rw [hn, key]
    exact ((List.reverse_perm _).append (List.reverse_perm _)).trans (by rw [List.take_append_drop])
theorem part_other_order {most : Int} {G H : List Plain.Sp} (h : Ok most G) (hp : G.Perm H) {i : Int} (hi : i ∈ Po.ids G) : Po.part H i = Po.part G i :=
  part_eq (part_isT h hi) ((part_perm G i).trans (hp.filter _))

set_option maxHeartbeats 8000000 in
theorem walkN {IsP : List Nat → World → Nat → List Nat → Int → List Plain.Sp → Prop} (hOk : PoolOk IsP) (w : World) (A : Option Addr) (n cap : Nat) (l : List Plain.Sp) (hn : l.length = n) (hc : n ≤ cap) (hm : cap ≤ maxLen) (hA : Lies w A (flat l)) (hF : Fine l) (tu : Int) (htu : 0 ≤ tu ∧ tu ≤ 255) :
    Calls Try.prog 6 #[.slice A n cap, .int .u8 tu] w fun e w' => e = .returned (.bool true) ∧ Below w.heap.size w w' := by
  obtain ⟨T, rfl⟩ := Int.eq_ofNat_of_zero_le htu.1
  have hT : T ≤ 255 := by omega
  have HK := Lib.hid hOk
  have HH := Lib.hid (head16_any hOk w)
  have HN := Lib.hid hn
  have HM := Lib.hid hm
  have HA := Lib.hid hA
  have HF := Lib.hid hF
  unfold maxLen at hm
  clear hOk hn hA hF htu
  go_enter Try.func6, Try.ntmps6
  go_wp2_with fail
  refine HH.out.mono ?_
  rintro e w1 ⟨rfl, d1⟩
  have HB1 := Lib.hid d1
  clear d1 HH
  go_wp2_with fail
  refine (great_any A n cap l w1 HN.out hc HM.out (HA.out.below HB1.out)).mono ?_
  rintro e w3 ⟨g, rfl, hg, d3⟩
  have HB3 := Lib.hid (HB1.out.trans (d3.mono HB1.out.size))
  clear d3 HB1
  rcases g with _ | _
  rotate_left
  · go_wp2
    go_ret
    exact ⟨rfl, HB3.out⟩
  · have h300 := hg rfl
    clear hg
    by_cases h0 : n = 0
    · have t0 : ((n : Int) == 0) = true := by rw [beq_iff_eq]; omega
      go_wp2
      go_ret
      exact ⟨rfl, HB3.out⟩
    · have t0 : ((n : Int) == 0) = false := by rw [beq_eq_false_iff_ne]; omega
      by_cases h60 : 60 < n
      · have t6 : decide ((60 : Int) < (n : Int)) = true := decide_eq_true (by omega)
        go_wp2
        go_ret
        exact ⟨rfl, HB3.out⟩
      · have t6 : decide ((60 : Int) < (n : Int)) = false := decide_eq_false (by omega)
        go_wp2_with fail
        refine (HK.out.new [] 1048576 w3 (by simp)).mono ?_
        rintro e w4 ⟨p, O, rfl, h4, ho4, d4⟩
        have HP4 := Lib.hid h4
        have HO4 := Lib.hid (fun g (hg : g ∈ O) => show w.heap.size ≤ g from Nat.le_trans HB3.out.size (ho4 g hg))
        have HB4 := Lib.hid (HB3.out.trans (d4.mono HB3.out.size))
        clear h4 ho4 d4 HB3
        go_wp2_with fail
        refine (HK.out.new O 1048576 w4 (HK.out.own HP4.out)).mono ?_
        rintro e w5 ⟨q, Q, rfl, h5, ho5, d5⟩
        have HP5 := Lib.hid (HK.out.below (HK.out.more HP4.out (S := Q) (fun s hs => .inr (ho5 s hs))) d5)
        have HQ5 := Lib.hid h5
        have HR5 := Lib.hid (fun g (hg : g ∈ Q) => show w.heap.size ≤ g from Nat.le_trans HB4.out.size (ho5 g hg))
        have HB5 := Lib.hid (HB4.out.trans (d5.mono HB4.out.size))
        clear h5 ho5 d5 HB4 HP4
        obtain ⟨c, hcc⟩ : ∃ c, codes 1048576 [] l = c := ⟨_, rfl⟩
        have HCC := Lib.hid hcc
        have HAD := Lib.hid (HK.out.add_as HP5.out (HK.out.own HQ5.out) A n cap l HN.out hc HM.out (HA.out.below HB5.out) (Off.of HA.out HO4.out) HF.out hcc rfl)
        clear hcc
        go_wp2_with fail
        refine HAD.out.mono ?_
        rintro e w6 ⟨rfl, O6, h6, k6, o6⟩
        have HP6 := Lib.hid h6
        have HQ6 := Lib.hid (HK.out.beside HQ5.out k6 o6)
        have HB6 := Lib.hid (Kept.below HB5.out k6 HO4.out)
        have HO6 := Lib.hid (fun g (hg : g ∈ O6) => show w.heap.size ≤ g from (o6 g hg).elim (HO4.out g) (fun h => Nat.le_trans HB5.out.size h))
        clear h6 k6 o6 HAD HO4 HP5 HQ5 HB5
        go_wp2
        go_loopw [9, 10] (fun s9 s10 wr => ∃ (k : Nat) (Q' : List Nat) (H : List Plain.Sp), s10 = .int .i64 (k : Int) ∧ k ≤ n ∧ s9 = .bool (decide (codes 1048576 [] (picks l T k) = 0)) ∧ IsP Q' wr p O6 1048576 (put 1048576 [] l) ∧ IsP O6 wr q Q' 1048576 H ∧ (codes 1048576 [] (picks l T k) = 0 → H = picks l T k) ∧ (∀ g ∈ Q', w.heap.size ≤ g) ∧ Below w.heap.size w wr) (fun _ i _ => n - (intOf i).toNat)
        case atStart => exact ⟨0, Q, [], rfl, Nat.zero_le _, rfl, HP6.out, HQ6.out, fun _ => rfl, HR5.out, HB6.out⟩
        case round =>
          obtain ⟨k, Q', H, rfl, hk, rfl, hP, hQ, hH, hR, hbr⟩ := hrel
          have HP := Lib.hid hP
          have HQ := Lib.hid hQ
          have HHH := Lib.hid hH
          have HR := Lib.hid hR
          have HBR := Lib.hid hbr
          clear hP hQ hH hR hbr
          obtain ⟨fi, hfi⟩ : ∃ fi, decide (codes 1048576 [] (picks l T k) = 0) = fi := ⟨_, rfl⟩
          rw [hfi]
          have HFI := Lib.hid hfi
          clear hfi
          by_cases hlt : k < n
          · obtain ⟨d, hd⟩ : ∃ d, (n - 1 - k + T) % n = d := ⟨_, rfl⟩
            have hdn : d < n := by rw [← hd]; exact Nat.mod_lt _ (by omega)
            obtain ⟨ad, hAe, hadb, hcl⟩ := at_span HA.out d (by rw [HN.out]; exact hdn)
            obtain ⟨x0, x1, x2, x3, x4, x5, x6⟩ := hcl wr HBR.out
            have hdi : ((n : Int) - 1 - (k : Int) + (T : Int)) % (n : Int) = (d : Int) := by
              rw [show ((n : Int) - 1 - (k : Int) + (T : Int)) = ((n - 1 - k + T : Nat) : Int) by omega, ← Int.natCast_emod, hd]
            have HPK := Lib.hid (show pick l T k = l[d]'(by rw [HN.out]; exact hdn) by
              have e : (l.length - 1 - k + T) % l.length = d := by rw [HN.out]; exact hd
              unfold pick
              rw [e, List.getD_eq_getElem?_getD, List.getElem?_eq_getElem (by rw [HN.out]; exact hdn)]; rfl)
            have HFX := Lib.hid (show Fine [l[d]'(by rw [HN.out]; exact hdn)] from fun y hy => by rw [List.mem_singleton.1 hy]; exact HF.out _ (List.getElem_mem _))
            obtain ⟨x, hx⟩ : ∃ x, l[d]'(by rw [HN.out]; exact hdn) = x := ⟨_, rfl⟩
            rw [hx] at x0 x1 x2 x3 x4 x5 x6 HPK HFX
            clear hcl hx hd
            subst hAe
            obtain ⟨cv, hcv⟩ : ∃ cv, codes 1048576 H [x] = cv := ⟨_, rfl⟩
            have HA1 := Lib.hid (addRowK16 HK.out HQ.out (HK.out.own HP.out) x HFX.out wr.heap.size rfl hcv rfl)
            have HCV := Lib.hid hcv
            clear hcv
            have HST := Lib.hid (show fi = true → codes 1048576 [] (picks l T (k + 1)) = cv from fun h => by
              have h2 := of_decide_eq_true (HFI.out.trans h)
              rw [picks_succ, codes_app _ h2, HPK.out, List.nil_append, ← HHH.out h2, HCV.out])
            have HSP := Lib.hid (show codes 1048576 [] (picks l T (k + 1)) = 0 → fi = true from fun h => by
              rw [picks_succ] at h
              rw [← HFI.out]; exact decide_eq_true (codes_prefix h))
            by_cases hz : cv = 0
            · have t2 : (cv == 0) = true := by simpa using hz
              have HZ := Lib.hid hz
              clear hz
              go_wp2_with fail
              refine HA1.out.mono ?_
              rintro e w7 ⟨rfl, Q7, h7, k7, o7⟩
              have HQ7 := Lib.hid h7
              have HP7 := Lib.hid (HK.out.beside HP.out k7 o7)
              have HB7 := Lib.hid (Kept.below HBR.out k7 HR.out)
              have HR7 := Lib.hid (fun g (hg : g ∈ Q7) => show w.heap.size ≤ g from (o7 g hg).elim (HR.out g) (fun h => Nat.le_trans HBR.out.size h))
              clear h7 k7 o7 HA1 x0 x1 x2 x3 x4 x5 x6
              go_wp2
              go_roundw
              case rel =>
                refine ⟨k + 1, Q7, put 1048576 H [x], by go_num, by omega, ?_, HP7.out, HQ7.out, fun h => ?_, HR7.out, HB7.out⟩
                · congr 1
                  rw [Bool.eq_iff_iff, decide_eq_true_eq]
                  exact ⟨fun h => (HST.out h).trans HZ.out, HSP.out⟩
                · have h2 := of_decide_eq_true (HFI.out.trans (HSP.out h))
                  unfold put
                  rw [HCV.out, if_pos HZ.out, HHH.out h2, picks_succ, HPK.out]
              case measure => simp [intOf]; omega
            · have t2 : (cv == 0) = false := by simpa using hz
              have HZ := Lib.hid hz
              clear hz
              go_wp2_with fail
              refine HA1.out.mono ?_
              rintro e w7 ⟨rfl, Q7, h7, k7, o7⟩
              have HQ7 := Lib.hid h7
              have HP7 := Lib.hid (HK.out.beside HP.out k7 o7)
              have HB7 := Lib.hid (Kept.below HBR.out k7 HR.out)
              have HR7 := Lib.hid (fun g (hg : g ∈ Q7) => show w.heap.size ≤ g from (o7 g hg).elim (HR.out g) (fun h => Nat.le_trans HBR.out.size h))
              clear h7 k7 o7 HA1 x0 x1 x2 x3 x4 x5 x6
              have HNO := Lib.hid (show ¬ codes 1048576 [] (picks l T (k + 1)) = 0 from fun h => HZ.out ((HST.out (HSP.out h)).symm.trans h))
              go_wp2
              go_roundw
              case rel =>
                refine ⟨k + 1, Q7, put 1048576 H [x], by go_num, by omega, ?_, HP7.out, HQ7.out, fun h => absurd h HNO.out, HR7.out, HB7.out⟩
                rw [decide_eq_false HNO.out]
              case measure => simp [intOf]; omega
          · obtain rfl : k = n := by omega
            have hne : l ≠ [] := by intro e; have := HN.out; rw [e] at this; simp at this; omega
            have HPM := Lib.hid (show (picks l T k).Perm l by have := picks_perm l T; rwa [HN.out] at this)
            have HCG := Lib.hid (show codes 1048576 [] (picks l T k) = 0 ↔ c = 0 by
              have hg0 : Good [] := ⟨fun _ h => (by cases h), List.Pairwise.nil⟩
              rw [← HCC.out, codes_good hg0 (by rw [List.nil_append, picks_len]; omega), codes_good hg0 (by rw [List.nil_append, HN.out]; omega), List.nil_append, List.nil_append]
              exact ⟨good_perm HPM.out, good_perm HPM.out.symm⟩)
            clear hne
            by_cases hz : c = 0
            · subst hz
              obtain rfl : fi = true := by rw [← HFI.out]; exact decide_eq_true (HCG.out.2 rfl)
              have hput : put 1048576 [] l = l := by unfold put; rw [if_pos HCC.out]; rfl
              rw [hput] at HP
              have hHe := HHH.out (HCG.out.2 rfl)
              rw [hHe] at HQ
              clear hHe hput HHH HFI HCG HCC
              have HOK := Lib.hid (HK.out.ok HP.out)
              obtain ⟨m, hm2⟩ : ∃ m, (Po.ids l).length = m := ⟨_, rfl⟩
              have HMM := Lib.hid hm2
              have HM64 := Lib.hid (show m ≤ 64 by rw [← hm2]; exact HOK.out.many)
              clear hm2
              go_wp2_with fail
              refine (HK.out.ids_as HP.out rfl HMM.out).mono ?_
              rintro e w7 ⟨AI, cI, rfl, hi1, hi2, hiL, hio, d7⟩
              have HP7 := Lib.hid (HK.out.below HP.out d7)
              have HQ7 := Lib.hid (HK.out.below HQ.out d7)
              have HI7 := Lib.hid hiL
              have HB7 := Lib.hid (HBR.out.trans (d7.mono HBR.out.size))
              clear d7 hiL hio HP HQ HBR
              go_wp2_with fail
              refine (HK.out.ids_as HQ7.out (ids_perm HPM.out) HMM.out).mono ?_
              rintro e w8 ⟨AJ, cJ, rfl, hj1, hj2, hjL, hjo, d8⟩
              have HP8 := Lib.hid (HK.out.below HP7.out d8)
              have HQ8 := Lib.hid (HK.out.below HQ7.out d8)
              have HI8 := Lib.hid (HI7.out.below d8)
              have HJ8 := Lib.hid hjL
              have HB8 := Lib.hid (HB7.out.trans (d8.mono HB7.out.size))
              clear d8 hjL hjo HP7 HQ7 HI7 HB7
              go_wp2_with fail
              refine (sameIds_is16 AI AJ m cI cJ (Po.ids l) w8 HMM.out hi1 hj1 hi2 hj2 HI8.out HJ8.out).mono ?_
              rintro e w9 ⟨rfl, d9⟩
              have HP9 := Lib.hid (HK.out.below HP8.out d9)
              have HQ9 := Lib.hid (HK.out.below HQ8.out d9)
              have HI9 := Lib.hid (HI8.out.below d9)
              have HB9 := Lib.hid (HB8.out.trans (d9.mono HB8.out.size))
              clear d9 HP8 HQ8 HI8 HJ8 HB8
              go_wp2
              have hm64 := HM64.out
              unfold maxLen at hi2
              go_loopw [12] (fun s12 wr => ∃ j : Nat, s12 = .int .i64 (j : Int) ∧ j ≤ m ∧ Below w9.heap.size w9 wr) (fun i _ => m - (intOf i).toNat)
              case atStart => exact ⟨0, rfl, Nat.zero_le _, Below.refl _ _⟩
              case round =>
                obtain ⟨j, rfl, hj, hb9⟩ := hrel
                have HW := Lib.hid hb9
                clear hb9
                by_cases hjm : j < m
                · have hji : j < (Po.ids l).length := by rw [HMM.out]; exact hjm
                  obtain ⟨ai, rfl, haib, hci⟩ := at_num HI9.out j hji
                  obtain ⟨i, hi⟩ : ∃ i, (Po.ids l)[j]'hji = i := ⟨_, rfl⟩
                  simp only [hi] at hci
                  have z0 := hci wr HW.out
                  have HII := Lib.hid (show i ∈ Po.ids l by rw [← hi]; exact List.getElem_mem hji)
                  obtain ⟨s, hs⟩ : ∃ s, (Po.part l i).length = s := ⟨_, rfl⟩
                  have HS := Lib.hid hs
                  have HPWR := Lib.hid (HK.out.below HP9.out HW.out)
                  have HQWR := Lib.hid (HK.out.below HQ9.out HW.out)
                  have HZZ := Lib.hid (fun (W : World) (hW : Below w9.heap.size w9 W) => hci W hW)
                  clear hci hi hs hji
                  go_wp2_with fail
                  refine (HK.out.get_as HPWR.out i (decide_eq_true HII.out) rfl HS.out).mono ?_
                  rintro e wa ⟨AX, cX, rfl, hx1, hx2, hxL, -, da⟩
                  have HQa := Lib.hid (HK.out.below HQWR.out da)
                  have HXa := Lib.hid hxL
                  have HWa := Lib.hid (HW.out.trans (da.mono HW.out.size))
                  have z1 := HZZ.out wa HWa.out
                  clear da hxL HPWR HQWR z0
                  go_wp2_with fail
                  refine (HK.out.get_as HQa.out i (decide_eq_true (by rw [ids_perm HPM.out]; exact HII.out)) (part_other_order HOK.out HPM.out.symm HII.out) HS.out).mono ?_
                  rintro e wb ⟨AY, cY, rfl, hy1, hy2, hyL, -, db⟩
                  have HXb := Lib.hid (HXa.out.below db)
                  have HYb := Lib.hid hyL
                  have HWb := Lib.hid (HWa.out.trans (db.mono HWa.out.size))
                  clear db hyL HQa HXa HWa z1
                  go_wp2_with fail
                  refine (same_is16 AX AY s cX cY (Po.part l i) wb HS.out hx1 hy1 hx2 hy2 HXb.out HYb.out).mono ?_
                  rintro e wc ⟨rfl, dc⟩
                  have HWc := Lib.hid (HWb.out.trans (dc.mono HWb.out.size))
                  clear dc HXb HYb HWb
                  go_wp2
                  go_roundw
                  case rel => exact ⟨j + 1, by go_num, by omega, HWc.out⟩
                  case measure => simp [intOf]; omega
                · obtain rfl : j = m := by omega
                  have HE := Lib.hid (HB9.out.trans (HW.out.mono HB9.out.size))
                  go_wp2
                  go_ret
                  exact ⟨rfl, HE.out⟩
            · obtain rfl : fi = false := by rw [← HFI.out]; exact decide_eq_false (fun h => hz (HCG.out.1 h))
              have t2 : (c == 0) = false := by simpa using hz
              have hput : put 1048576 [] l = [] := by unfold put; rw [if_neg (by rw [HCC.out]; exact hz)]
              rw [hput] at HP
              clear hput HHH HFI HCG HCC hz
              go_wp2_with fail
              refine (HK.out.many_as HP.out (n := 0) rfl).mono ?_
              rintro e w7 ⟨rfl, d7⟩
              have HB7 := Lib.hid (HBR.out.trans (d7.mono HBR.out.size))
              clear d7
              go_wp2
              go_ret
              exact ⟨rfl, HB7.out⟩

open Go.ChangeShapes Go.WideShapes Go.ChangeAt

theorem walk (w : World) (A : Option Addr) (cap : Nat) (l : List Plain.Sp) (hl : l.length ≤ cap) (hm : cap ≤ maxLen) (hA : Lies w A (flat l)) (hQ : Fine l) (t : Int) (ht : 0 ≤ t ∧ t ≤ 255) :
    Calls Try.prog 6 #[.slice A l.length cap, .int .u8 t] w fun e w' => e = .returned (.bool true) ∧ Below w.heap.size w w' :=
  walkN poolOk w A l.length cap l rfl hl hm hA hQ t ht

set_option maxRecDepth 100000 in
theorem lifted (os : Os) (started : os.Started) (H : Type) (enc : TypeId × Value → H) :
    ReturnsInHanded {} Try.checked os 6 .any (Rows.poolOrderSpec.pre6 enc Try.prog Try.f6 Rows.poolOrderRow.domain false) (Rows.poolOrderSpec.post enc Try.prog Try.f6 false true false false) := by
  refine returnsInHanded_of_change (C := Try.checked) own started (by kernel_rfl) Try.func6
    (ChangeSpec.witness6 (enc := enc) (C := Try.checked) false ⟨#[], #[.slice none 0 0, .int .u8 0], []⟩ 8 (by kernel_rfl) (by kernel_rfl) (by kernel_rfl) (by kernel_rfl)) ?_
  intro W base args ds gs before hval0 hW hcnd _
  have hval : ∀ (j : Nat) t v, Try.f6.params[j]? = some t → args[j]? = some v → Value.okWide Try.prog W .any base t v := hval0
  have hfin := fun W' => law_post (enc := enc) (P := Try.prog) (f := Try.f6) (s := Rows.poolOrderSpec) (tb := 4) (W := W) (W' := W') (args := args) (ds := ds) (gs := gs) (before := before) laidOut rfl (by kernel_rfl) Try.underlying4 (by kernel_rfl) (fun xs h => by rw [Try.params6] at h; match xs, h with | [_, _], _ => rfl) hW
  have hlt : ∀ x ∈ before, x.block < W.heap.size := fun x hx => hW.lt x hx
  obtain ⟨p, q, hA0, hV, rfl, hfz, hnd⟩ := hW
  have hA : DataW.TrodAll enc Try.prog W 0 (fun _ => true) true Try.f6.params.toList args.toList ds p := hA0
  rw [Try.params6] at hA hval
  obtain ⟨v0, vs0, d0, ds0, p0, q0, hargs, rfl, rfl, h0, r0⟩ := trodAll_cons hA
  obtain ⟨v1, vs1, d1, ds1, p1, q1, rfl, rfl, rfl, h1, r1⟩ := trodAll_cons r0
  obtain ⟨rfl, rfl, rfl⟩ := trodAll_nil r1
  obtain rfl : args = #[v0, v1] := by cases args; simp_all
  obtain ⟨A0, cap0, l0, rfl, hl0, hm0, hB0, hS0⟩ := open_spans (hval 0 29 v0 rfl rfl) h0 (fun x hx => hlt x (by simp [hx]))
  obtain ⟨a1, rfl, rfl, rfl, w1⟩ := open_int Try.underlying5 (hval 1 5 v1 rfl rfl) h1
  refine (walk W A0 cap0 l0 hl0 hm0 hB0 hS0 a1 (bounds_u8 w1)).mono fun e W' ⟨he, hg⟩ => ?_
  subst he
  exact ⟨_, rfl, hfin W' hg⟩

theorem proved : Rows.PoolOrderSaid :=
  OpenClaim.holds_of_wide 6 Try.f6 rfl rfl rfl rfl rfl rfl rfl ⟨rfl, rfl, rfl, rfl, rfl⟩ rfl rfl rfl rfl rfl (by kernel_rfl) Try.func6 (by kernel_rfl)
    (of_decide_eq_true (by kernel_rfl)) (by unfold Func.isWrapper; first | (rw [if_pos (by decide +kernel)]; kernel_rfl) | (rw [if_neg (by decide +kernel)]; exact ⟨rfl, rfl⟩))
    (fun os started H enc _ => lifted os started H enc)
#print axioms proved
end Go.Proofs.Ythcchfhkeghkhaa.poolOrder
