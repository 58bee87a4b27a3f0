/-
  P9.3, TableAll: for all tables the law returns true: each extent is used, or free, and told once; used ones in order; the last one has the greatest number. No condition but that the program's table starts as its text lays it.
-/
import Derived.Test.YtbjaieopjkbijaaDoorL9S
import Derived.Test.YtbjaieopjkbijaaDoorLaid2
import Derived.BigRegion
import Derived.BigQuiet
namespace Go.Proofs.YtbjaieopjkbijaaDoor.tableAll
open Go.ChangeShapes Go.WideShapes Go.ChangeAt Go.RowKit

/-- how often each place was told -/
def tally (l : List Nat) : List Nat := (List.range 8).map fun k => l.count k
theorem tally_length (l : List Nat) : (tally l).length = 8 := by simp [tally]
theorem tally_snoc (l : List Nat) (k : Nat) : (tally l).set k (l.count k + 1) = tally (l ++ [k]) := by
  unfold tally
  apply List.ext_getElem
  · simp
  · intro j h1 h2
    rw [List.getElem_set]
    simp only [List.getElem_map, List.getElem_range, List.count_append, List.count_singleton]
    by_cases h : k = j
    · subst h; simp
    · rw [if_neg h]; simp [h]
theorem nums_set (l : List Nat) (k v : Nat) : (nums l).set k (.int .i64 (v : Int)) = nums (l.set k v) := by
  unfold nums; rw [List.map_set]
theorem count_all {xs : List Tb.Ext} (k : Nat) (hk : k < xs.length) : (Tb.ord xs ++ Tb.free xs).count k = 1 := by
  rw [List.count_append]
  by_cases h : Tb.qAt xs k = 0
  · have h1 : (Tb.ord xs).count k = 0 := List.count_eq_zero.2 fun hm => (Tb.mem_ord.1 hm).2 h
    have h2 : (Tb.free xs).count k = 1 := by
      have := (Tb.free_nodup xs).count (a := k)
      rw [this, if_pos (Tb.mem_free.2 ⟨hk, h⟩)]
    omega
  · have h1 : (Tb.free xs).count k = 0 := List.count_eq_zero.2 fun hm => h (Tb.mem_free.1 hm).2
    have h2 : (Tb.ord xs).count k = 1 := by
      have := (Tb.ord_nodup xs).count (a := k)
      rw [this, if_pos (Tb.mem_ord.2 ⟨hk, h⟩)]
    omega

theorem told_set {wr : World} {tb : Nat} {cs : List Value} {t : TypeId} (h : Blk wr tb cs.toArray t) (m k : Nat) (v : Value) : Blk ((wr.drewN m).setCell ⟨tb, k, none⟩ v) tb (cs.set k v).toArray t := by
  have h2 := Blk.set (w := wr.drewN m) (show Blk (wr.drewN m) tb cs.toArray t from h) k v
  rwa [List.setIfInBounds_toArray] at h2
/-- what the greatest number so far is to what comes -/
def Nx (xs : List Tb.Ext) (i : Nat) (lst : Int) : Prop := (∀ k, (Tb.ord xs)[i]? = some k → lst < Tb.qAt xs k) ∧ (i = (Tb.ord xs).length → lst = Tb.last xs)
theorem Nx.zero {xs : List Tb.Ext} (hp : ∀ x ∈ xs, 0 ≤ x.q) : Nx xs 0 0 := by
  refine ⟨fun k hk => ?_, fun h => ?_⟩
  · obtain ⟨h1, h2⟩ := Tb.mem_ord.1 (List.mem_of_getElem? hk)
    have := hp _ (List.getElem_mem h1)
    rw [← Tb.qAt_eq h1] at this
    omega
  · exact (Tb.last_none (List.eq_nil_of_length_eq_zero h.symm)).symm
theorem Nx.step {xs : List Tb.Ext} (hp : ∀ x ∈ xs, 0 ≤ x.q) (ha : Tb.Apart xs) {i : Nat} (hi : i < (Tb.ord xs).length) : Nx xs (i + 1) (Tb.qAt xs (Tb.ord xs)[i]) := by
  refine ⟨fun k hk => ?_, fun h => ?_⟩
  · obtain ⟨h1, h2⟩ := List.getElem?_eq_some_iff.1 hk
    subst h2
    exact List.pairwise_iff_getElem.1 (Tb.ord_rises ha) i (i + 1) hi h1 (by omega)
  · have e : Tb.ord xs = (Tb.ord xs).take i ++ [(Tb.ord xs)[i]] := by
      rw [← List.take_succ_eq_append_getElem hi, h, List.take_length]
    exact (Tb.last_last hp e).symm

set_option maxHeartbeats 8000000 in
set_option maxRecDepth 100000 in
theorem walkN (w : World) (hT : Tab w) (g o : Int) (A : Option Addr) (cap n : Nat) (xs : List Tb.Ext) (hn : xs.length = n) (hc : n ≤ cap) (hA : Lies w A (flatX xs)) :
    Calls Tryd.prog 5 #[tabV g o A n cap] w fun e w' => e = .returned (.bool true) ∧ Below w.heap.size w w' := by
  have HX0 := Lib.hid (Blk.new w #[.int .i64 g, .int .i64 o, .slice A n cap] 24)
  have HB0 := Lib.hid ((Below.refl w.heap.size w).alloc (Nat.le_refl _) (.cells #[.int .i64 g, .int .i64 o, .slice A n cap] 24))
  have HA0 := Lib.hid (hA.below HB0.out)
  have HT0 := Lib.hid (hT.below HB0.out (Nat.le_refl _))
  have HW0 := Lib.hid (show (w.alloc (.cells #[.int .i64 g, .int .i64 o, .slice A n cap] 24)).heap.size = w.heap.size + 1 by simp)
  have HN := Lib.hid hn
  clear hA hT hn
  go_enter Tryd.func5, Tryd.ntmps5
  go_wp2_with fail
  generalize w.alloc (.cells #[.int .i64 g, .int .i64 o, .slice A n cap] 24) = w0 at *
  refine (head_any w0 HT0.out).mono ?_
  rintro e w1 ⟨rfl, b1⟩
  have HX1 := Lib.hid (HX0.out.below b1 (Nat.le_refl _))
  have HA1 := Lib.hid (HA0.out.below b1)
  have HB1 := Lib.hid (HB0.out.trans (b1.mono HB0.out.size))
  have HS1 := Lib.hid (show w.heap.size + 1 ≤ w1.heap.size by have := b1.size; have := HW0.out; omega)
  clear b1
  obtain ⟨z0, z1, z2⟩ := HX1.out.three
  by_cases hr : Tb.right ⟨g, o, xs⟩ = true
  rotate_left
  · have HR := Lib.hid (show Tb.right ⟨g, o, xs⟩ = false by simpa using hr)
    clear hr
    go_wp2_with fail
    refine (tright_is g o A cap n xs w1 false HN.out hc HA1.out HR.out).mono ?_
    rintro e w2 ⟨rfl, b2⟩
    have HX2 := Lib.hid (HX1.out.below b2 (Nat.le_refl _))
    have HA2 := Lib.hid (HA1.out.below b2)
    have HB2 := Lib.hid (HB1.out.trans (b2.mono HB1.out.size))
    clear b2 z0 z1 z2
    obtain ⟨z0, z1, z2⟩ := HX2.out.three
    go_wp2_with fail
    refine (torder_is g o A cap n 0 xs [] w2 HN.out hc HA2.out (by rw [if_neg (by rw [HR.out]; simp)]) rfl).mono ?_
    rintro e w3 ⟨A3, c3, rfl, -, -, b3⟩
    have HX3 := Lib.hid (HX2.out.below b3 (Nat.le_refl _))
    have HA3 := Lib.hid (HA2.out.below b3)
    have HB3 := Lib.hid (HB2.out.trans (b3.mono HB2.out.size))
    clear b3 z0 z1 z2
    obtain ⟨z0, z1, z2⟩ := HX3.out.three
    go_wp2_with fail
    refine (tfree_is g o A cap n 0 xs [] w3 HN.out hc HA3.out (by rw [if_neg (by rw [HR.out]; simp)]) rfl).mono ?_
    rintro e w4 ⟨A4, c4, rfl, -, -, b4⟩
    have HX4 := Lib.hid (HX3.out.below b4 (Nat.le_refl _))
    have HA4 := Lib.hid (HA3.out.below b4)
    have HB4 := Lib.hid (HB3.out.trans (b4.mono HB3.out.size))
    clear b4 z0 z1 z2
    obtain ⟨z0, z1, z2⟩ := HX4.out.three
    go_wp2_with fail
    refine (tlast_is g o A cap n xs w4 0 HN.out hc HA4.out (by rw [if_neg (by rw [HR.out]; simp)])).mono ?_
    rintro e w5 ⟨rfl, b5⟩
    go_wp2
    go_ret
    exact ⟨rfl, HB4.out.trans (b5.mono HB4.out.size)⟩
  · have HR := Lib.hid hr
    have hR := Tb.right_iff.1 hr
    have HN8 := Lib.hid (show n ≤ 8 by have := hR.n2; rw [← HN.out]; exact this)
    have HAP := Lib.hid (show Tb.Apart xs from hR.ap)
    have HPO := Lib.hid (show ∀ x ∈ xs, 0 ≤ x.q from fun x hx => (Tb.okE_iff.1 (hR.ok x hx)).1)
    clear hr hR
    go_wp2_with fail
    refine (tright_is g o A cap n xs w1 true HN.out hc HA1.out HR.out).mono ?_
    rintro e w2 ⟨rfl, b2⟩
    have HX2 := Lib.hid (HX1.out.below b2 (Nat.le_refl _))
    have HA2 := Lib.hid (HA1.out.below b2)
    have HB2 := Lib.hid (HB1.out.trans (b2.mono HB1.out.size))
    have HS2 := Lib.hid (show w.heap.size + 1 ≤ w2.heap.size from Nat.le_trans HS1.out b2.size)
    clear b2 z0 z1 z2
    have hz := Blk.new w2 #[.int .i64 0, .int .i64 0, .int .i64 0, .int .i64 0, .int .i64 0, .int .i64 0, .int .i64 0, .int .i64 0] 37
    have ba : Below w2.heap.size w2 (w2.alloc (.cells #[.int .i64 0, .int .i64 0, .int .i64 0, .int .i64 0, .int .i64 0, .int .i64 0, .int .i64 0, .int .i64 0] 37)) := (Below.refl _ _).alloc (Nat.le_refl _) _
    have HD3 := Lib.hid (show Blk (w2.alloc (.cells #[.int .i64 0, .int .i64 0, .int .i64 0, .int .i64 0, .int .i64 0, .int .i64 0, .int .i64 0, .int .i64 0] 37)) w2.heap.size (nums (tally [])).toArray 37 from hz)
    have HX3 := Lib.hid (HX2.out.below ba (Nat.le_refl _))
    have HA3 := Lib.hid (HA2.out.below ba)
    have HB3 := Lib.hid (HB2.out.trans (ba.mono HB2.out.size))
    have HS3 := Lib.hid hz.lt
    clear hz ba
    obtain ⟨z0, z1, z2⟩ := HX3.out.three
    go_wp2_with fail
    generalize w2.alloc (.cells #[.int .i64 0, .int .i64 0, .int .i64 0, .int .i64 0, .int .i64 0, .int .i64 0, .int .i64 0, .int .i64 0] 37) = w3 at *
    generalize w2.heap.size = tb at *
    have HOF := Lib.hid (torder_full g o A cap n xs w3 HN.out hc HA3.out)
    rw [if_pos HR.out] at HOF
    unfold GivesF at HOF
    refine HOF.out.mono ?_
    rintro e w4 ⟨Ao, co, rfl, hco, hAo, b4, hfo⟩
    have HX4 := Lib.hid (HX3.out.below b4 (Nat.le_refl _))
    have HA4 := Lib.hid (HA3.out.below b4)
    have HD4 := Lib.hid (HD3.out.below b4 (Nat.le_refl _))
    have HB4 := Lib.hid (HB3.out.trans (b4.mono HB3.out.size))
    have HLO := Lib.hid hAo
    have HFO := Lib.hid (show ∀ ad, Ao = some ad → ad.block ≠ tb from fun ad h => by have := hfo ad h; have := HS3.out; omega)
    have HS4 := Lib.hid (Nat.lt_of_lt_of_le HS3.out b4.size)
    clear b4 hAo hfo hco z0 z1 z2 HOF
    obtain ⟨z0, z1, z2⟩ := HX4.out.three
    go_wp2_with fail
    have HFF := Lib.hid (tfree_full g o A cap n xs w4 HN.out hc HA4.out)
    rw [if_pos HR.out] at HFF
    unfold GivesF at HFF
    refine HFF.out.mono ?_
    rintro e w5 ⟨Af, cf, rfl, hcf, hAf, b5, hff⟩
    have HX5 := Lib.hid (HX4.out.below b5 (Nat.le_refl _))
    have HA5 := Lib.hid (HA4.out.below b5)
    have HD5 := Lib.hid (HD4.out.below b5 (Nat.le_refl _))
    have HB5 := Lib.hid (HB4.out.trans (b5.mono HB4.out.size))
    have HLO5 := Lib.hid (HLO.out.below b5)
    have HLF := Lib.hid hAf
    have HFF2 := Lib.hid (show ∀ ad, Af = some ad → ad.block ≠ tb from fun ad h => by have := hff ad h; have := HS4.out; omega)
    clear b5 hAf hff hcf z0 z1 z2 HFF
    have HAB := Lib.hid (show ∀ ad, A = some ad → 0 < n → ad.block ≠ tb from fun ad h h0 => by
      obtain ⟨ad', e, h1, -⟩ := at_ext HA0.out 0 (by have := HN.out; omega)
      rw [h] at e; injection e with e; subst e
      have := HS2.out; have := HW0.out; omega)
    have HTB := Lib.hid (show w.heap.size ≠ tb by have := HS2.out; omega)
    obtain ⟨L, hL⟩ : ∃ L, (Tb.ord xs).length = L := ⟨_, rfl⟩
    obtain ⟨M, hM⟩ : ∃ M, (Tb.free xs).length = M := ⟨_, rfl⟩
    have HPL := Lib.hid (Tb.parts_length xs)
    rw [hL, hM, HN.out] at HPL
    have HLL := Lib.hid hL
    have HMM := Lib.hid hM
    rw [hL, hM]
    have hl8 : L ≤ 8 := by have := HPL.out; have := HN8.out; omega
    have hm8 : M ≤ 8 := by have := HPL.out; have := HN8.out; omega
    clear hL hM
    go_wp2_with fail
    go_loopw [7, 8] (fun vl vi wr => ∃ (i : Nat) (lst : Int), vi = .int .i64 i ∧ i ≤ L ∧ vl = .int .i64 lst ∧ Nx xs i lst ∧ Blk wr tb (nums (tally ((Tb.ord xs).take i))).toArray 37 ∧ Kept [tb] w5 wr) (fun _ vi _ => L - (intOf vi).toNat)
    case atStart => exact ⟨0, 0, rfl, by omega, rfl, Nx.zero HPO.out, HD5.out, Kept.refl _ _⟩
    case round =>
      obtain ⟨i, lst, rfl, hi, rfl, hnx, hbt, hkr⟩ := hrel
      have HNX := Lib.hid hnx
      have HBT := Lib.hid hbt
      have HKR := Lib.hid hkr
      clear hnx hbt
      by_cases hin : i < L
      · have hio : i < (Tb.ord xs).length := by have := HLL.out; omega
        obtain ⟨hkx, hk0⟩ := Tb.mem_ord.1 (List.getElem_mem hio)
        have HST := Lib.hid (Nx.step HPO.out HAP.out hio)
        have hlt := HNX.out.1 _ (List.getElem?_eq_getElem hio)
        obtain ⟨ao, rfl, haob, hco⟩ := at_num HLO5.out i hio
        obtain ⟨ad, rfl, hadb, hce⟩ := at_ext HA5.out _ hkx
        have y0 := (World.cell?_of_block (w := w5) (w' := wr) (a := ao.add i) (by rw [addr_block]; exact hkr.block _ haob (by simpa using HFO.out ao rfl))).trans (hco w5 (Below.refl _ _))
        have y1 := (World.cell?_of_block (w := w5) (w' := wr) (a := ad.add ((Tb.ord xs)[i] * 2)) (by rw [addr_block]; exact hkr.block _ hadb (by simpa using HAB.out ad rfl (by have := HN.out; omega)))).trans (hce w5 (Below.refl _ _)).1
        have y2 : wr.cell? ⟨w.heap.size, 2, none⟩ = some (.slice (some ad) n cap) := (hkr.blk HX5.out (by simpa using HTB.out)).cell 2
        rw [← Tb.qAt_eq hkx] at y1
        have HCN := Lib.hid (show (nums (tally ((Tb.ord xs).take i))).toArray[(Tb.ord xs)[i]]? = some (.int .i64 (((Tb.ord xs).take i).count (Tb.ord xs)[i] : Int)) by
          have h8 : (Tb.ord xs)[i] < 8 := by have := HN8.out; have := HN.out; omega
          simp [nums, tally, h8])
        have HC8 := Lib.hid (show ((Tb.ord xs).take i).count (Tb.ord xs)[i] ≤ 8 from Nat.le_trans List.count_le_length (by rw [List.length_take]; omega))
        have HTS := Lib.hid (show (nums (tally ((Tb.ord xs).take i))).set (Tb.ord xs)[i] (.int .i64 ((((Tb.ord xs).take i).count (Tb.ord xs)[i] + 1 : Nat) : Int)) = nums (tally ((Tb.ord xs).take (i + 1))) by
          rw [nums_set, tally_snoc, ← List.take_succ_eq_append_getElem hio])
        have HKN := Lib.hid (show (Tb.ord xs)[i] < n by have := HN.out; omega)
        have HIN := Lib.hid (show i + 1 ≤ L by omega)
        have z3 := (HBT.out.cell (Tb.ord xs)[i]).trans HCN.out
        have f3 := HBT.out.frozen (Tb.ord xs)[i]
        have hkn := HKN.out
        have hk8 : (Tb.ord xs)[i] < 8 := by have := HN8.out; omega
        have hc8 := HC8.out
        generalize ((Tb.ord xs).take i).count (Tb.ord xs)[i] = cn at *
        generalize Tb.qAt xs (Tb.ord xs)[i] = qk at *
        generalize (Tb.ord xs)[i] = k at *
        have hd1 : decide ((k : Int) < 0) = false := decide_eq_false (by omega)
        have hd2 : decide ((n : Int) ≤ (k : Int)) = false := decide_eq_false (by omega)
        have hd3 : decide (qk ≤ lst) = false := decide_eq_false (by omega)
        clear hco hce hkr haob hadb hkx hk0
        go_wp2_with fail
        go_quiet (fail)
        go_wp2_with fail
        go_quiet (fail)
        go_wp2_with fail
        go_region
        go_wp2
        go_roundw
        case rel =>
          exact ⟨i + 1, qk, by go_num, HIN.out, rfl, HST.out, by rw [← HTS.out]; exact told_set HBT.out _ _ _, (HKR.out.many _).setCell (p := ⟨tb, k, none⟩) (by simp) _⟩
        case measure => have := HIN.out; first | omega | (simp [intOf]; omega)
      · obtain rfl : i = L := by omega
        have hlst := HNX.out.2 HLL.out.symm
        have HTK := Lib.hid (show (Tb.ord xs).take i = Tb.ord xs by rw [← HLL.out, List.take_length])
        have HB6 := Lib.hid HBT.out
        rw [HTK.out] at HB6
        subst hlst
        go_wp2_with fail
        go_loopw [9] (fun vi wr => ∃ j : Nat, vi = .int .i64 j ∧ j ≤ M ∧ Blk wr tb (nums (tally (Tb.ord xs ++ (Tb.free xs).take j))).toArray 37 ∧ Kept [tb] w5 wr) (fun vi _ => M - (intOf vi).toNat)
        case atStart => exact ⟨0, rfl, by omega, by simpa using HB6.out, hkr⟩
        case round =>
          clear hkr
          obtain ⟨j, rfl, hj, hbt, hkr⟩ := hrel
          have HBT2 := Lib.hid hbt
          have HKR2 := Lib.hid hkr
          clear hbt
          by_cases hjm : j < M
          · have hjf : j < (Tb.free xs).length := by have := HMM.out; omega
            obtain ⟨hkx, hk0⟩ := Tb.mem_free.1 (List.getElem_mem hjf)
            obtain ⟨af, rfl, hafb, hco⟩ := at_num HLF.out j hjf
            obtain ⟨ad, rfl, hadb, hce⟩ := at_ext HA5.out _ hkx
            have y0 := (World.cell?_of_block (w := w5) (w' := wr) (a := af.add j) (by rw [addr_block]; exact hkr.block _ hafb (by simpa using HFF2.out af rfl))).trans (hco w5 (Below.refl _ _))
            have y1 := (World.cell?_of_block (w := w5) (w' := wr) (a := ad.add ((Tb.free xs)[j] * 2)) (by rw [addr_block]; exact hkr.block _ hadb (by simpa using HAB.out ad rfl (by have := HN.out; omega)))).trans (hce w5 (Below.refl _ _)).1
            have y2 : wr.cell? ⟨w.heap.size, 2, none⟩ = some (.slice (some ad) n cap) := (hkr.blk HX5.out (by simpa using HTB.out)).cell 2
            rw [← Tb.qAt_eq hkx, hk0] at y1
            have HYP := Lib.hid (show ∀ m, m + 1 = j → ∃ p : Nat, wr.cell? (af.add m) = some (.int .i64 (p : Int)) ∧ p < (Tb.free xs)[j] from fun m hm => by
              have hmf : m < (Tb.free xs).length := by omega
              obtain ⟨af', e, hafb', hco'⟩ := at_num HLF.out m hmf
              injection e with e
              subst e
              refine ⟨(Tb.free xs)[m], ?_, List.pairwise_iff_getElem.1 (Tb.free_rises xs) m j hmf hjf (by omega)⟩
              exact (World.cell?_of_block (w := w5) (w' := wr) (a := af.add m) (by rw [addr_block]; exact hkr.block _ hafb' (by simpa using HFF2.out af rfl))).trans (hco' w5 (Below.refl _ _)))
            have HCN := Lib.hid (show (nums (tally (Tb.ord xs ++ (Tb.free xs).take j))).toArray[(Tb.free xs)[j]]? = some (.int .i64 ((Tb.ord xs ++ (Tb.free xs).take j).count (Tb.free xs)[j] : Int)) by
              have h8 : (Tb.free xs)[j] < 8 := by have := HN8.out; have := HN.out; omega
              simp only [nums, tally, List.getElem?_toArray, List.getElem?_map, List.getElem?_range h8, Option.map_some])
            have HC8 := Lib.hid (show (Tb.ord xs ++ (Tb.free xs).take j).count (Tb.free xs)[j] ≤ 16 from Nat.le_trans List.count_le_length (by rw [List.length_append, List.length_take]; have := HLL.out; omega))
            have HTS := Lib.hid (show (nums (tally (Tb.ord xs ++ (Tb.free xs).take j))).set (Tb.free xs)[j] (.int .i64 (((Tb.ord xs ++ (Tb.free xs).take j).count (Tb.free xs)[j] + 1 : Nat) : Int)) = nums (tally (Tb.ord xs ++ (Tb.free xs).take (j + 1))) by
              rw [nums_set, tally_snoc, List.append_assoc, ← List.take_succ_eq_append_getElem hjf])
            have HKN := Lib.hid (show (Tb.free xs)[j] < n by have := HN.out; omega)
            have HIN := Lib.hid (show j + 1 ≤ M by omega)
            have z3 := (HBT2.out.cell (Tb.free xs)[j]).trans HCN.out
            have f3 := HBT2.out.frozen (Tb.free xs)[j]
            have hkn := HKN.out
            have hk8 : (Tb.free xs)[j] < 8 := by have := HN8.out; omega
            have hc8 := HC8.out
            generalize (Tb.ord xs ++ (Tb.free xs).take j).count (Tb.free xs)[j] = cn at *
            generalize (Tb.free xs)[j] = k at *
            have hd1 : decide ((k : Int) < 0) = false := decide_eq_false (by omega)
            have hd2 : decide ((n : Int) ≤ (k : Int)) = false := decide_eq_false (by omega)
            have HAFX := Lib.hid (show af.block < wr.heap.size from Nat.lt_of_lt_of_le hafb hkr.size)
            have HADX := Lib.hid (show ad.block < wr.heap.size from Nat.lt_of_lt_of_le hadb hkr.size)
            have HBX0 := Lib.hid (show w.heap.size < wr.heap.size from (hkr.blk HX5.out (by simpa using HTB.out)).lt)
            clear hco hce hkr hafb hadb hkx hk0
            have HAFB := Lib.hid (show (af.add j).block < wr.heap.size by rw [addr_block]; exact HAFX.out)
            have HI := Lib.hid (fun (W : World) => show (Instr.indexAt 32 (.slice (some af) M cf) (.int .i64 (j : Int))).run Tryd.prog W = .ok (.pointer (some (af.add j))) W by go_simp)
            have HI2 := Lib.hid (fun (W : World) => show (Instr.indexAt 22 (.slice (some ad) n cap) (.int .i64 (k : Int))).run Tryd.prog W = .ok (.pointer (some (ad.add (k * 2)))) W by go_simp)
            have HK := Lib.hid (fun (W : World) (hW : Below wr.heap.size wr W) => show (Instr.loadAt 3 (.pointer (some (af.add j)))).run Tryd.prog W = .ok (.int .i64 (k : Int)) W by
              have c := (hW.cell (p := af.add j) HAFB.out).trans y0
              go_simp)
            have HQ0 := Lib.hid (fun (W : World) (hW : Below wr.heap.size wr W) => show (Instr.loadAt 2 (.pointer (some (ad.add (k * 2))))).run Tryd.prog W = .ok (.int .i64 0) W by
              have c := (hW.cell (p := ad.add (k * 2)) (by rw [addr_block]; exact HADX.out)).trans y1
              go_simp)
            have HE := Lib.hid (fun (W : World) (hW : Below wr.heap.size wr W) => show (Instr.loadAt 22 (.pointer (some ⟨w.heap.size, 2, none⟩))).run Tryd.prog W = .ok (.slice (some ad) n cap) W by
              have c := (hW.cell (p := ⟨w.heap.size, 2, none⟩) HBX0.out).trans y2
              go_simp)
            have HE1 := Lib.hid (fun (W : World) => show (binOp .lss 3 (.int .i64 (k : Int)) (.int .i64 0)).run Tryd.prog W = .ok (.bool false) W by go_simp)
            have HE2 := Lib.hid (fun (W : World) => show (binOp .geq 3 (.int .i64 (k : Int)) (.int .i64 (n : Int))).run Tryd.prog W = .ok (.bool false) W by go_simp)
            rcases Nat.eq_zero_or_pos j with hj0 | hj0
            · have HE3 := Lib.hid (fun (W : World) => show (binOp .gtr 3 (.int .i64 (j : Int)) (.int .i64 0)).run Tryd.prog W = .ok (.bool false) W by subst hj0; go_simp)
              clear hj0
              generalize hb0 : w.heap.size = b0 at *
              go_wp2_with fail
              refine wp_softS (by kernel_rfl) 171 [(98, [6]), (99, [9]), (100, [98, 99]), (101, [100]), (102, [101]), (103, [102]), (104, [6, 103]), (105, [9, 103]), (106, [104, 105, 103]), (107, [106, 103]), (108, [1, 103]), (109, [108, 103]), (110, [109, 103]), (111, [107, 110, 103]), (112, [103, 111]), (113, [112]), (114, [1, 113]), (115, [114, 113]), (116, [6, 113]), (117, [9, 113]), (118, [116, 117, 113]), (119, [118, 113]), (120, [115, 119, 113]), (121, [120, 113]), (122, [121, 113]), (123, [122, 113]), (124, [113, 123]), (125, [124]), (126, [9, 125]), (127, [126, 125]), (128, [127, 125]), (129, [6, 128]), (130, [9, 128]), (131, [129, 130, 128]), (132, [131, 128]), (133, [6, 128]), (134, [9, 128]), (135, [134, 128]), (136, [133, 135, 128]), (137, [136, 128]), (138, [132, 137, 128]), (139, [128, 138, 125]), (140, [125, 139])]
                [Fact.is (.slice (some af) M cf), Fact.is (.int .i64 (j : Int)), Fact.is (.pointer (some (af.add j))), Fact.is (.int .i64 (k : Int)), Fact.is (.bool false), Fact.is (.bool false), Fact.is (.slice (some af) M cf), Fact.is (.int .i64 (j : Int)), Fact.is (.pointer (some (af.add j))), Fact.is (.int .i64 (k : Int)), Fact.is (.pointer (some ⟨b0, 2, none⟩)), Fact.is (.slice (some ad) n cap), Fact.is (.int .i64 n), Fact.is (.bool false), Fact.is (.bool false), Fact.is (.bool false), Fact.is (.pointer (some ⟨b0, 2, none⟩)), Fact.is (.slice (some ad) n cap), Fact.is (.slice (some af) M cf), Fact.is (.int .i64 (j : Int)), Fact.is (.pointer (some (af.add j))), Fact.is (.int .i64 (k : Int)), Fact.is (.pointer (some (ad.add (k * 2)))), Fact.is (.pointer (some (ad.add (k * 2)))), Fact.is (.int .i64 0), Fact.is (.bool false), Fact.is (.bool false), Fact.is (.bool false), Fact.is (.int .i64 (j : Int)), Fact.is (.bool false), Fact.is (.bool false), Fact.is (undef), Fact.is (undef), Fact.is (undef), Fact.is (undef), Fact.is (undef), Fact.is (undef), Fact.is (undef), Fact.is (undef), Fact.is (undef), Fact.is (undef), Fact.is (.bool false), Fact.is (.bool false)]
                (by kernel_rfl) rfl rfl ⟨?s0, ?s1, ?s2, ?s3, ?s4, ?s5, ?s6, ?s7, ?s8, ?s9, ?s10, ?s11, ?s12, ?s13, ?s14, ?s15, ?s16, ?s17, ?s18, ?s19, ?s20, ?s21, ?s22, ?s23, ?s24, ?s25, ?s26, ?s27, ?s28, ?s29, ?s30, ?s31, ?s32, ?s33, ?s34, ?s35, ?s36, ?s37, ?s38, ?s39, ?s40, ?s41, ?s42, trivial⟩ ?fin
              case s0 =>
                intro ρ W hb hc hf hr
                obtain ⟨r6, -⟩ := hr
                have e6 : ρ (.tmp 6) = .slice (some af) M cf := r6
                clear r6
                refine under_none rfl ?_
                exact ⟨e6, Below.refl _ _⟩
              case s1 =>
                intro ρ W hb hc hf hr
                obtain ⟨r9, -⟩ := hr
                have e9 : ρ (.tmp 9) = .int .i64 (j : Int) := r9
                clear r9
                refine under_none rfl ?_
                exact ⟨e9, Below.refl _ _⟩
              case s2 =>
                intro ρ W hb hc hf hr
                obtain ⟨r98, r99, -⟩ := hr
                have e98 : ρ (.tmp 98) = .slice (some af) M cf := r98
                clear r98
                have e99 : ρ (.tmp 99) = .int .i64 (j : Int) := r99
                clear r99
                refine under_none rfl ?_
                exact soft_index e98 e99 (HI.out W) rfl
              case s3 =>
                intro ρ W hb hc hf hr
                obtain ⟨r100, -⟩ := hr
                have e100 : ρ (.tmp 100) = .pointer (some (af.add j)) := r100
                clear r100
                refine under_none rfl ?_
                exact soft_load e100 (HK.out W (undrew hb)) rfl
              case s4 =>
                intro ρ W hb hc hf hr
                obtain ⟨r101, -⟩ := hr
                have e101 : ρ (.tmp 101) = .int .i64 (k : Int) := r101
                clear r101
                refine under_none rfl ?_
                exact soft_bin e101 (hc _) rfl rfl (HE1.out W)
              case s5 =>
                intro ρ W hb hc hf hr
                obtain ⟨r102, -⟩ := hr
                have e102 : ρ (.tmp 102) = .bool false := r102
                clear r102
                refine under_none rfl ?_
                exact ⟨e102, Below.refl _ _⟩
              case s6 =>
                intro ρ W hb hc hf hr
                obtain ⟨r6, r103, -⟩ := hr
                have e6 : ρ (.tmp 6) = .slice (some af) M cf := r6
                clear r6
                have e103 : ρ (.tmp 103) = .bool false := r103
                clear r103
                refine ⟨103, rfl, .inl ⟨e103, ?_⟩⟩
                exact ⟨e6, Below.refl _ _⟩
              case s7 =>
                intro ρ W hb hc hf hr
                obtain ⟨r9, r103, -⟩ := hr
                have e9 : ρ (.tmp 9) = .int .i64 (j : Int) := r9
                clear r9
                have e103 : ρ (.tmp 103) = .bool false := r103
                clear r103
                refine ⟨103, rfl, .inl ⟨e103, ?_⟩⟩
                exact ⟨e9, Below.refl _ _⟩
              case s8 =>
                intro ρ W hb hc hf hr
                obtain ⟨r104, r105, r103, -⟩ := hr
                have e104 : ρ (.tmp 104) = .slice (some af) M cf := r104
                clear r104
                have e105 : ρ (.tmp 105) = .int .i64 (j : Int) := r105
                clear r105
                have e103 : ρ (.tmp 103) = .bool false := r103
                clear r103
                refine ⟨103, rfl, .inl ⟨e103, ?_⟩⟩
                exact soft_index e104 e105 (HI.out W) rfl
              case s9 =>
                intro ρ W hb hc hf hr
                obtain ⟨r106, r103, -⟩ := hr
                have e106 : ρ (.tmp 106) = .pointer (some (af.add j)) := r106
                clear r106
                have e103 : ρ (.tmp 103) = .bool false := r103
                clear r103
                refine ⟨103, rfl, .inl ⟨e103, ?_⟩⟩
                exact soft_load e106 (HK.out W (undrew hb)) rfl
              case s10 =>
                intro ρ W hb hc hf hr
                obtain ⟨r1, r103, -⟩ := hr
                have e1 : ρ (.tmp 1) = .pointer (some ⟨b0, 0, none⟩) := r1
                clear r1
                have e103 : ρ (.tmp 103) = .bool false := r103
                clear r103
                refine ⟨103, rfl, .inl ⟨e103, ?_⟩⟩
                exact soft_field e1 rfl (fun W => by go_simp)
              case s11 =>
                intro ρ W hb hc hf hr
                obtain ⟨r108, r103, -⟩ := hr
                have e108 : ρ (.tmp 108) = .pointer (some ⟨b0, 2, none⟩) := r108
                clear r108
                have e103 : ρ (.tmp 103) = .bool false := r103
                clear r103
                refine ⟨103, rfl, .inl ⟨e103, ?_⟩⟩
                exact soft_load e108 (HE.out W (undrew hb)) rfl
              case s12 =>
                intro ρ W hb hc hf hr
                obtain ⟨r109, r103, -⟩ := hr
                have e109 : ρ (.tmp 109) = .slice (some ad) n cap := r109
                clear r109
                have e103 : ρ (.tmp 103) = .bool false := r103
                clear r103
                refine ⟨103, rfl, .inl ⟨e103, ?_⟩⟩
                simp [e109, go_sem, softUpon, Fact.is, Below.refl]
              case s13 =>
                intro ρ W hb hc hf hr
                obtain ⟨r107, r110, r103, -⟩ := hr
                have e107 : ρ (.tmp 107) = .int .i64 (k : Int) := r107
                clear r107
                have e110 : ρ (.tmp 110) = .int .i64 n := r110
                clear r110
                have e103 : ρ (.tmp 103) = .bool false := r103
                clear r103
                refine ⟨103, rfl, .inl ⟨e103, ?_⟩⟩
                exact soft_bin e107 e110 rfl rfl (HE2.out W)
              case s14 =>
                intro ρ W hb hc hf hr
                obtain ⟨r103, r111, -⟩ := hr
                have e103 : ρ (.tmp 103) = .bool false := r103
                clear r103
                have e111 : ρ (.tmp 111) = .bool false := r111
                clear r111
                refine under_none rfl ?_
                simp [execOp, e103, e111, go_sem, softUpon, Fact.is, Below.refl]
              case s15 =>
                intro ρ W hb hc hf hr
                obtain ⟨r112, -⟩ := hr
                have e112 : ρ (.tmp 112) = .bool false := r112
                clear r112
                refine under_none rfl ?_
                exact ⟨e112, Below.refl _ _⟩
              case s16 =>
                intro ρ W hb hc hf hr
                obtain ⟨r1, r113, -⟩ := hr
                have e1 : ρ (.tmp 1) = .pointer (some ⟨b0, 0, none⟩) := r1
                clear r1
                have e113 : ρ (.tmp 113) = .bool false := r113
                clear r113
                refine ⟨113, rfl, .inl ⟨e113, ?_⟩⟩
                exact soft_field e1 rfl (fun W => by go_simp)
              case s17 =>
                intro ρ W hb hc hf hr
                obtain ⟨r114, r113, -⟩ := hr
                have e114 : ρ (.tmp 114) = .pointer (some ⟨b0, 2, none⟩) := r114
                clear r114
                have e113 : ρ (.tmp 113) = .bool false := r113
                clear r113
                refine ⟨113, rfl, .inl ⟨e113, ?_⟩⟩
                exact soft_load e114 (HE.out W (undrew hb)) rfl
              case s18 =>
                intro ρ W hb hc hf hr
                obtain ⟨r6, r113, -⟩ := hr
                have e6 : ρ (.tmp 6) = .slice (some af) M cf := r6
                clear r6
                have e113 : ρ (.tmp 113) = .bool false := r113
                clear r113
                refine ⟨113, rfl, .inl ⟨e113, ?_⟩⟩
                exact ⟨e6, Below.refl _ _⟩
              case s19 =>
                intro ρ W hb hc hf hr
                obtain ⟨r9, r113, -⟩ := hr
                have e9 : ρ (.tmp 9) = .int .i64 (j : Int) := r9
                clear r9
                have e113 : ρ (.tmp 113) = .bool false := r113
                clear r113
                refine ⟨113, rfl, .inl ⟨e113, ?_⟩⟩
                exact ⟨e9, Below.refl _ _⟩
              case s20 =>
                intro ρ W hb hc hf hr
                obtain ⟨r116, r117, r113, -⟩ := hr
                have e116 : ρ (.tmp 116) = .slice (some af) M cf := r116
                clear r116
                have e117 : ρ (.tmp 117) = .int .i64 (j : Int) := r117
                clear r117
                have e113 : ρ (.tmp 113) = .bool false := r113
                clear r113
                refine ⟨113, rfl, .inl ⟨e113, ?_⟩⟩
                exact soft_index e116 e117 (HI.out W) rfl
              case s21 =>
                intro ρ W hb hc hf hr
                obtain ⟨r118, r113, -⟩ := hr
                have e118 : ρ (.tmp 118) = .pointer (some (af.add j)) := r118
                clear r118
                have e113 : ρ (.tmp 113) = .bool false := r113
                clear r113
                refine ⟨113, rfl, .inl ⟨e113, ?_⟩⟩
                exact soft_load e118 (HK.out W (undrew hb)) rfl
              case s22 =>
                intro ρ W hb hc hf hr
                obtain ⟨r115, r119, r113, -⟩ := hr
                have e115 : ρ (.tmp 115) = .slice (some ad) n cap := r115
                clear r115
                have e119 : ρ (.tmp 119) = .int .i64 (k : Int) := r119
                clear r119
                have e113 : ρ (.tmp 113) = .bool false := r113
                clear r113
                refine ⟨113, rfl, .inl ⟨e113, ?_⟩⟩
                exact soft_index e115 e119 (HI2.out W) rfl
              case s23 =>
                intro ρ W hb hc hf hr
                obtain ⟨r120, r113, -⟩ := hr
                have e120 : ρ (.tmp 120) = .pointer (some (ad.add (k * 2))) := r120
                clear r120
                have e113 : ρ (.tmp 113) = .bool false := r113
                clear r113
                refine ⟨113, rfl, .inl ⟨e113, ?_⟩⟩
                exact soft_field e120 rfl (fun W => by go_simp)
              case s24 =>
                intro ρ W hb hc hf hr
                obtain ⟨r121, r113, -⟩ := hr
                have e121 : ρ (.tmp 121) = .pointer (some (ad.add (k * 2))) := r121
                clear r121
                have e113 : ρ (.tmp 113) = .bool false := r113
                clear r113
                refine ⟨113, rfl, .inl ⟨e113, ?_⟩⟩
                exact soft_load e121 (HQ0.out W (undrew hb)) rfl
              case s25 =>
                intro ρ W hb hc hf hr
                obtain ⟨r122, r113, -⟩ := hr
                have e122 : ρ (.tmp 122) = .int .i64 0 := r122
                clear r122
                have e113 : ρ (.tmp 113) = .bool false := r113
                clear r113
                refine ⟨113, rfl, .inl ⟨e113, ?_⟩⟩
                exact soft_bin e122 (hc _) rfl rfl (by go_simp)
              case s26 =>
                intro ρ W hb hc hf hr
                obtain ⟨r113, r123, -⟩ := hr
                have e113 : ρ (.tmp 113) = .bool false := r113
                clear r113
                have e123 : ρ (.tmp 123) = .bool false := r123
                clear r123
                refine under_none rfl ?_
                simp [execOp, e113, e123, go_sem, softUpon, Fact.is, Below.refl]
              case s27 =>
                intro ρ W hb hc hf hr
                obtain ⟨r124, -⟩ := hr
                have e124 : ρ (.tmp 124) = .bool false := r124
                clear r124
                refine under_none rfl ?_
                exact ⟨e124, Below.refl _ _⟩
              case s28 =>
                intro ρ W hb hc hf hr
                obtain ⟨r9, r125, -⟩ := hr
                have e9 : ρ (.tmp 9) = .int .i64 (j : Int) := r9
                clear r9
                have e125 : ρ (.tmp 125) = .bool false := r125
                clear r125
                refine ⟨125, rfl, .inl ⟨e125, ?_⟩⟩
                exact ⟨e9, Below.refl _ _⟩
              case s29 =>
                intro ρ W hb hc hf hr
                obtain ⟨r126, r125, -⟩ := hr
                have e126 : ρ (.tmp 126) = .int .i64 (j : Int) := r126
                clear r126
                have e125 : ρ (.tmp 125) = .bool false := r125
                clear r125
                refine ⟨125, rfl, .inl ⟨e125, ?_⟩⟩
                exact soft_bin e126 (hc _) rfl rfl (HE3.out W)
              case s30 =>
                intro ρ W hb hc hf hr
                obtain ⟨r127, r125, -⟩ := hr
                have e127 : ρ (.tmp 127) = .bool false := r127
                clear r127
                have e125 : ρ (.tmp 125) = .bool false := r125
                clear r125
                refine ⟨125, rfl, .inl ⟨e125, ?_⟩⟩
                exact ⟨e127, Below.refl _ _⟩
              case s31 =>
                intro ρ W hb hc hf hr
                obtain ⟨r6, r128, -⟩ := hr
                have e6 : ρ (.tmp 6) = .slice (some af) M cf := r6
                clear r6
                have e128 : ρ (.tmp 128) = .bool false := r128
                clear r128
                exact ⟨128, rfl, .inr (.inl ⟨e128, rfl⟩)⟩
              case s32 =>
                intro ρ W hb hc hf hr
                obtain ⟨r9, r128, -⟩ := hr
                have e9 : ρ (.tmp 9) = .int .i64 (j : Int) := r9
                clear r9
                have e128 : ρ (.tmp 128) = .bool false := r128
                clear r128
                exact ⟨128, rfl, .inr (.inl ⟨e128, rfl⟩)⟩
              case s33 =>
                intro ρ W hb hc hf hr
                obtain ⟨r129, r130, r128, -⟩ := hr
                have e129 : ρ (.tmp 129) = undef := r129
                clear r129
                have e130 : ρ (.tmp 130) = undef := r130
                clear r130
                have e128 : ρ (.tmp 128) = .bool false := r128
                clear r128
                exact ⟨128, rfl, .inr (.inl ⟨e128, rfl⟩)⟩
              case s34 =>
                intro ρ W hb hc hf hr
                obtain ⟨r131, r128, -⟩ := hr
                have e131 : ρ (.tmp 131) = undef := r131
                clear r131
                have e128 : ρ (.tmp 128) = .bool false := r128
                clear r128
                exact ⟨128, rfl, .inr (.inl ⟨e128, rfl⟩)⟩
              case s35 =>
                intro ρ W hb hc hf hr
                obtain ⟨r6, r128, -⟩ := hr
                have e6 : ρ (.tmp 6) = .slice (some af) M cf := r6
                clear r6
                have e128 : ρ (.tmp 128) = .bool false := r128
                clear r128
                exact ⟨128, rfl, .inr (.inl ⟨e128, rfl⟩)⟩
              case s36 =>
                intro ρ W hb hc hf hr
                obtain ⟨r9, r128, -⟩ := hr
                have e9 : ρ (.tmp 9) = .int .i64 (j : Int) := r9
                clear r9
                have e128 : ρ (.tmp 128) = .bool false := r128
                clear r128
                exact ⟨128, rfl, .inr (.inl ⟨e128, rfl⟩)⟩
              case s37 =>
                intro ρ W hb hc hf hr
                obtain ⟨r134, r128, -⟩ := hr
                have e134 : ρ (.tmp 134) = undef := r134
                clear r134
                have e128 : ρ (.tmp 128) = .bool false := r128
                clear r128
                exact ⟨128, rfl, .inr (.inl ⟨e128, rfl⟩)⟩
              case s38 =>
                intro ρ W hb hc hf hr
                obtain ⟨r133, r135, r128, -⟩ := hr
                have e133 : ρ (.tmp 133) = undef := r133
                clear r133
                have e135 : ρ (.tmp 135) = undef := r135
                clear r135
                have e128 : ρ (.tmp 128) = .bool false := r128
                clear r128
                exact ⟨128, rfl, .inr (.inl ⟨e128, rfl⟩)⟩
              case s39 =>
                intro ρ W hb hc hf hr
                obtain ⟨r136, r128, -⟩ := hr
                have e136 : ρ (.tmp 136) = undef := r136
                clear r136
                have e128 : ρ (.tmp 128) = .bool false := r128
                clear r128
                exact ⟨128, rfl, .inr (.inl ⟨e128, rfl⟩)⟩
              case s40 =>
                intro ρ W hb hc hf hr
                obtain ⟨r132, r137, r128, -⟩ := hr
                have e132 : ρ (.tmp 132) = undef := r132
                clear r132
                have e137 : ρ (.tmp 137) = undef := r137
                clear r137
                have e128 : ρ (.tmp 128) = .bool false := r128
                clear r128
                exact ⟨128, rfl, .inr (.inl ⟨e128, rfl⟩)⟩
              case s41 =>
                intro ρ W hb hc hf hr
                obtain ⟨r128, r138, r125, -⟩ := hr
                have e128 : ρ (.tmp 128) = .bool false := r128
                clear r128
                have e138 : ρ (.tmp 138) = undef := r138
                clear r138
                have e125 : ρ (.tmp 125) = .bool false := r125
                clear r125
                refine ⟨125, rfl, .inl ⟨e125, ?_⟩⟩
                simp [execOp, e128, hc, go_sem, softUpon, Fact.is, Below.refl]
              case s42 =>
                intro ρ W hb hc hf hr
                obtain ⟨r125, r139, -⟩ := hr
                have e125 : ρ (.tmp 125) = .bool false := r125
                clear r125
                have e139 : ρ (.tmp 139) = .bool false := r139
                clear r139
                refine under_none rfl ?_
                simp [execOp, e125, e139, go_sem, softUpon, Fact.is, Below.refl]
              case fin =>
                intro a w1 hb hd hsz hk
                have ea := act_puts hd hsz rfl hk
                have k98 : a.tmps.getD 98 undef = .slice (some af) M cf := hk 98
                have k99 : a.tmps.getD 99 undef = .int .i64 (j : Int) := hk 99
                have k100 : a.tmps.getD 100 undef = .pointer (some (af.add j)) := hk 100
                have k101 : a.tmps.getD 101 undef = .int .i64 (k : Int) := hk 101
                have k102 : a.tmps.getD 102 undef = .bool false := hk 102
                have k103 : a.tmps.getD 103 undef = .bool false := hk 103
                have k104 : a.tmps.getD 104 undef = .slice (some af) M cf := hk 104
                have k105 : a.tmps.getD 105 undef = .int .i64 (j : Int) := hk 105
                have k106 : a.tmps.getD 106 undef = .pointer (some (af.add j)) := hk 106
                have k107 : a.tmps.getD 107 undef = .int .i64 (k : Int) := hk 107
                have k108 : a.tmps.getD 108 undef = .pointer (some ⟨b0, 2, none⟩) := hk 108
                have k109 : a.tmps.getD 109 undef = .slice (some ad) n cap := hk 109
                have k110 : a.tmps.getD 110 undef = .int .i64 n := hk 110
                have k111 : a.tmps.getD 111 undef = .bool false := hk 111
                have k112 : a.tmps.getD 112 undef = .bool false := hk 112
                have k113 : a.tmps.getD 113 undef = .bool false := hk 113
                have k114 : a.tmps.getD 114 undef = .pointer (some ⟨b0, 2, none⟩) := hk 114
                have k115 : a.tmps.getD 115 undef = .slice (some ad) n cap := hk 115
                have k116 : a.tmps.getD 116 undef = .slice (some af) M cf := hk 116
                have k117 : a.tmps.getD 117 undef = .int .i64 (j : Int) := hk 117
                have k118 : a.tmps.getD 118 undef = .pointer (some (af.add j)) := hk 118
                have k119 : a.tmps.getD 119 undef = .int .i64 (k : Int) := hk 119
                have k120 : a.tmps.getD 120 undef = .pointer (some (ad.add (k * 2))) := hk 120
                have k121 : a.tmps.getD 121 undef = .pointer (some (ad.add (k * 2))) := hk 121
                have k122 : a.tmps.getD 122 undef = .int .i64 0 := hk 122
                have k123 : a.tmps.getD 123 undef = .bool false := hk 123
                have k124 : a.tmps.getD 124 undef = .bool false := hk 124
                have k125 : a.tmps.getD 125 undef = .bool false := hk 125
                have k126 : a.tmps.getD 126 undef = .int .i64 (j : Int) := hk 126
                have k127 : a.tmps.getD 127 undef = .bool false := hk 127
                have k128 : a.tmps.getD 128 undef = .bool false := hk 128
                have k129 : a.tmps.getD 129 undef = undef := hk 129
                have k130 : a.tmps.getD 130 undef = undef := hk 130
                have k131 : a.tmps.getD 131 undef = undef := hk 131
                have k132 : a.tmps.getD 132 undef = undef := hk 132
                have k133 : a.tmps.getD 133 undef = undef := hk 133
                have k134 : a.tmps.getD 134 undef = undef := hk 134
                have k135 : a.tmps.getD 135 undef = undef := hk 135
                have k136 : a.tmps.getD 136 undef = undef := hk 136
                have k137 : a.tmps.getD 137 undef = undef := hk 137
                have k138 : a.tmps.getD 138 undef = undef := hk 138
                have k139 : a.tmps.getD 139 undef = .bool false := hk 139
                have k140 : a.tmps.getD 140 undef = .bool false := hk 140
                clear hk hd hsz
                simp only [List.map_cons, List.map_nil, List.foldl_cons, List.foldl_nil, k98, k99, k100, k101, k102, k103, k104, k105, k106, k107, k108, k109, k110, k111, k112, k113, k114, k115, k116, k117, k118, k119, k120, k121, k122, k123, k124, k125, k126, k127, k128, k129, k130, k131, k132, k133, k134, k135, k136, k137, k138, k139, k140] at ea
                clear k98 k99 k100 k101 k102 k103 k104 k105 k106 k107 k108 k109 k110 k111 k112 k113 k114 k115 k116 k117 k118 k119 k120 k121 k122 k123 k124 k125 k126 k127 k128 k129 k130 k131 k132 k133 k134 k135 k136 k137 k138 k139 k140
                simp only [Act.put, List.setIfInBounds_toArray, List.set_cons_succ, List.set_cons_zero] at ea
                subst ea
                have hbu := undrew hb
                have HBT4 := Lib.hid (HBT2.out.below hbu (Nat.le_refl _))
                have HKR4 := Lib.hid (HKR2.out.trans (Kept.of hbu [tb]))
                have z4 := (hbu.cell (p := ⟨tb, k, none⟩) HBT2.out.lt).trans z3
                have f4 := (hbu.frozen (p := ⟨tb, k, none⟩) HBT2.out.lt).trans f3
                have y4 := (hbu.cell (p := af.add j) HAFB.out).trans y0
                clear z3 f3 y0 y1 y2
                go_wp2_with fail
                go_region
                go_wp2
                go_roundw
                case rel =>
                  exact ⟨j + 1, by go_num, HIN.out, by rw [← HTS.out]; exact told_set HBT4.out _ _ _, (HKR4.out.many _).setCell (p := ⟨tb, k, none⟩) (by simp) _⟩
                case measure => have := HIN.out; first | omega | (simp [intOf]; omega)
            · obtain ⟨m, hm⟩ : ∃ m, m + 1 = j := ⟨j - 1, by omega⟩
              obtain ⟨p, y3, hp⟩ := HYP.out m hm
              have HE3 := Lib.hid (fun (W : World) => show (binOp .gtr 3 (.int .i64 (j : Int)) (.int .i64 0)).run Tryd.prog W = .ok (.bool true) W by go_simp)
              have HE4 := Lib.hid (fun (W : World) => show (binOp .sub 3 (.int .i64 (j : Int)) (.int .i64 1)).run Tryd.prog W = .ok (.int .i64 (m : Int)) W by
                have e : (j : Int) - 1 = (m : Int) := by omega
                go_simp
                rw [IntKind.wrap_i64]
                omega)
              have HI3 := Lib.hid (fun (W : World) => show (Instr.indexAt 32 (.slice (some af) M cf) (.int .i64 (m : Int))).run Tryd.prog W = .ok (.pointer (some (af.add m))) W by
                have hml : m < M := by omega
                clear hm
                go_simp)
              have HK3 := Lib.hid (fun (W : World) (hW : Below wr.heap.size wr W) => show (Instr.loadAt 3 (.pointer (some (af.add m)))).run Tryd.prog W = .ok (.int .i64 (p : Int)) W by
                have c := (hW.cell (p := af.add m) (by rw [addr_block]; exact HAFX.out)).trans y3
                go_simp)
              have HE5 := Lib.hid (fun (W : World) => show (binOp .leq 3 (.int .i64 (k : Int)) (.int .i64 (p : Int))).run Tryd.prog W = .ok (.bool false) W by go_simp)
              clear hj0 hm y3
              generalize hb0 : w.heap.size = b0 at *
              go_wp2_with fail
              refine wp_softS (by kernel_rfl) 171 [(98, [6]), (99, [9]), (100, [98, 99]), (101, [100]), (102, [101]), (103, [102]), (104, [6, 103]), (105, [9, 103]), (106, [104, 105, 103]), (107, [106, 103]), (108, [1, 103]), (109, [108, 103]), (110, [109, 103]), (111, [107, 110, 103]), (112, [103, 111]), (113, [112]), (114, [1, 113]), (115, [114, 113]), (116, [6, 113]), (117, [9, 113]), (118, [116, 117, 113]), (119, [118, 113]), (120, [115, 119, 113]), (121, [120, 113]), (122, [121, 113]), (123, [122, 113]), (124, [113, 123]), (125, [124]), (126, [9, 125]), (127, [126, 125]), (128, [127, 125]), (129, [6, 128]), (130, [9, 128]), (131, [129, 130, 128]), (132, [131, 128]), (133, [6, 128]), (134, [9, 128]), (135, [134, 128]), (136, [133, 135, 128]), (137, [136, 128]), (138, [132, 137, 128]), (139, [128, 138, 125]), (140, [125, 139])]
                [Fact.is (.slice (some af) M cf), Fact.is (.int .i64 (j : Int)), Fact.is (.pointer (some (af.add j))), Fact.is (.int .i64 (k : Int)), Fact.is (.bool false), Fact.is (.bool false), Fact.is (.slice (some af) M cf), Fact.is (.int .i64 (j : Int)), Fact.is (.pointer (some (af.add j))), Fact.is (.int .i64 (k : Int)), Fact.is (.pointer (some ⟨b0, 2, none⟩)), Fact.is (.slice (some ad) n cap), Fact.is (.int .i64 n), Fact.is (.bool false), Fact.is (.bool false), Fact.is (.bool false), Fact.is (.pointer (some ⟨b0, 2, none⟩)), Fact.is (.slice (some ad) n cap), Fact.is (.slice (some af) M cf), Fact.is (.int .i64 (j : Int)), Fact.is (.pointer (some (af.add j))), Fact.is (.int .i64 (k : Int)), Fact.is (.pointer (some (ad.add (k * 2)))), Fact.is (.pointer (some (ad.add (k * 2)))), Fact.is (.int .i64 0), Fact.is (.bool false), Fact.is (.bool false), Fact.is (.bool false), Fact.is (.int .i64 (j : Int)), Fact.is (.bool true), Fact.is (.bool true), Fact.is (.slice (some af) M cf), Fact.is (.int .i64 (j : Int)), Fact.is (.pointer (some (af.add j))), Fact.is (.int .i64 (k : Int)), Fact.is (.slice (some af) M cf), Fact.is (.int .i64 (j : Int)), Fact.is (.int .i64 (m : Int)), Fact.is (.pointer (some (af.add m))), Fact.is (.int .i64 (p : Int)), Fact.is (.bool false), Fact.is (.bool false), Fact.is (.bool false)]
                (by kernel_rfl) rfl rfl ⟨?s0, ?s1, ?s2, ?s3, ?s4, ?s5, ?s6, ?s7, ?s8, ?s9, ?s10, ?s11, ?s12, ?s13, ?s14, ?s15, ?s16, ?s17, ?s18, ?s19, ?s20, ?s21, ?s22, ?s23, ?s24, ?s25, ?s26, ?s27, ?s28, ?s29, ?s30, ?s31, ?s32, ?s33, ?s34, ?s35, ?s36, ?s37, ?s38, ?s39, ?s40, ?s41, ?s42, trivial⟩ ?fin
              case s0 =>
                intro ρ W hb hc hf hr
                obtain ⟨r6, -⟩ := hr
                have e6 : ρ (.tmp 6) = .slice (some af) M cf := r6
                clear r6
                refine under_none rfl ?_
                exact ⟨e6, Below.refl _ _⟩
              case s1 =>
                intro ρ W hb hc hf hr
                obtain ⟨r9, -⟩ := hr
                have e9 : ρ (.tmp 9) = .int .i64 (j : Int) := r9
                clear r9
                refine under_none rfl ?_
                exact ⟨e9, Below.refl _ _⟩
              case s2 =>
                intro ρ W hb hc hf hr
                obtain ⟨r98, r99, -⟩ := hr
                have e98 : ρ (.tmp 98) = .slice (some af) M cf := r98
                clear r98
                have e99 : ρ (.tmp 99) = .int .i64 (j : Int) := r99
                clear r99
                refine under_none rfl ?_
                exact soft_index e98 e99 (HI.out W) rfl
              case s3 =>
                intro ρ W hb hc hf hr
                obtain ⟨r100, -⟩ := hr
                have e100 : ρ (.tmp 100) = .pointer (some (af.add j)) := r100
                clear r100
                refine under_none rfl ?_
                exact soft_load e100 (HK.out W (undrew hb)) rfl
              case s4 =>
                intro ρ W hb hc hf hr
                obtain ⟨r101, -⟩ := hr
                have e101 : ρ (.tmp 101) = .int .i64 (k : Int) := r101
                clear r101
                refine under_none rfl ?_
                exact soft_bin e101 (hc _) rfl rfl (HE1.out W)
              case s5 =>
                intro ρ W hb hc hf hr
                obtain ⟨r102, -⟩ := hr
                have e102 : ρ (.tmp 102) = .bool false := r102
                clear r102
                refine under_none rfl ?_
                exact ⟨e102, Below.refl _ _⟩
              case s6 =>
                intro ρ W hb hc hf hr
                obtain ⟨r6, r103, -⟩ := hr
                have e6 : ρ (.tmp 6) = .slice (some af) M cf := r6
                clear r6
                have e103 : ρ (.tmp 103) = .bool false := r103
                clear r103
                refine ⟨103, rfl, .inl ⟨e103, ?_⟩⟩
                exact ⟨e6, Below.refl _ _⟩
              case s7 =>
                intro ρ W hb hc hf hr
                obtain ⟨r9, r103, -⟩ := hr
                have e9 : ρ (.tmp 9) = .int .i64 (j : Int) := r9
                clear r9
                have e103 : ρ (.tmp 103) = .bool false := r103
                clear r103
                refine ⟨103, rfl, .inl ⟨e103, ?_⟩⟩
                exact ⟨e9, Below.refl _ _⟩
              case s8 =>
                intro ρ W hb hc hf hr
                obtain ⟨r104, r105, r103, -⟩ := hr
                have e104 : ρ (.tmp 104) = .slice (some af) M cf := r104
                clear r104
                have e105 : ρ (.tmp 105) = .int .i64 (j : Int) := r105
                clear r105
                have e103 : ρ (.tmp 103) = .bool false := r103
                clear r103
                refine ⟨103, rfl, .inl ⟨e103, ?_⟩⟩
                exact soft_index e104 e105 (HI.out W) rfl
              case s9 =>
                intro ρ W hb hc hf hr
                obtain ⟨r106, r103, -⟩ := hr
                have e106 : ρ (.tmp 106) = .pointer (some (af.add j)) := r106
                clear r106
                have e103 : ρ (.tmp 103) = .bool false := r103
                clear r103
                refine ⟨103, rfl, .inl ⟨e103, ?_⟩⟩
                exact soft_load e106 (HK.out W (undrew hb)) rfl
              case s10 =>
                intro ρ W hb hc hf hr
                obtain ⟨r1, r103, -⟩ := hr
                have e1 : ρ (.tmp 1) = .pointer (some ⟨b0, 0, none⟩) := r1
                clear r1
                have e103 : ρ (.tmp 103) = .bool false := r103
                clear r103
                refine ⟨103, rfl, .inl ⟨e103, ?_⟩⟩
                exact soft_field e1 rfl (fun W => by go_simp)
              case s11 =>
                intro ρ W hb hc hf hr
                obtain ⟨r108, r103, -⟩ := hr
                have e108 : ρ (.tmp 108) = .pointer (some ⟨b0, 2, none⟩) := r108
                clear r108
                have e103 : ρ (.tmp 103) = .bool false := r103
                clear r103
                refine ⟨103, rfl, .inl ⟨e103, ?_⟩⟩
                exact soft_load e108 (HE.out W (undrew hb)) rfl
              case s12 =>
                intro ρ W hb hc hf hr
                obtain ⟨r109, r103, -⟩ := hr
                have e109 : ρ (.tmp 109) = .slice (some ad) n cap := r109
                clear r109
                have e103 : ρ (.tmp 103) = .bool false := r103
                clear r103
                refine ⟨103, rfl, .inl ⟨e103, ?_⟩⟩
                simp [e109, go_sem, softUpon, Fact.is, Below.refl]
              case s13 =>
                intro ρ W hb hc hf hr
                obtain ⟨r107, r110, r103, -⟩ := hr
                have e107 : ρ (.tmp 107) = .int .i64 (k : Int) := r107
                clear r107
                have e110 : ρ (.tmp 110) = .int .i64 n := r110
                clear r110
                have e103 : ρ (.tmp 103) = .bool false := r103
                clear r103
                refine ⟨103, rfl, .inl ⟨e103, ?_⟩⟩
                exact soft_bin e107 e110 rfl rfl (HE2.out W)
              case s14 =>
                intro ρ W hb hc hf hr
                obtain ⟨r103, r111, -⟩ := hr
                have e103 : ρ (.tmp 103) = .bool false := r103
                clear r103
                have e111 : ρ (.tmp 111) = .bool false := r111
                clear r111
                refine under_none rfl ?_
                simp [execOp, e103, e111, go_sem, softUpon, Fact.is, Below.refl]
              case s15 =>
                intro ρ W hb hc hf hr
                obtain ⟨r112, -⟩ := hr
                have e112 : ρ (.tmp 112) = .bool false := r112
                clear r112
                refine under_none rfl ?_
                exact ⟨e112, Below.refl _ _⟩
              case s16 =>
                intro ρ W hb hc hf hr
                obtain ⟨r1, r113, -⟩ := hr
                have e1 : ρ (.tmp 1) = .pointer (some ⟨b0, 0, none⟩) := r1
                clear r1
                have e113 : ρ (.tmp 113) = .bool false := r113
                clear r113
                refine ⟨113, rfl, .inl ⟨e113, ?_⟩⟩
                exact soft_field e1 rfl (fun W => by go_simp)
              case s17 =>
                intro ρ W hb hc hf hr
                obtain ⟨r114, r113, -⟩ := hr
                have e114 : ρ (.tmp 114) = .pointer (some ⟨b0, 2, none⟩) := r114
                clear r114
                have e113 : ρ (.tmp 113) = .bool false := r113
                clear r113
                refine ⟨113, rfl, .inl ⟨e113, ?_⟩⟩
                exact soft_load e114 (HE.out W (undrew hb)) rfl
              case s18 =>
                intro ρ W hb hc hf hr
                obtain ⟨r6, r113, -⟩ := hr
                have e6 : ρ (.tmp 6) = .slice (some af) M cf := r6
                clear r6
                have e113 : ρ (.tmp 113) = .bool false := r113
                clear r113
                refine ⟨113, rfl, .inl ⟨e113, ?_⟩⟩
                exact ⟨e6, Below.refl _ _⟩
              case s19 =>
                intro ρ W hb hc hf hr
                obtain ⟨r9, r113, -⟩ := hr
                have e9 : ρ (.tmp 9) = .int .i64 (j : Int) := r9
                clear r9
                have e113 : ρ (.tmp 113) = .bool false := r113
                clear r113
                refine ⟨113, rfl, .inl ⟨e113, ?_⟩⟩
                exact ⟨e9, Below.refl _ _⟩
              case s20 =>
                intro ρ W hb hc hf hr
                obtain ⟨r116, r117, r113, -⟩ := hr
                have e116 : ρ (.tmp 116) = .slice (some af) M cf := r116
                clear r116
                have e117 : ρ (.tmp 117) = .int .i64 (j : Int) := r117
                clear r117
                have e113 : ρ (.tmp 113) = .bool false := r113
                clear r113
                refine ⟨113, rfl, .inl ⟨e113, ?_⟩⟩
                exact soft_index e116 e117 (HI.out W) rfl
              case s21 =>
                intro ρ W hb hc hf hr
                obtain ⟨r118, r113, -⟩ := hr
                have e118 : ρ (.tmp 118) = .pointer (some (af.add j)) := r118
                clear r118
                have e113 : ρ (.tmp 113) = .bool false := r113
                clear r113
                refine ⟨113, rfl, .inl ⟨e113, ?_⟩⟩
                exact soft_load e118 (HK.out W (undrew hb)) rfl
              case s22 =>
                intro ρ W hb hc hf hr
                obtain ⟨r115, r119, r113, -⟩ := hr
                have e115 : ρ (.tmp 115) = .slice (some ad) n cap := r115
                clear r115
                have e119 : ρ (.tmp 119) = .int .i64 (k : Int) := r119
                clear r119
                have e113 : ρ (.tmp 113) = .bool false := r113
                clear r113
                refine ⟨113, rfl, .inl ⟨e113, ?_⟩⟩
                exact soft_index e115 e119 (HI2.out W) rfl
              case s23 =>
                intro ρ W hb hc hf hr
                obtain ⟨r120, r113, -⟩ := hr
                have e120 : ρ (.tmp 120) = .pointer (some (ad.add (k * 2))) := r120
                clear r120
                have e113 : ρ (.tmp 113) = .bool false := r113
                clear r113
                refine ⟨113, rfl, .inl ⟨e113, ?_⟩⟩
                exact soft_field e120 rfl (fun W => by go_simp)
              case s24 =>
                intro ρ W hb hc hf hr
                obtain ⟨r121, r113, -⟩ := hr
                have e121 : ρ (.tmp 121) = .pointer (some (ad.add (k * 2))) := r121
                clear r121
                have e113 : ρ (.tmp 113) = .bool false := r113
                clear r113
                refine ⟨113, rfl, .inl ⟨e113, ?_⟩⟩
                exact soft_load e121 (HQ0.out W (undrew hb)) rfl
              case s25 =>
                intro ρ W hb hc hf hr
                obtain ⟨r122, r113, -⟩ := hr
                have e122 : ρ (.tmp 122) = .int .i64 0 := r122
                clear r122
                have e113 : ρ (.tmp 113) = .bool false := r113
                clear r113
                refine ⟨113, rfl, .inl ⟨e113, ?_⟩⟩
                exact soft_bin e122 (hc _) rfl rfl (by go_simp)
              case s26 =>
                intro ρ W hb hc hf hr
                obtain ⟨r113, r123, -⟩ := hr
                have e113 : ρ (.tmp 113) = .bool false := r113
                clear r113
                have e123 : ρ (.tmp 123) = .bool false := r123
                clear r123
                refine under_none rfl ?_
                simp [execOp, e113, e123, go_sem, softUpon, Fact.is, Below.refl]
              case s27 =>
                intro ρ W hb hc hf hr
                obtain ⟨r124, -⟩ := hr
                have e124 : ρ (.tmp 124) = .bool false := r124
                clear r124
                refine under_none rfl ?_
                exact ⟨e124, Below.refl _ _⟩
              case s28 =>
                intro ρ W hb hc hf hr
                obtain ⟨r9, r125, -⟩ := hr
                have e9 : ρ (.tmp 9) = .int .i64 (j : Int) := r9
                clear r9
                have e125 : ρ (.tmp 125) = .bool false := r125
                clear r125
                refine ⟨125, rfl, .inl ⟨e125, ?_⟩⟩
                exact ⟨e9, Below.refl _ _⟩
              case s29 =>
                intro ρ W hb hc hf hr
                obtain ⟨r126, r125, -⟩ := hr
                have e126 : ρ (.tmp 126) = .int .i64 (j : Int) := r126
                clear r126
                have e125 : ρ (.tmp 125) = .bool false := r125
                clear r125
                refine ⟨125, rfl, .inl ⟨e125, ?_⟩⟩
                exact soft_bin e126 (hc _) rfl rfl (HE3.out W)
              case s30 =>
                intro ρ W hb hc hf hr
                obtain ⟨r127, r125, -⟩ := hr
                have e127 : ρ (.tmp 127) = .bool true := r127
                clear r127
                have e125 : ρ (.tmp 125) = .bool false := r125
                clear r125
                refine ⟨125, rfl, .inl ⟨e125, ?_⟩⟩
                exact ⟨e127, Below.refl _ _⟩
              case s31 =>
                intro ρ W hb hc hf hr
                obtain ⟨r6, r128, -⟩ := hr
                have e6 : ρ (.tmp 6) = .slice (some af) M cf := r6
                clear r6
                have e128 : ρ (.tmp 128) = .bool true := r128
                clear r128
                refine ⟨128, rfl, .inl ⟨e128, ?_⟩⟩
                exact ⟨e6, Below.refl _ _⟩
              case s32 =>
                intro ρ W hb hc hf hr
                obtain ⟨r9, r128, -⟩ := hr
                have e9 : ρ (.tmp 9) = .int .i64 (j : Int) := r9
                clear r9
                have e128 : ρ (.tmp 128) = .bool true := r128
                clear r128
                refine ⟨128, rfl, .inl ⟨e128, ?_⟩⟩
                exact ⟨e9, Below.refl _ _⟩
              case s33 =>
                intro ρ W hb hc hf hr
                obtain ⟨r129, r130, r128, -⟩ := hr
                have e129 : ρ (.tmp 129) = .slice (some af) M cf := r129
                clear r129
                have e130 : ρ (.tmp 130) = .int .i64 (j : Int) := r130
                clear r130
                have e128 : ρ (.tmp 128) = .bool true := r128
                clear r128
                refine ⟨128, rfl, .inl ⟨e128, ?_⟩⟩
                exact soft_index e129 e130 (HI.out W) rfl
              case s34 =>
                intro ρ W hb hc hf hr
                obtain ⟨r131, r128, -⟩ := hr
                have e131 : ρ (.tmp 131) = .pointer (some (af.add j)) := r131
                clear r131
                have e128 : ρ (.tmp 128) = .bool true := r128
                clear r128
                refine ⟨128, rfl, .inl ⟨e128, ?_⟩⟩
                exact soft_load e131 (HK.out W (undrew hb)) rfl
              case s35 =>
                intro ρ W hb hc hf hr
                obtain ⟨r6, r128, -⟩ := hr
                have e6 : ρ (.tmp 6) = .slice (some af) M cf := r6
                clear r6
                have e128 : ρ (.tmp 128) = .bool true := r128
                clear r128
                refine ⟨128, rfl, .inl ⟨e128, ?_⟩⟩
                exact ⟨e6, Below.refl _ _⟩
              case s36 =>
                intro ρ W hb hc hf hr
                obtain ⟨r9, r128, -⟩ := hr
                have e9 : ρ (.tmp 9) = .int .i64 (j : Int) := r9
                clear r9
                have e128 : ρ (.tmp 128) = .bool true := r128
                clear r128
                refine ⟨128, rfl, .inl ⟨e128, ?_⟩⟩
                exact ⟨e9, Below.refl _ _⟩
              case s37 =>
                intro ρ W hb hc hf hr
                obtain ⟨r134, r128, -⟩ := hr
                have e134 : ρ (.tmp 134) = .int .i64 (j : Int) := r134
                clear r134
                have e128 : ρ (.tmp 128) = .bool true := r128
                clear r128
                refine ⟨128, rfl, .inl ⟨e128, ?_⟩⟩
                exact soft_bin e134 (hc _) rfl rfl (HE4.out W)
              case s38 =>
                intro ρ W hb hc hf hr
                obtain ⟨r133, r135, r128, -⟩ := hr
                have e133 : ρ (.tmp 133) = .slice (some af) M cf := r133
                clear r133
                have e135 : ρ (.tmp 135) = .int .i64 (m : Int) := r135
                clear r135
                have e128 : ρ (.tmp 128) = .bool true := r128
                clear r128
                refine ⟨128, rfl, .inl ⟨e128, ?_⟩⟩
                exact soft_index e133 e135 (HI3.out W) rfl
              case s39 =>
                intro ρ W hb hc hf hr
                obtain ⟨r136, r128, -⟩ := hr
                have e136 : ρ (.tmp 136) = .pointer (some (af.add m)) := r136
                clear r136
                have e128 : ρ (.tmp 128) = .bool true := r128
                clear r128
                refine ⟨128, rfl, .inl ⟨e128, ?_⟩⟩
                exact soft_load e136 (HK3.out W (undrew hb)) rfl
              case s40 =>
                intro ρ W hb hc hf hr
                obtain ⟨r132, r137, r128, -⟩ := hr
                have e132 : ρ (.tmp 132) = .int .i64 (k : Int) := r132
                clear r132
                have e137 : ρ (.tmp 137) = .int .i64 (p : Int) := r137
                clear r137
                have e128 : ρ (.tmp 128) = .bool true := r128
                clear r128
                refine ⟨128, rfl, .inl ⟨e128, ?_⟩⟩
                exact soft_bin e132 e137 rfl rfl (HE5.out W)
              case s41 =>
                intro ρ W hb hc hf hr
                obtain ⟨r128, r138, r125, -⟩ := hr
                have e128 : ρ (.tmp 128) = .bool true := r128
                clear r128
                have e138 : ρ (.tmp 138) = .bool false := r138
                clear r138
                have e125 : ρ (.tmp 125) = .bool false := r125
                clear r125
                refine ⟨125, rfl, .inl ⟨e125, ?_⟩⟩
                simp [execOp, e128, e138, go_sem, softUpon, Fact.is, Below.refl]
              case s42 =>
                intro ρ W hb hc hf hr
                obtain ⟨r125, r139, -⟩ := hr
                have e125 : ρ (.tmp 125) = .bool false := r125
                clear r125
                have e139 : ρ (.tmp 139) = .bool false := r139
                clear r139
                refine under_none rfl ?_
                simp [execOp, e125, e139, go_sem, softUpon, Fact.is, Below.refl]
              case fin =>
                intro a w1 hb hd hsz hk
                have ea := act_puts hd hsz rfl hk
                have k98 : a.tmps.getD 98 undef = .slice (some af) M cf := hk 98
                have k99 : a.tmps.getD 99 undef = .int .i64 (j : Int) := hk 99
                have k100 : a.tmps.getD 100 undef = .pointer (some (af.add j)) := hk 100
                have k101 : a.tmps.getD 101 undef = .int .i64 (k : Int) := hk 101
                have k102 : a.tmps.getD 102 undef = .bool false := hk 102
                have k103 : a.tmps.getD 103 undef = .bool false := hk 103
                have k104 : a.tmps.getD 104 undef = .slice (some af) M cf := hk 104
                have k105 : a.tmps.getD 105 undef = .int .i64 (j : Int) := hk 105
                have k106 : a.tmps.getD 106 undef = .pointer (some (af.add j)) := hk 106
                have k107 : a.tmps.getD 107 undef = .int .i64 (k : Int) := hk 107
                have k108 : a.tmps.getD 108 undef = .pointer (some ⟨b0, 2, none⟩) := hk 108
                have k109 : a.tmps.getD 109 undef = .slice (some ad) n cap := hk 109
                have k110 : a.tmps.getD 110 undef = .int .i64 n := hk 110
                have k111 : a.tmps.getD 111 undef = .bool false := hk 111
                have k112 : a.tmps.getD 112 undef = .bool false := hk 112
                have k113 : a.tmps.getD 113 undef = .bool false := hk 113
                have k114 : a.tmps.getD 114 undef = .pointer (some ⟨b0, 2, none⟩) := hk 114
                have k115 : a.tmps.getD 115 undef = .slice (some ad) n cap := hk 115
                have k116 : a.tmps.getD 116 undef = .slice (some af) M cf := hk 116
                have k117 : a.tmps.getD 117 undef = .int .i64 (j : Int) := hk 117
                have k118 : a.tmps.getD 118 undef = .pointer (some (af.add j)) := hk 118
                have k119 : a.tmps.getD 119 undef = .int .i64 (k : Int) := hk 119
                have k120 : a.tmps.getD 120 undef = .pointer (some (ad.add (k * 2))) := hk 120
                have k121 : a.tmps.getD 121 undef = .pointer (some (ad.add (k * 2))) := hk 121
                have k122 : a.tmps.getD 122 undef = .int .i64 0 := hk 122
                have k123 : a.tmps.getD 123 undef = .bool false := hk 123
                have k124 : a.tmps.getD 124 undef = .bool false := hk 124
                have k125 : a.tmps.getD 125 undef = .bool false := hk 125
                have k126 : a.tmps.getD 126 undef = .int .i64 (j : Int) := hk 126
                have k127 : a.tmps.getD 127 undef = .bool true := hk 127
                have k128 : a.tmps.getD 128 undef = .bool true := hk 128
                have k129 : a.tmps.getD 129 undef = .slice (some af) M cf := hk 129
                have k130 : a.tmps.getD 130 undef = .int .i64 (j : Int) := hk 130
                have k131 : a.tmps.getD 131 undef = .pointer (some (af.add j)) := hk 131
                have k132 : a.tmps.getD 132 undef = .int .i64 (k : Int) := hk 132
                have k133 : a.tmps.getD 133 undef = .slice (some af) M cf := hk 133
                have k134 : a.tmps.getD 134 undef = .int .i64 (j : Int) := hk 134
                have k135 : a.tmps.getD 135 undef = .int .i64 (m : Int) := hk 135
                have k136 : a.tmps.getD 136 undef = .pointer (some (af.add m)) := hk 136
                have k137 : a.tmps.getD 137 undef = .int .i64 (p : Int) := hk 137
                have k138 : a.tmps.getD 138 undef = .bool false := hk 138
                have k139 : a.tmps.getD 139 undef = .bool false := hk 139
                have k140 : a.tmps.getD 140 undef = .bool false := hk 140
                clear hk hd hsz
                simp only [List.map_cons, List.map_nil, List.foldl_cons, List.foldl_nil, k98, k99, k100, k101, k102, k103, k104, k105, k106, k107, k108, k109, k110, k111, k112, k113, k114, k115, k116, k117, k118, k119, k120, k121, k122, k123, k124, k125, k126, k127, k128, k129, k130, k131, k132, k133, k134, k135, k136, k137, k138, k139, k140] at ea
                clear k98 k99 k100 k101 k102 k103 k104 k105 k106 k107 k108 k109 k110 k111 k112 k113 k114 k115 k116 k117 k118 k119 k120 k121 k122 k123 k124 k125 k126 k127 k128 k129 k130 k131 k132 k133 k134 k135 k136 k137 k138 k139 k140
                simp only [Act.put, List.setIfInBounds_toArray, List.set_cons_succ, List.set_cons_zero] at ea
                subst ea
                have hbu := undrew hb
                have HBT4 := Lib.hid (HBT2.out.below hbu (Nat.le_refl _))
                have HKR4 := Lib.hid (HKR2.out.trans (Kept.of hbu [tb]))
                have z4 := (hbu.cell (p := ⟨tb, k, none⟩) HBT2.out.lt).trans z3
                have f4 := (hbu.frozen (p := ⟨tb, k, none⟩) HBT2.out.lt).trans f3
                have y4 := (hbu.cell (p := af.add j) HAFB.out).trans y0
                clear z3 f3 y0 y1 y2
                go_wp2_with fail
                go_region
                go_wp2
                go_roundw
                case rel =>
                  exact ⟨j + 1, by go_num, HIN.out, by rw [← HTS.out]; exact told_set HBT4.out _ _ _, (HKR4.out.many _).setCell (p := ⟨tb, k, none⟩) (by simp) _⟩
                case measure => have := HIN.out; first | omega | (simp [intOf]; omega)
          · obtain rfl : j = M := by omega
            have HTK2 := Lib.hid (show (Tb.free xs).take j = Tb.free xs by rw [← HMM.out, List.take_length])
            have hb7 := HBT2.out
            rw [HTK2.out] at hb7
            have HB7 := Lib.hid hb7
            have HONE := Lib.hid (show ∀ k, k < n → (nums (tally (Tb.ord xs ++ Tb.free xs))).toArray[k]? = some (.int .i64 1) from fun k hk => by
              have h8 : k < 8 := by have := HN8.out; omega
              have h1 := count_all (xs := xs) k (by have := HN.out; omega)
              simp only [nums, tally, List.getElem?_toArray, List.getElem?_map, List.getElem?_range h8, Option.map_some, h1]
              rfl)
            clear hb7
            have y2 : wr.cell? ⟨w.heap.size, 2, none⟩ = some (.slice A n cap) := (hkr.blk HX5.out (by simpa using HTB.out)).cell 2
            go_wp2_with fail
            clear y2
            go_loopw [10] (fun vi wq => ∃ k : Nat, vi = .int .i64 k ∧ k ≤ n ∧ Blk wq tb (nums (tally (Tb.ord xs ++ Tb.free xs))).toArray 37 ∧ Kept [tb] w5 wq) (fun vi _ => n - (intOf vi).toNat)
            case atStart => exact ⟨0, rfl, by omega, HB7.out, hkr⟩
            case round =>
              clear hkr
              obtain ⟨k, rfl, hk, hbt, hkr⟩ := hrel
              have HBT3 := Lib.hid hbt
              clear hbt
              have y2 : wr.cell? ⟨w.heap.size, 2, none⟩ = some (.slice A n cap) := (hkr.blk HX5.out (by simpa using HTB.out)).cell 2
              by_cases hkn : k < n
              · have z3 := (HBT3.out.cell k).trans (HONE.out k hkn)
                have hk8 : k < 8 := by have := HN8.out; omega
                have HIN := Lib.hid (show k + 1 ≤ n by omega)
                go_wp2
                go_roundw
                case rel => exact ⟨k + 1, by go_num, HIN.out, HBT3.out, hkr⟩
                case measure => have := HIN.out; first | omega | (simp [intOf]; omega)
              · obtain rfl : k = n := by omega
                have HX8 := Lib.hid (hkr.blk HX5.out (by simpa using HTB.out))
                have HA8 := Lib.hid (show Lies wr A (flatX xs) by
                  rcases HA5.out with h | ⟨ad, rfl, hb, hc'⟩
                  · exact .inl h
                  · rcases Nat.eq_zero_or_pos k with h0 | h0
                    · exact .inl (List.eq_nil_of_length_eq_zero (by rw [flatX_length, HN.out, h0]))
                    · exact .inr ⟨ad, rfl, Nat.lt_of_lt_of_le hb hkr.size, fun j u hu => (World.cell?_of_block (w := w5) (w' := wr) (a := ad.add j) (by rw [addr_block]; exact hkr.block _ hb (by simpa using HAB.out ad rfl h0))).trans (hc' j u hu)⟩)
                have HBZ := Lib.hid (Kept.below HB5.out hkr (by have := HS2.out; simp; omega))
                clear y2
                obtain ⟨z0, z1, z2⟩ := HX8.out.three
                go_wp2_with fail
                refine (tlast_is g o A cap k xs wr (Tb.last xs) HN.out hc HA8.out (by rw [if_pos HR.out])).mono ?_
                rintro e w9 ⟨rfl, b9⟩
                have HF := Lib.hid (HBZ.out.trans (b9.mono HBZ.out.size))
                clear b9
                generalize Tb.last xs = lst at *
                go_wp2
                go_ret
                exact ⟨by simp, HF.out⟩

theorem walk (w : World) (hT : Tab w) (g o : Int) (A : Option Addr) (cap : Nat) (xs : List Tb.Ext) (hl : xs.length ≤ cap) (_ : cap ≤ maxLen) (hA : Lies w A (flatX xs)) :
    Calls Tryd.prog 5 #[tabV g o A xs.length cap] w fun e w' => e = .returned (.bool true) ∧ Below w.heap.size w w' :=
  walkN w hT g o A cap xs.length xs rfl hl hA


set_option maxRecDepth 100000 in
theorem lifted (os : Os) (started : os.Started) (H : Type) (enc : TypeId × Value → H) :
    ReturnsInHanded {} Tryd.checked os 5 .any (fun w args => (Rows.tableAllSpec.pre enc Tryd.prog Tryd.f5 [] false w args ∧ laidMetH Tryd.prog laidHere w) ∧ sizedMet enc Tryd.prog Tryd.f5 (OpenSpec.ofChange Rows.tableAllSpec) false w args) (Rows.tableAllSpec.post enc Tryd.prog Tryd.f5 false true false false) := by
  refine returnsInHanded_of_change_and (C := Tryd.checked) (X := fun w _ => laidMetH Tryd.prog laidHere w) (fun _ _ _ hh h => h.of_heap hh) own started (by kernel_rfl) Tryd.func5
    (ChangeSpec.witness_shaped (enc := enc) (C := Tryd.checked) (os := os) (X := fun w _ => laidMetH Tryd.prog laidHere w) false (World.doorLaid Tryd.prog doorSteps os) #[.agg #[.int .i64 0, .int .i64 0, .slice none 0 0]] 8 rfl (World.shaped_of_RefB (by kernel_rfl) (by kernel_rfl)) (by kernel_rfl) (by kernel_rfl) (by kernel_rfl) (door_met os _)) ?_
  intro W base args ds gs before hval0 hW _ _ hL _
  have hval : ∀ (j : Nat) t v, Tryd.f5.params[j]? = some t → args[j]? = some v → Value.okWide Tryd.prog W .any base t v := hval0
  have hfin := fun W' => law_post (enc := enc) (P := Tryd.prog) (f := Tryd.f5) (s := Rows.tableAllSpec) (tb := 4) (W := W) (W' := W') (args := args) (ds := ds) (gs := gs) (before := before) laidOut rfl (by kernel_rfl) Tryd.underlying4 (by kernel_rfl) (fun xs h => by rw [Tryd.params5] at h; match xs, h with | [_], _ => rfl) hW
  have hlt : ∀ x ∈ before, x.block < W.heap.size := fun x hx => hW.lt x hx
  obtain ⟨p, q, hA0, hV, rfl, hfz, hnd⟩ := hW
  have hA : DataW.TrodAll enc Tryd.prog W 0 (fun _ => true) true Tryd.f5.params.toList args.toList ds p := hA0
  rw [Tryd.params5] at hA hval
  obtain ⟨v0, vs0, d0, ds0, p0, q0, hargs, rfl, rfl, h0, r0⟩ := trodAll_cons hA
  obtain ⟨rfl, rfl, rfl⟩ := trodAll_nil r0
  obtain rfl : args = #[v0] := by cases args; simp_all
  obtain ⟨g0, o0, A0, cap0, l0, rfl, hl0, hm0, hB0⟩ := open_table (hval 0 24 v0 rfl rfl) h0 (fun x hx => hlt x (by simp [hx]))
  refine (walk W (of_laid hL) g0 o0 A0 cap0 l0 hl0 hm0 hB0).mono fun e W' ⟨he, hg⟩ => ?_
  subst he
  exact ⟨_, rfl, hfin W' hg⟩

theorem proved : Rows.TableAllSaid :=
  OpenClaim.holds_of_wide 5 Tryd.f5 rfl rfl rfl rfl rfl rfl rfl ⟨rfl, rfl, rfl, rfl, rfl⟩ rfl rfl rfl rfl rfl (by kernel_rfl) Tryd.func5 (by kernel_rfl)
    (of_decide_eq_true (by kernel_rfl)) (by unfold Func.isWrapper; first | (rw [if_pos (by decide +kernel)]; kernel_rfl) | (rw [if_neg (by decide +kernel)]; exact ⟨rfl, rfl⟩))
    (fun os started H enc _ => lifted os started H enc)

set_option maxRecDepth 100000 in
theorem card : Rows.TableAllCardSaid :=
  Claim7.holds_tied_plain_at .later [] laidKindsHere true _ false
    proved (fun _ h => by cases h) (by kernel_rfl) (fun _ h => by cases h) tableAll_row_tie rfl ⟨rfl, rfl⟩ (by kernel_rfl) rfl
    (fun f fn hf hfn => by
      obtain rfl : f = 5 := Option.some.inj ((show Tryd.prog.funcNamed "turntable/turntablelaw09.TableAll" = some 5 by kernel_rfl).symm.trans hf) |>.symm
      obtain rfl : fn = Tryd.f5 := (Option.some.inj (Tryd.func5.symm.trans hfn)).symm
      exact ⟨by kernel_rfl, fun j t ht => by
        rw [Tryd.params5] at ht
        have hm : t ∈ [24] := Array.mem_def.1 (Array.mem_of_getElem? ht)
        have hall : ([24].all fun u => !Tryd.prog.wantsStandIn u) = true := by kernel_rfl
        exact (show Tryd.prog.wantsStandIn t = false by simpa using List.all_eq_true.1 hall t hm)⟩)
    (by kernel_rfl)
#print axioms card
end Go.Proofs.YtbjaieopjkbijaaDoor.tableAll
