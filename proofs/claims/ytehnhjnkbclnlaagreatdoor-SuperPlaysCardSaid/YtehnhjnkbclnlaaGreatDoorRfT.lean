/-
  Layer 7's given answer: bits of a text that turn. Nothing is assumed.
-/
import Derived.Test.YtehnhjnkbclnlaaGreatDoorRfN

namespace Go.Proofs.YtehnhjnkbclnlaaGreatDoor
open Go.ChangeShapes Go.WideShapes Go.ChangeAt Go.RowKit
set_option maxRecDepth 100000

theorem run_idxU0 (W : World) (b n c i : Nat) (hi : i < n) : (Instr.indexAt 32 (.slice (some ⟨b, 0, none⟩) n c) (.int .i64 (i : Int))).run Tryz.prog W = .ok (.pointer (some ⟨b, i, none⟩)) W := by
  have e : (⟨b, 0, none⟩ : Addr).add i = ⟨b, i, none⟩ := by rw [Addr.add_mid, Nat.zero_add]
  go_simp
theorem bit_is (bits k x : Nat) (h : bits / 2 ^ k = x) : ((bits : Int) / 2 ^ k).tmod 2 = ((x % 2 : Nat) : Int) := by
  have e : (bits : Int) / 2 ^ k = ((bits / 2 ^ k : Nat) : Int) := by simp
  rw [e, h]
  exact Int.tmod_eq_emod_of_nonneg (by omega)
/-- a block of bytes with a mark far behind them -/
structure BlkT (w : World) (g : Nat) (s : List UInt8) : Prop where
  ex : ∃ C fr, w.heap[g]? = some (.cells C 5 fr) ∧ s.length ≤ C.size ∧ C.size ≤ fr.1 ∧ ∀ j, j < s.length → C[j]? = (cells s)[j]?
theorem cellsT_at (s : List UInt8) (j : Nat) (hj : j < s.length) : (cells s)[j]? = some (.int .u8 ((s.getD j 0).toNat : Int)) := by
  simp only [cells, List.getElem?_map, List.getElem?_eq_getElem hj, Option.map_some, List.getD_eq_getElem?_getD, Option.getD_some]
theorem BlkT.cell {w : World} {g : Nat} {s : List UInt8} (h : BlkT w g s) (j : Nat) (hj : j < s.length) : w.cell? ⟨g, j, none⟩ = some (.int .u8 ((s.getD j 0).toNat : Int)) := by
  obtain ⟨C, fr, h1, h2, h3, h4⟩ := h.ex
  rw [← cellsT_at s j hj, ← h4 j hj]
  simp [World.cell?, h1]
theorem BlkT.frozen {w : World} {g : Nat} {s : List UInt8} (h : BlkT w g s) (j : Nat) (hj : j < s.length) : w.frozen? ⟨g, j, none⟩ = false := by
  obtain ⟨C, fr, h1, h2, h3, h4⟩ := h.ex
  simp [World.frozen?, h1]
  omega
theorem BlkT.lt {w : World} {g : Nat} {s : List UInt8} (h : BlkT w g s) : g < w.heap.size := by
  obtain ⟨C, fr, h1, _⟩ := h.ex
  exact (Array.getElem?_eq_some_iff.1 h1).1
theorem BlkT.kept {w w' : World} {g : Nat} {s : List UInt8} {S : List Nat} (h : BlkT w g s) (k : Kept S w w') (hg : g ∉ S) : BlkT w' g s := by
  have hl := h.lt
  obtain ⟨C, fr, h1, h2, h3, h4⟩ := h.ex
  exact ⟨C, fr, (k.block g hl hg).trans h1, h2, h3, h4⟩
theorem BlkT.set {w : World} {g : Nat} {s : List UInt8} (h : BlkT w g s) (j : Nat) (hj : j < s.length) (c : UInt8) : BlkT (w.setCell ⟨g, j, none⟩ (.int .u8 (c.toNat : Int))) g (s.set j c) := by
  have hl := h.lt
  obtain ⟨C, fr, h1, h2, h3, h4⟩ := h.ex
  refine ⟨C.setIfInBounds j (.int .u8 (c.toNat : Int)), fr, ?_, by simpa using h2, by simpa using h3, fun i hi => ?_⟩
  · show (w.heap.modify g _)[g]? = _
    rw [Array.getElem?_modify, if_pos rfl, h1]
    rfl
  · rw [List.length_set] at hi
    by_cases e : i = j
    · subst e
      rw [Array.getElem?_setIfInBounds_self_of_lt (by omega), cellsT_at _ i (by rw [List.length_set]; exact hi)]
      simp [List.getD_eq_getElem?_getD, hi]
    · rw [Array.getElem?_setIfInBounds_ne (Ne.symm e), h4 i hi, cellsT_at _ i hi, cellsT_at _ i (by rw [List.length_set]; exact hi)]
      simp [List.getD_eq_getElem?_getD, List.getElem?_set_ne (Ne.symm e)]
theorem BlkT.lies {w : World} {g : Nat} {s : List UInt8} (h : BlkT w g s) : Lies w (some ⟨g, 0, none⟩) (cells s) := by
  refine .inr ⟨_, rfl, h.lt, fun j u hu => ?_⟩
  have hj : j < s.length := by
    have := (List.getElem?_eq_some_iff.1 hu).1
    rwa [cells_length] at this
  rw [Addr.add_mid, Nat.zero_add, h.cell j hj, ← cellsT_at s j hj]
  exact hu

set_option maxHeartbeats 2000000 in
theorem turned_any (w : World) (s : List UInt8) (aa bits : Nat) (hs : s.length = 64) (haa : aa < 512) (hbits : bits < 4294967296) :
    Calls Tryz.prog 37 #[.string (str s), .int .i64 (aa : Int), .int .u32 (bits : Int)] w fun e w' => e = .returned (.string (str (Plain.turn s aa bits))) ∧ Below w.heap.size w w' := by
  have HT := Lib.hid (show Plain.turn s aa bits = Plain.tr s aa bits 32 by unfold Plain.turn; rw [if_neg (by omega)]; rfl)
  obtain ⟨capb, C, hcv, hC1, -, hC2⟩ := conv_new w s
  have HB0 := Lib.hid ((Below.refl w.heap.size w).drew.alloc (o := .cells C 5 (C.size, C.size + 1)) (Nat.le_refl _))
  have HT0 := Lib.hid (show BlkT (w.drew.alloc (.cells C 5 (C.size, C.size + 1))) w.heap.size (Plain.tr s aa bits 0) from ⟨C, _, heap_alloc_new w.drew _, hC1, Nat.le_refl _, hC2⟩)
  rw [hs] at hcv
  obtain ⟨gb, hgb⟩ : ∃ g, w.heap.size = g := ⟨_, rfl⟩
  have HGB := Lib.hid hgb
  simp only [hgb] at hcv HT0
  have HSL := Lib.hid (fun k => show (Plain.tr s aa bits k).length = 64 from (Plain.tr_length s aa bits k).trans hs)
  clear hC1 hC2 hs
  go_enter Tryz.func37, Tryz.ntmps37
  go_wp2
  go_loopw [8] (fun v wr => ∃ k : Nat, v = .int .i64 (k : Int) ∧ k ≤ 32 ∧ (k = 0 ∨ aa + k ≤ 512) ∧ BlkT wr gb (Plain.tr s aa bits k) ∧ Below w.heap.size w wr) (fun v _ => 32 - (RowKit.intOf v).toNat)
  case atStart => exact ⟨0, rfl, Nat.zero_le _, .inl rfl, HT0.out, HB0.out⟩
  case round =>
    clear HT0 HB0
    obtain ⟨k, rfl, hk, hk2, hbt, hB⟩ := hrel
    have HBT := Lib.hid hbt
    have HB := Lib.hid hB
    have zr := hB.size
    clear hbt hB
    by_cases hgo : k < 32 ∧ aa + k < 512
    · obtain ⟨hk32, hak⟩ := hgo
      have t1 : decide ((k : Int) < 32) = true := decide_eq_true (by omega)
      have t2 : decide ((aa : Int) + (k : Int) < 512) = true := decide_eq_true (by omega)
      have HTS := Lib.hid (Plain.tr_succ s aa bits k)
      obtain ⟨x, hx⟩ : ∃ x, bits / 2 ^ k = x := ⟨_, rfl⟩
      rw [hx] at HTS
      have hbe := bit_is bits k x hx
      by_cases hb1 : x % 2 = 1
      · have t3 : (((bits : Int) / 2 ^ k).tmod 2 == 1) = true := by rw [hbe, hb1]; rfl
        obtain ⟨pp, hpp⟩ : ∃ p, aa + k = p := ⟨_, rfl⟩
        have hpp5 : pp < 512 := by omega
        have HAD := Lib.hid (fun W : World => show (binOp .add 3 (.int .i64 (aa : Int)) (.int .i64 (k : Int))).run Tryz.prog W = .ok (.int .i64 (pp : Int)) W by
          have := add_int W (aa : Int) (k : Int) (by omega)
          rwa [show (aa : Int) + (k : Int) = (pp : Int) by omega] at this)
        obtain ⟨c, hc2⟩ : ∃ c, (Plain.tr s aa bits k).getD (pp / 8) 0 = c := ⟨_, rfl⟩
        have hj8 : pp / 8 < (Plain.tr s aa bits k).length := by rw [HSL.out]; omega
        have HTS2 := Lib.hid (show Plain.tr s aa bits (k + 1) = (Plain.tr s aa bits k).set (pp / 8) (turned1 c 1 (pp % 8)) by
          rw [HTS.out, if_pos ⟨hak, hb1⟩, hpp]
          unfold Plain.flip turned1
          rw [if_pos rfl, hc2])
        have HL := Lib.hid (fun (W : World) (hW : Below wr.heap.size wr W) => run_loadU8 W ⟨gb, pp / 8, none⟩ (c.toNat : Int) (by have := (HBT.out.kept (Kept.of hW []) (by simp)).cell (pp / 8) hj8; rwa [hc2] at this))
        have HJ := Lib.hid hj8
        have hbd : Below wr.heap.size wr wr.drew := (Below.refl _ _).drew
        clear hx hb1 hc2 hj8 hbe
        go_wp2
        refine wp_late (by kernel_rfl) 47 [(26, [7]), (27, [1]), (28, [8]), (29, [27, 28]), (30, [29]), (31, [7]), (32, [1]), (33, [8]), (34, [32, 33]), (35, [34]), (36, [31, 35]), (37, [36]), (38, [1]), (39, [8]), (40, [38, 39]), (41, [40]), (42, [41]), (43, [37, 42]), (44, [26, 30]), (1019, [44, 43])]
          [Fact.is (.slice (some ⟨gb, 0, none⟩) 64 capb), Fact.is (.int .i64 (aa : Int)), Fact.is (.int .i64 (k : Int)), Fact.is (.int .i64 (pp : Int)), Fact.is (.int .i64 ((pp / 8 : Nat) : Int)), Fact.is (.slice (some ⟨gb, 0, none⟩) 64 capb), Fact.is (.int .i64 (aa : Int)), Fact.is (.int .i64 (k : Int)), Fact.is (.int .i64 (pp : Int)), Fact.is (.int .i64 ((pp / 8 : Nat) : Int)), Fact.is (.pointer (some ⟨gb, pp / 8, none⟩)), Fact.is (.int .u8 (c.toNat : Int)), Fact.is (.int .i64 (aa : Int)), Fact.is (.int .i64 (k : Int)), Fact.is (.int .i64 (pp : Int)), Fact.is (.int .i64 ((pp % 8 : Nat) : Int)), Fact.is (.int .u8 ((1 * 2 ^ (pp % 8) : Nat) : Int)), Fact.is (.int .u8 ((turned1 c 1 (pp % 8)).toNat : Int)), Fact.is (.pointer (some ⟨gb, pp / 8, none⟩)), default]
          [1, 1, 1, 1, 1, 1, 1, 1, 1, 1, 1, 1, 1, 1, 1, 1, 1, 1, 1, 2] [19] [] [26, 27, 28, 29, 30, 31, 32, 33, 34, 35, 36, 37, 38, 39, 40, 41, 42, 43, 44] ((fun _ _ w' => ∃ W, Below wr.heap.size wr W ∧ w' = W.setCell ⟨gb, pp / 8, none⟩ (.int .u8 ((turned1 c 1 (pp % 8)).toNat : Int))))
          (by kernel_rfl) (by kernel_rfl) rfl rfl ⟨?s0, ?s1, ?s2, ?s3, ?s4, ?s5, ?s6, ?s7, ?s8, ?s9, ?s10, ?s11, ?s12, ?s13, ?s14, ?s15, ?s16, ?s17, ?s18, trivial⟩ ?late ?fin
        case s0 =>
          intro ρ W hb hc hf hr
          obtain ⟨r7, -⟩ := hr
          have e7 : ρ (.tmp 7) = .slice (some ⟨gb, 0, none⟩) 64 capb := r7
          clear r7
          refine under_none rfl ?_
          exact ⟨e7, Below.refl _ _⟩
        case s1 =>
          intro ρ W hb hc hf hr
          obtain ⟨r1, -⟩ := hr
          have e1 : ρ (.tmp 1) = .int .i64 (aa : Int) := r1
          clear r1
          refine under_none rfl ?_
          exact ⟨e1, Below.refl _ _⟩
        case s2 =>
          intro ρ W hb hc hf hr
          obtain ⟨r8, -⟩ := hr
          have e8 : ρ (.tmp 8) = .int .i64 (k : Int) := r8
          clear r8
          refine under_none rfl ?_
          exact ⟨e8, Below.refl _ _⟩
        case s3 =>
          intro ρ W hb hc hf hr
          obtain ⟨r27, r28, -⟩ := hr
          have e27 : ρ (.tmp 27) = .int .i64 (aa : Int) := r27
          clear r27
          have e28 : ρ (.tmp 28) = .int .i64 (k : Int) := r28
          clear r28
          refine under_none rfl ?_
          exact soft_bin e27 e28 rfl rfl (HAD.out W)
        case s4 =>
          intro ρ W hb hc hf hr
          obtain ⟨r29, -⟩ := hr
          have e29 : ρ (.tmp 29) = .int .i64 (pp : Int) := r29
          clear r29
          refine under_none rfl ?_
          exact soft_bin e29 (hc _) rfl rfl (quo8 W pp (by omega))
        case s5 =>
          intro ρ W hb hc hf hr
          obtain ⟨r7, -⟩ := hr
          have e7 : ρ (.tmp 7) = .slice (some ⟨gb, 0, none⟩) 64 capb := r7
          clear r7
          refine under_none rfl ?_
          exact ⟨e7, Below.refl _ _⟩
        case s6 =>
          intro ρ W hb hc hf hr
          obtain ⟨r1, -⟩ := hr
          have e1 : ρ (.tmp 1) = .int .i64 (aa : Int) := r1
          clear r1
          refine under_none rfl ?_
          exact ⟨e1, Below.refl _ _⟩
        case s7 =>
          intro ρ W hb hc hf hr
          obtain ⟨r8, -⟩ := hr
          have e8 : ρ (.tmp 8) = .int .i64 (k : Int) := r8
          clear r8
          refine under_none rfl ?_
          exact ⟨e8, Below.refl _ _⟩
        case s8 =>
          intro ρ W hb hc hf hr
          obtain ⟨r32, r33, -⟩ := hr
          have e32 : ρ (.tmp 32) = .int .i64 (aa : Int) := r32
          clear r32
          have e33 : ρ (.tmp 33) = .int .i64 (k : Int) := r33
          clear r33
          refine under_none rfl ?_
          exact soft_bin e32 e33 rfl rfl (HAD.out W)
        case s9 =>
          intro ρ W hb hc hf hr
          obtain ⟨r34, -⟩ := hr
          have e34 : ρ (.tmp 34) = .int .i64 (pp : Int) := r34
          clear r34
          refine under_none rfl ?_
          exact soft_bin e34 (hc _) rfl rfl (quo8 W pp (by omega))
        case s10 =>
          intro ρ W hb hc hf hr
          obtain ⟨r31, r35, -⟩ := hr
          have e31 : ρ (.tmp 31) = .slice (some ⟨gb, 0, none⟩) 64 capb := r31
          clear r31
          have e35 : ρ (.tmp 35) = .int .i64 ((pp / 8 : Nat) : Int) := r35
          clear r35
          refine under_none rfl ?_
          exact soft_index e31 e35 (run_idxU0 W gb 64 capb (pp / 8) (by omega)) rfl
        case s11 =>
          intro ρ W hb hc hf hr
          obtain ⟨r36, -⟩ := hr
          have e36 : ρ (.tmp 36) = .pointer (some ⟨gb, pp / 8, none⟩) := r36
          clear r36
          refine under_none rfl ?_
          exact soft_load e36 (HL.out W (hbd.trans (hb.mono (by simp)))) rfl
        case s12 =>
          intro ρ W hb hc hf hr
          obtain ⟨r1, -⟩ := hr
          have e1 : ρ (.tmp 1) = .int .i64 (aa : Int) := r1
          clear r1
          refine under_none rfl ?_
          exact ⟨e1, Below.refl _ _⟩
        case s13 =>
          intro ρ W hb hc hf hr
          obtain ⟨r8, -⟩ := hr
          have e8 : ρ (.tmp 8) = .int .i64 (k : Int) := r8
          clear r8
          refine under_none rfl ?_
          exact ⟨e8, Below.refl _ _⟩
        case s14 =>
          intro ρ W hb hc hf hr
          obtain ⟨r38, r39, -⟩ := hr
          have e38 : ρ (.tmp 38) = .int .i64 (aa : Int) := r38
          clear r38
          have e39 : ρ (.tmp 39) = .int .i64 (k : Int) := r39
          clear r39
          refine under_none rfl ?_
          exact soft_bin e38 e39 rfl rfl (HAD.out W)
        case s15 =>
          intro ρ W hb hc hf hr
          obtain ⟨r40, -⟩ := hr
          have e40 : ρ (.tmp 40) = .int .i64 (pp : Int) := r40
          clear r40
          refine under_none rfl ?_
          exact soft_bin e40 (hc _) rfl rfl (rem8 W pp (by omega))
        case s16 =>
          intro ρ W hb hc hf hr
          obtain ⟨r41, -⟩ := hr
          have e41 : ρ (.tmp 41) = .int .i64 ((pp % 8 : Nat) : Int) := r41
          clear r41
          refine under_none rfl ?_
          exact soft_bin (hc _) e41 rfl rfl (shl8 W 1 (pp % 8) (by omega) (by omega))
        case s17 =>
          intro ρ W hb hc hf hr
          obtain ⟨r37, r42, -⟩ := hr
          have e37 : ρ (.tmp 37) = .int .u8 (c.toNat : Int) := r37
          clear r37
          have e42 : ρ (.tmp 42) = .int .u8 ((1 * 2 ^ (pp % 8) : Nat) : Int) := r42
          clear r42
          refine under_none rfl ?_
          exact soft_bin e37 e42 rfl rfl (xor8 W c 1 (pp % 8) (by omega) (by omega))
        case s18 =>
          intro ρ W hb hc hf hr
          obtain ⟨r26, r30, -⟩ := hr
          have e26 : ρ (.tmp 26) = .slice (some ⟨gb, 0, none⟩) 64 capb := r26
          clear r26
          have e30 : ρ (.tmp 30) = .int .i64 ((pp / 8 : Nat) : Int) := r30
          clear r30
          refine under_none rfl ?_
          exact soft_index e26 e30 (run_idxU0 W gb 64 capb (pp / 8) (by omega)) rfl
        case late =>
          intro p j o hj ho a W hsz h0 h1 hfr hou
          match p, hj with
          | 0, hj =>
            obtain rfl : 19 = j := Option.some.inj hj
            obtain rfl := Option.some.inj ho
            clear hj ho
            obtain ⟨hb, hhard⟩ := h0 rfl
            have e44 : a.eval (.tmp 44) = .pointer (some ⟨gb, pp / 8, none⟩) := hhard 44 18 rfl rfl
            have e43 : a.eval (.tmp 43) = .int .u8 ((turned1 c 1 (pp % 8)).toNat : Int) := hhard 43 17 rfl rfl
            clear h0 h1 hhard hfr hou
            have hW := hbd.trans (hb.mono (by simp))
            refine late_store (x := .tmp 44) (y := .tmp 43) (w' := W.setCell ⟨gb, pp / 8, none⟩ (.int .u8 ((turned1 c 1 (pp % 8)).toNat : Int))) rfl (by rw [e44, e43]; exact run_storeU8 W _ _ _ ((HBT.out.kept (Kept.of hW []) (by simp)).cell (pp / 8) HJ.out) ((HBT.out.kept (Kept.of hW []) (by simp)).frozen (pp / 8) HJ.out)) ⟨undef, rfl, W, hW, rfl⟩
          | q + 1, hj => cases hj
        case fin =>
          intro a w5 ha hP
          obtain ⟨W, hW, rfl⟩ := hP
          have HBQ := Lib.hid ((HBT.out.kept (Kept.of hW []) (by simp)).set (pp / 8) HJ.out (turned1 c 1 (pp % 8)))
          have HKW := Lib.hid (show Kept [gb] wr (W.setCell ⟨gb, pp / 8, none⟩ (.int .u8 ((turned1 c 1 (pp % 8)).toNat : Int))) from (Kept.of hW _).setCell (by simp) _)
          clear hW HL
          simp only [List.foldl_cons, List.foldl_nil] at ha
          generalize a.tmps.getD 26 undef = v26 at ha
          generalize a.tmps.getD 27 undef = v27 at ha
          generalize a.tmps.getD 28 undef = v28 at ha
          generalize a.tmps.getD 29 undef = v29 at ha
          generalize a.tmps.getD 30 undef = v30 at ha
          generalize a.tmps.getD 31 undef = v31 at ha
          generalize a.tmps.getD 32 undef = v32 at ha
          generalize a.tmps.getD 33 undef = v33 at ha
          generalize a.tmps.getD 34 undef = v34 at ha
          generalize a.tmps.getD 35 undef = v35 at ha
          generalize a.tmps.getD 36 undef = v36 at ha
          generalize a.tmps.getD 37 undef = v37 at ha
          generalize a.tmps.getD 38 undef = v38 at ha
          generalize a.tmps.getD 39 undef = v39 at ha
          generalize a.tmps.getD 40 undef = v40 at ha
          generalize a.tmps.getD 41 undef = v41 at ha
          generalize a.tmps.getD 42 undef = v42 at ha
          generalize a.tmps.getD 43 undef = v43 at ha
          generalize a.tmps.getD 44 undef = v44 at ha
          simp only [Act.put, List.setIfInBounds_toArray, List.set_cons_succ, List.set_cons_zero] at ha
          subst ha
          go_wp2
          go_roundw
          case rel => exact ⟨k + 1, by go_num, by omega, .inr (by omega), by rw [HTS2.out]; exact HBQ.out, HKW.out.belowB HB.out zr (by simp; have := HGB.out; omega)⟩
          case measure => simp [RowKit.intOf]; omega
      · have t3 : (((bits : Int) / 2 ^ k).tmod 2 == 1) = false := by rw [hbe]; simp; omega
        have HTS2 := Lib.hid (show Plain.tr s aa bits (k + 1) = Plain.tr s aa bits k by rw [HTS.out, if_neg fun h => hb1 h.2])
        clear hx hbe
        go_wp2
        go_roundw
        case rel => exact ⟨k + 1, by go_num, by omega, .inr (by omega), by rw [HTS2.out]; exact HBT.out, HB.out⟩
        case measure => simp [RowKit.intOf]; omega
    · have HTE := Lib.hid (show Plain.tr s aa bits k = Plain.turn s aa bits by
        rw [HT.out]
        by_cases e : k = 32
        · rw [e]
        · exact Plain.tr_all s aa bits k hbits (.inr (by omega)))
      have hcv2 := conv_lies (c := capb) HBT.out.lies (HSL.out k)
      rw [HTE.out] at hcv2
      by_cases hk32 : k < 32
      · have t1 : decide ((k : Int) < 32) = true := decide_eq_true (by omega)
        have t2 : decide ((aa : Int) + (k : Int) < 512) = false := decide_eq_false (by omega)
        go_wp2
        go_returns
        exact ⟨rfl, HB.out⟩
      · have t1 : decide ((k : Int) < 32) = false := decide_eq_false (by omega)
        go_wp2
        go_returns
        exact ⟨rfl, HB.out⟩
end Go.Proofs.YtehnhjnkbclnlaaGreatDoor

