/-
  Layer 7's given answer: New. Nothing is assumed.
-/
import Derived.Test.YtehnhjnkbclnlaaGreatDoorRfA
import Derived.BigRegion
import Derived.Deep.CutRange

namespace Go.Proofs.YtehnhjnkbclnlaaGreatDoor
open Go.ChangeShapes Go.WideShapes Go.ChangeAt Go.RowKit
set_option maxRecDepth 100000

theorem infoStr7 : (Tryz.prog.info? 9).map (fun i => (i.zero, i.size, i.bytes)) = some (some (.string .empty), 1, 16) := by kernel_rfl
theorem infoBool7 : (Tryz.prog.info? 4).map (fun i => (i.zero, i.size, i.bytes)) = some (some (.bool false), 1, 1) := by kernel_rfl
theorem rnew_no (n : Int) (w : World) (h : n < 1 ∨ 4096 < n) : Calls Tryz.prog 7 #[.int .i64 n] w fun e w' => e = .returned (.pointer none) ∧ w = w' := by
  go_enter Tryz.func7, Tryz.ntmps7
  by_cases h1 : n < 1
  · have t1 : decide (n < 1) = true := decide_eq_true h1
    go_wp2
    go_returns
    exact ⟨rfl, rfl⟩
  · have t1 : decide (n < 1) = false := decide_eq_false h1
    have t2 : decide ((4096 : Int) < n) = true := decide_eq_true (by omega)
    go_wp2
    go_returns
    exact ⟨rfl, rfl⟩
theorem make_str (W : World) (n : Nat) (hn : n ≤ 4096) : (Instr.makeSlice 61 (.int .i64 (n : Int)) (.int .i64 (n : Int))).run Tryz.prog W = .ok (.slice (some ⟨W.heap.size, 0, none⟩) n n) (W.alloc (.cells (madeCells #[.string .empty] n) 9)) := by
  obtain ⟨i0, hi, hz0, hz1, hz2⟩ := info_parts infoStr7
  have := run_make (P := Tryz.prog) W 61 9 i0 _ Tryz.underlying61 hi hz0 .i64 .i64 (n : Int) (n : Int) (by omega) (by omega) (by rw [hz2]; omega) (by omega)
  simp only [Int.toNat_natCast, hz1] at this
  rw [Nat.mul_one] at this
  exact this
theorem make_bool (W : World) (n : Nat) (hn : n ≤ 4096) : (Instr.makeSlice 33 (.int .i64 (n : Int)) (.int .i64 (n : Int))).run Tryz.prog W = .ok (.slice (some ⟨W.heap.size, 0, none⟩) n n) (W.alloc (.cells (madeCells #[.bool false] n) 4)) := by
  obtain ⟨i0, hi, hz0, hz1, hz2⟩ := info_parts infoBool7
  have := run_make (P := Tryz.prog) W 33 4 i0 _ Tryz.underlying33 hi hz0 .i64 .i64 (n : Int) (n : Int) (by omega) (by omega) (by rw [hz2]; omega) (by omega)
  simp only [Int.toNat_natCast, hz1] at this
  rw [Nat.mul_one] at this
  exact this
theorem made_at (z : Value) (n i : Nat) (hi : i < n) : (madeCells #[z] n)[i]? = some z := by
  rw [← Array.getElem?_toList, toList_madeCells_one, List.getElem?_replicate]
  simp [hi]
theorem run_make64 (W : World) : (Instr.makeSlice 32 (.int .i64 64) (.int .i64 64)).run Tryz.prog W = .ok (.slice (some ⟨W.heap.size, 0, none⟩) 64 64) (W.alloc (.cells (madeCells #[.int .u8 0] 64) 5)) := by
  obtain ⟨i0, hi, hz0, hz1, hz2⟩ := info_parts infoU8
  have := run_make (P := Tryz.prog) W 32 5 i0 _ Tryz.underlying32 hi hz0 .i64 .i64 64 64 (by omega) (by omega) (by rw [hz2]; omega) (by omega)
  simp only [hz1] at this
  exact this
theorem made64 : madeCells #[.int .u8 0] 64 = (cells (Plain.full 0)).toArray := by
  apply Array.toList_inj.1
  rw [toList_madeCells_one]
  simp [cells, Plain.full]
theorem soft_make64 {w : World} {ρ : Operand → Value} {o : Oper} (hc : ∀ v, ρ (.const v) = v) (ho : o.op = .makeSlice 32 (.const (.int .i64 64)) (.const (.int .i64 64))) : softUpon Tryz.prog w (Fact.fl 0) ((execOp ρ o).run Tryz.prog w) := by
  have e : (execOp ρ o).run Tryz.prog w = .ok (.value (.slice (some ⟨w.heap.size, 0, none⟩) 64 64)) (w.alloc (.cells (madeCells #[.int .u8 0] 64) 5)) := by
    simp [execOp, ho, hc, run_make64]
  rw [e]
  exact ⟨⟨_, rfl, by rw [← made64]; exact Blk.new w _ _⟩, (Below.refl _ _).alloc (Nat.le_refl _) _⟩
theorem soft_flS {w : World} {ρ : Operand → Value} {o : Oper} {x : Operand} {c : UInt8} (hx : (Fact.fl c).φ (ρ x) w) (ho : o.op = .convert 32 9 x) : softUpon Tryz.prog w (Fact.is (.string (str (Plain.full c)))) ((execOp ρ o).run Tryz.prog w) := by
  obtain ⟨b, e, hb⟩ := hx
  have hl := hb.lies
  rw [List.toList_toArray] at hl
  exact soft_conv e (conv_lies hl (Plain.full_length c)) ho
theorem keep1 (W : World) (o : Obj) (i : Nat) (h : i < W.heap.size) : (W.alloc o).heap[i]? = W.heap[i]? := ((Below.refl W.heap.size W).alloc (Nat.le_refl _) o).block i h
theorem four (w : World) (a b c d : Obj) : ((((w.alloc a).alloc b).alloc c).alloc d).heap[w.heap.size]? = some a ∧ ((((w.alloc a).alloc b).alloc c).alloc d).heap[w.heap.size + 1]? = some b ∧ ((((w.alloc a).alloc b).alloc c).alloc d).heap[w.heap.size + 1 + 1]? = some c ∧ ((((w.alloc a).alloc b).alloc c).alloc d).heap[w.heap.size + 1 + 1 + 1]? = some d ∧ Below w.heap.size w ((((w.alloc a).alloc b).alloc c).alloc d) := by
  have s1 : (w.alloc a).heap.size = w.heap.size + 1 := by simp
  have s2 : ((w.alloc a).alloc b).heap.size = w.heap.size + 1 + 1 := by simp
  have s3 : (((w.alloc a).alloc b).alloc c).heap.size = w.heap.size + 1 + 1 + 1 := by simp
  refine ⟨?_, ?_, ?_, ?_, ?_⟩
  · rw [keep1 _ d _ (by omega), keep1 _ c _ (by omega), keep1 _ b _ (by omega)]
    exact heap_alloc_new w a
  · rw [keep1 _ d _ (by omega), keep1 _ c _ (by omega), ← s1]
    exact heap_alloc_new _ b
  · rw [keep1 _ d _ (by omega), ← s2]
    exact heap_alloc_new _ c
  · rw [← s3]
    exact heap_alloc_new _ d
  · exact ((((Below.refl w.heap.size w).alloc (Nat.le_refl _) _).alloc (by simp) _).alloc (by simp; omega) _).alloc (by simp; omega) _
/-- what New made, its rows still empty -/
structure Made7 (w w' : World) (CS CB : Array Value) (n bk bw bl g : Nat) : Prop where
  hk : Blk w' bk CS 9
  hw : Blk w' bw CS 9
  hl : Blk w' bl CB 4
  hx : Blk w' g #[.slice (some ⟨bk, 0, none⟩) n n, .slice (some ⟨bw, 0, none⟩) n n, .slice (some ⟨bl, 0, none⟩) n n, .bool false, .int .i64 0, .int .i64 0, .bool false] 63
  apart : bk ≠ bw ∧ bk ≠ bl ∧ bw ≠ bl ∧ bk ≠ g ∧ bw ≠ g ∧ bl ≠ g
  own : w.heap.size ≤ bk ∧ w.heap.size ≤ bw ∧ w.heap.size ≤ bl ∧ w.heap.size ≤ g
  below : Below w.heap.size w w'
set_option maxHeartbeats 1000000 in
theorem rnew_yes (n : Nat) (w : World) (h1 : 1 ≤ n) (h2 : n ≤ 4096) : Calls Tryz.prog 7 #[.int .i64 (n : Int)] w fun e w' => ∃ bk bw bl g, e = .returned (.pointer (some ⟨g, 0, none⟩)) ∧ IsRef w' bk bw bl g (Plain.Dv.new n) ∧ Below w.heap.size w w' ∧ w.heap.size ≤ bk ∧ w.heap.size ≤ bw ∧ w.heap.size ≤ bl ∧ w.heap.size ≤ g := by
  have t1 : decide ((n : Int) < 1) = false := decide_eq_false (by omega)
  have t2 : decide ((4096 : Int) < (n : Int)) = false := decide_eq_false (by omega)
  have hms := fun W => make_str W n h2
  have hmb := fun W => make_bool W n h2
  obtain ⟨CS, hCS⟩ : ∃ C, madeCells #[.string .empty] n = C := ⟨_, rfl⟩
  obtain ⟨CB, hCB⟩ : ∃ C, madeCells #[.bool false] n = C := ⟨_, rfl⟩
  simp only [hCS] at hms
  simp only [hCB] at hmb
  have HCS := Lib.hid hCS
  have HCB := Lib.hid hCB
  clear hCS hCB
  go_enter Tryz.func7, Tryz.ntmps7
  go_wp2
  go_cut [3] from 11 to 18 (fun s wc => ∃ bk bw bl g, s = .pointer (some ⟨g, 0, none⟩) ∧ Made7 w wc CS CB n bk bw bl g)
  case first =>
    go_region
    all_goals
      go_wp2_with fail
      go_meet
      first
        | (have f := four w (.cells CS 9) (.cells CS 9) (.cells CB 4) (.cells #[.slice (some ⟨w.heap.size, 0, none⟩) n n, .slice (some ⟨w.heap.size + 1, 0, none⟩) n n, .slice (some ⟨w.heap.size + 1 + 1, 0, none⟩) n n, .bool false, .int .i64 0, .int .i64 0, .bool false] 63); exact ⟨w.heap.size, (w.heap.size + 1), (w.heap.size + 1 + 1), w.heap.size + 1 + 1 + 1, rfl, f.1, f.2.1, f.2.2.1, f.2.2.2.1, by omega, by omega, f.2.2.2.2.drew⟩)
        | (have f := four w (.cells CS 9) (.cells CB 4) (.cells CS 9) (.cells #[.slice (some ⟨w.heap.size, 0, none⟩) n n, .slice (some ⟨w.heap.size + 1 + 1, 0, none⟩) n n, .slice (some ⟨w.heap.size + 1, 0, none⟩) n n, .bool false, .int .i64 0, .int .i64 0, .bool false] 63); exact ⟨w.heap.size, (w.heap.size + 1 + 1), (w.heap.size + 1), w.heap.size + 1 + 1 + 1, rfl, f.1, f.2.2.1, f.2.1, f.2.2.2.1, by omega, by omega, f.2.2.2.2.drew⟩)
        | (have f := four w (.cells CS 9) (.cells CS 9) (.cells CB 4) (.cells #[.slice (some ⟨w.heap.size + 1, 0, none⟩) n n, .slice (some ⟨w.heap.size, 0, none⟩) n n, .slice (some ⟨w.heap.size + 1 + 1, 0, none⟩) n n, .bool false, .int .i64 0, .int .i64 0, .bool false] 63); exact ⟨(w.heap.size + 1), w.heap.size, (w.heap.size + 1 + 1), w.heap.size + 1 + 1 + 1, rfl, f.2.1, f.1, f.2.2.1, f.2.2.2.1, by omega, by omega, f.2.2.2.2.drew⟩)
        | (have f := four w (.cells CB 4) (.cells CS 9) (.cells CS 9) (.cells #[.slice (some ⟨w.heap.size + 1, 0, none⟩) n n, .slice (some ⟨w.heap.size + 1 + 1, 0, none⟩) n n, .slice (some ⟨w.heap.size, 0, none⟩) n n, .bool false, .int .i64 0, .int .i64 0, .bool false] 63); exact ⟨(w.heap.size + 1), (w.heap.size + 1 + 1), w.heap.size, w.heap.size + 1 + 1 + 1, rfl, f.2.1, f.2.2.1, f.1, f.2.2.2.1, by omega, by omega, f.2.2.2.2.drew⟩)
        | (have f := four w (.cells CS 9) (.cells CB 4) (.cells CS 9) (.cells #[.slice (some ⟨w.heap.size + 1 + 1, 0, none⟩) n n, .slice (some ⟨w.heap.size, 0, none⟩) n n, .slice (some ⟨w.heap.size + 1, 0, none⟩) n n, .bool false, .int .i64 0, .int .i64 0, .bool false] 63); exact ⟨(w.heap.size + 1 + 1), w.heap.size, (w.heap.size + 1), w.heap.size + 1 + 1 + 1, rfl, f.2.2.1, f.1, f.2.1, f.2.2.2.1, by omega, by omega, f.2.2.2.2.drew⟩)
        | (have f := four w (.cells CB 4) (.cells CS 9) (.cells CS 9) (.cells #[.slice (some ⟨w.heap.size + 1 + 1, 0, none⟩) n n, .slice (some ⟨w.heap.size + 1, 0, none⟩) n n, .slice (some ⟨w.heap.size, 0, none⟩) n n, .bool false, .int .i64 0, .int .i64 0, .bool false] 63); exact ⟨(w.heap.size + 1 + 1), (w.heap.size + 1), w.heap.size, w.heap.size + 1 + 1 + 1, rfl, f.2.2.1, f.2.1, f.1, f.2.2.2.1, by omega, by omega, f.2.2.2.2.drew⟩)
  case rest =>
    obtain ⟨bk, bw, bl, g, rfl, hm⟩ := hcut
    have HM := Lib.hid hm
    have HK0 := Lib.hid (show ∃ La : Nat → ByteArray, RowN wc bk 9 n (fun i => .string (La i)) ∧ ∀ i, i < 0 → La i = str (Plain.full 0) from ⟨fun _ => .empty, ⟨CS, hm.hk, by rw [← HCS.out]; simp [size_madeCells], fun i hi => by rw [← HCS.out]; exact made_at _ _ _ hi⟩, fun i hi => absurd hi (by omega)⟩)
    have HW0 := Lib.hid (show RowN wc bw 9 n (fun _ => .string .empty) from ⟨CS, hm.hw, by rw [← HCS.out]; simp [size_madeCells], fun i hi => by rw [← HCS.out]; exact made_at _ _ _ hi⟩)
    have HL0 := Lib.hid (show RowN wc bl 4 n (fun _ => .bool false) from ⟨CB, hm.hl, by rw [← HCB.out]; simp [size_madeCells], fun i hi => by rw [← HCB.out]; exact made_at _ _ _ hi⟩)
    have HX0 := Lib.hid hm.hx
    have HB0 := Lib.hid hm.below
    have hp := hm.apart
    have hown := hm.own
    clear hms hmb hm HCS HCB
    go_wp2
    go_loopw [4] (fun s wr => ∃ k : Nat, s = .int .i64 (k : Int) ∧ k ≤ n ∧ Blk wr g #[.slice (some ⟨bk, 0, none⟩) n n, .slice (some ⟨bw, 0, none⟩) n n, .slice (some ⟨bl, 0, none⟩) n n, .bool false, .int .i64 0, .int .i64 0, .bool false] 63 ∧ (∃ La : Nat → ByteArray, RowN wr bk 9 n (fun i => .string (La i)) ∧ ∀ i, i < k → La i = str (Plain.full 0)) ∧ RowN wr bw 9 n (fun _ => .string .empty) ∧ RowN wr bl 4 n (fun _ => .bool false) ∧ Below w.heap.size w wr) (fun s _ => n - (RowKit.intOf s).toNat)
    case atStart => exact ⟨0, rfl, Nat.zero_le _, HX0.out, HK0.out, HW0.out, HL0.out, HB0.out⟩
    case round =>
      clear HX0 HK0 HW0 HL0 HB0
      obtain ⟨k, rfl, hk, hx, ⟨La, hkr, hla⟩, hw, hl, hB⟩ := hrel
      have HX := Lib.hid hx
      have HKR := Lib.hid hkr
      have HLA := Lib.hid hla
      have HW := Lib.hid hw
      have HL := Lib.hid hl
      have HB := Lib.hid hB
      have zr := hB.size
      have zg := hx.lt
      have c0 : wr.cell? ⟨g, 0, none⟩ = some (.slice (some ⟨bk, 0, none⟩) n n) := hx.cell 0
      clear hx hkr hla hw hl hB
      by_cases hkn : k < n
      · have HC0 := Lib.hid (fun (W : World) (hW : Below wr.heap.size wr W) => run_loadSl W ⟨g, 0, none⟩ _ ((hW.cell (p := ⟨g, 0, none⟩) zg).trans c0))
        have hbd : Below wr.heap.size wr wr.drew := (Below.refl _ _).drew
        go_wp2
        refine wp_late (by kernel_rfl) 33 [(24, [3]), (25, [24]), (26, [25]), (27, [26]), (28, [4]), (29, []), (30, [29]), (31, [27, 28]), (1008, [31, 30])]
          [Fact.is (.pointer (some ⟨g, 0, none⟩)), Fact.is (.pointer (some ⟨g, 0, none⟩)), Fact.is (.pointer (some ⟨g, 0, none⟩)), Fact.is (.slice (some ⟨bk, 0, none⟩) n n), Fact.is (.int .i64 (k : Int)), Fact.fl 0, Fact.is (.string (str (Plain.full 0))), Fact.is (.pointer (some ⟨bk, k, none⟩)), default]
          [1, 1, 1, 1, 1, 1, 1, 1, 2] [8] [] [24, 25, 26, 27, 28, 29, 30, 31] ((fun _ _ w' => ∃ W, Below wr.heap.size wr W ∧ w' = W.setCell ⟨bk, k, none⟩ (.string (str (Plain.full 0)))))
          (by kernel_rfl) (by kernel_rfl) rfl rfl ⟨?s0, ?s1, ?s2, ?s3, ?s4, ?s5, ?s6, ?s7, trivial⟩ ?late ?fin
        case s0 =>
          intro ρ W hb hc hf hr
          obtain ⟨r3, -⟩ := hr
          have e3 : ρ (.tmp 3) = .pointer (some ⟨g, 0, none⟩) := r3
          clear r3
          refine under_none rfl ?_
          exact ⟨e3, Below.refl _ _⟩
        case s1 =>
          intro ρ W hb hc hf hr
          obtain ⟨r24, -⟩ := hr
          have e24 : ρ (.tmp 24) = .pointer (some ⟨g, 0, none⟩) := r24
          clear r24
          refine under_none rfl ?_
          simp [execOp, e24, go_sem, softUpon, Fact.is, Below.refl]
        case s2 =>
          intro ρ W hb hc hf hr
          obtain ⟨r25, -⟩ := hr
          have e25 : ρ (.tmp 25) = .pointer (some ⟨g, 0, none⟩) := r25
          clear r25
          refine under_none rfl ?_
          exact soft_field e25 rfl (fun W => by go_simp)
        case s3 =>
          intro ρ W hb hc hf hr
          obtain ⟨r26, -⟩ := hr
          have e26 : ρ (.tmp 26) = .pointer (some ⟨g, 0, none⟩) := r26
          clear r26
          refine under_none rfl ?_
          exact soft_load e26 (HC0.out W (hbd.trans (hb.mono (by simp)))) rfl
        case s4 =>
          intro ρ W hb hc hf hr
          obtain ⟨r4, -⟩ := hr
          have e4 : ρ (.tmp 4) = .int .i64 (k : Int) := r4
          clear r4
          refine under_none rfl ?_
          exact ⟨e4, Below.refl _ _⟩
        case s5 =>
          intro ρ W hb hc hf hr
          clear hr
          refine under_none rfl ?_
          exact soft_make64 hc rfl
        case s6 =>
          intro ρ W hb hc hf hr
          obtain ⟨r29, -⟩ := hr
          refine under_none rfl ?_
          exact soft_flS r29 rfl
        case s7 =>
          intro ρ W hb hc hf hr
          obtain ⟨r27, r28, -⟩ := hr
          have e27 : ρ (.tmp 27) = .slice (some ⟨bk, 0, none⟩) n n := r27
          clear r27
          have e28 : ρ (.tmp 28) = .int .i64 (k : Int) := r28
          clear r28
          refine under_none rfl ?_
          exact soft_index e27 e28 (run_idxS W bk n n k hkn) rfl
        case late =>
          intro p j o hj ho a W hsz h0 h1 hfr hou
          match p, hj with
          | 0, hj =>
            obtain rfl : 8 = j := Option.some.inj hj
            obtain rfl := Option.some.inj ho
            clear hj ho
            obtain ⟨hb, hhard⟩ := h0 rfl
            have e31 : a.eval (.tmp 31) = .pointer (some ⟨bk, k, none⟩) := hhard 31 7 rfl rfl
            have e30 : a.eval (.tmp 30) = .string (str (Plain.full 0)) := hhard 30 6 rfl rfl
            clear h0 h1 hhard hfr hou
            have hW := hbd.trans (hb.mono (by simp))
            refine late_store (x := .tmp 31) (y := .tmp 30) (w' := W.setCell ⟨bk, k, none⟩ (.string (str (Plain.full 0)))) rfl (by rw [e31, e30]; exact run_storeS W _ _ _ ((HKR.out.kept (Kept.of hW []) (by simp)).cell hkn) ((HKR.out.kept (Kept.of hW []) (by simp)).frozen k)) ⟨undef, rfl, W, hW, rfl⟩
          | q + 1, hj => cases hj
        case fin =>
          intro a w5 ha hP
          obtain ⟨W, hW, rfl⟩ := hP
          have k1 : Kept [bk] wr (W.setCell ⟨bk, k, none⟩ (.string (str (Plain.full 0)))) := (Kept.of hW _).setCell (by simp) _
          have HKQ := Lib.hid ((HKR.out.kept (Kept.of hW []) (by simp)).set hkn (.string (str (Plain.full 0))))
          obtain ⟨w5, hw5⟩ : ∃ w5, W.setCell ⟨bk, k, none⟩ (.string (str (Plain.full 0))) = w5 := ⟨_, rfl⟩
          rw [hw5] at k1 HKQ ⊢
          have HK1 := Lib.hid k1
          clear k1 hw5 hW HC0 c0
          simp only [List.foldl_cons, List.foldl_nil] at ha
          generalize a.tmps.getD 24 undef = v24 at ha
          generalize a.tmps.getD 25 undef = v25 at ha
          generalize a.tmps.getD 26 undef = v26 at ha
          generalize a.tmps.getD 27 undef = v27 at ha
          generalize a.tmps.getD 28 undef = v28 at ha
          generalize a.tmps.getD 29 undef = v29 at ha
          generalize a.tmps.getD 30 undef = v30 at ha
          generalize a.tmps.getD 31 undef = v31 at ha
          simp only [Act.put, List.setIfInBounds_toArray, List.set_cons_succ, List.set_cons_zero] at ha
          subst ha
          go_wp2
          go_roundw
          case rel =>
            have k1 := HK1.out
            refine ⟨k + 1, by go_num, by omega, k1.blk HX.out (by simp; exact fun h => hp.2.2.2.1 h.symm), ⟨fun i => if i = k then str (Plain.full 0) else La i, HKQ.out.congr fun i _ => by by_cases e : i = k <;> simp [Plain.upd, e], fun i hi => ?_⟩, HW.out.kept k1 (by simp; exact fun h => hp.1 h.symm), HL.out.kept k1 (by simp; exact fun h => hp.2.1 h.symm), k1.belowB HB.out zr (by simp; exact hown.1)⟩
            show (if i = k then str (Plain.full 0) else La i) = _
            by_cases e : i = k
            · rw [if_pos e]
            · rw [if_neg e]; exact HLA.out i (by omega)
          case measure => simp [RowKit.intOf]; omega
      · obtain rfl : n = k := by omega
        go_wp2
        go_returns
        refine ⟨bk, bw, bl, g, rfl, ⟨Plain.Dv.new_ok n h1 h2, HX.out, HKR.out.congr fun i hi => by rw [HLA.out i hi]; rfl, ⟨fun _ => .empty, HW.out, fun i s hs => by cases hs⟩, HL.out, hp⟩, HB.out, hown⟩
end Go.Proofs.YtehnhjnkbclnlaaGreatDoor

