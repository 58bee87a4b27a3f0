/-
  Layer 9, the document's answer: its Get: what it answers, of any bytes. Assumed: that the bytes lie in memory.
-/
import Derived.Test.YtehnhjnkbclnlaaGreatDoorRp9
import Derived.Test.YtehnhjnkbclnlaaGreatDoorL9S

namespace Go.Proofs.YtehnhjnkbclnlaaGreatDoor
open Go.ChangeShapes Go.WideShapes Go.ChangeAt Go.RowKit
set_option maxRecDepth 100000

theorem late_put {P : Program} {W w' : World} {a : Act} {o : Oper} {x y : Operand} {t : TypeId} {K : Act → World → Prop} {Q : Exit → Act → World → Prop} (ho : o.op = .store t x y) (hr : (Instr.storeAt t (a.eval x) (a.eval y)).run P W = .ok () w') (hK : K (a.put o.dst undef) w') : o.wp P a W K Q := by
  unfold Oper.wp
  simp [execOp, ho, hr, Result.andThen]
  exact hK
theorem late_val {P : Program} {W : World} {a : Act} {o : Oper} {v : Value} {K : Act → World → Prop} {Q : Exit → Act → World → Prop} (hr : (execOp a.eval o).run P W = .ok (.value v) W) (hK : K (a.put o.dst v) W) : o.wp P a W K Q := by
  unfold Oper.wp
  rw [hr]
  exact hK
theorem outer_dst {ops : Array Oper} {late : List Nat} {t p : Nat} (h : (late.all fun j => ((ops[j]?).map fun o => !(o.dst == some t)).getD true) = true) : ∀ (q j : Nat) (o : Oper), late[q]? = some j → ops[j]? = some o → o.dst = some t → p ≤ q := by
  intro q j o h1 h2 h3
  have h4 := List.all_eq_true.1 h j (List.mem_of_getElem? h1)
  rw [h2] at h4
  simp [h3] at h4
theorem soft_sliceM {P : Program} {w : World} {ρ : Operand → Value} {o : Oper} {x y z : Operand} {t : TypeId} {vx vy vz u : Value} (hx : ρ x = vx) (hy : ρ y = vy) (hz : ρ z = vz) (hr : (Instr.sliceAt t vx (some vy) (some vz) none).run P w = .ok u w) (ho : o.op = .slice t x (some y) (some z) none) : softUpon P w (Fact.is u) ((execOp ρ o).run P w) := by
  have e : (execOp ρ o).run P w = .ok (.value u) w := by
    simp [execOp, ho, hx, hy, hz, hr]
  rw [e]
  exact ⟨rfl, Below.refl _ _⟩
theorem slice_mid (W : World) (bb bo m cap k j : Nat) (h : k + j ≤ cap) (hk : k < cap) : (Instr.sliceAt 32 (.slice (some ⟨bb, bo, none⟩) m cap) (some (.int .i64 (k : Int))) (some (.int .i64 ((k + j : Nat) : Int))) none).run Tryz.prog W = .ok (.slice (some ⟨bb, bo + k, none⟩) j (cap - k)) W := by
  obtain ⟨i, hi, hsz⟩ := Option.map_eq_some_iff.1 sizeU8
  have h1 : ¬ cap = k := by omega
  have h2 : (k : Int) ≤ ((k + j : Nat) : Int) := by omega
  have h3 : k ≤ k + j := by omega
  have h4 : ((k : Int) + (j : Int)).toNat = k + j := by omega
  have h5 : k + j - k = j := by omega
  have h6 : (0 : Int) ≤ (k : Int) + (j : Int) := by omega
  have h8 : (k : Int) + (j : Int) ≤ (cap : Int) := by omega
  simp [Instr.sliceAt, Instr.slice, run_underlying Tryz.underlying32, Instr.sliceBounds, Instr.sliceBound, asIntOf, sizeOf, typeInfo, hi, hsz, h1, h3, h4, h5, h6, h8, Addr.add]
theorem lies_mid {W : World} {bb bo : Nat} {s : List UInt8} (hr : W.rangeAt bb bo (cells s)) (hbb : bb < W.heap.size) (k j : Nat) : Lies W (some ⟨bb, bo + k, none⟩) (cells ((s.drop k).take j)) := by
  rw [← cells_take]
  refine Lies.take (.inr ⟨_, rfl, hbb, fun t u hu => ?_⟩) j
  rw [Addr.add_mid]
  have := hr (k + t) u (by rw [← cells_drop, List.getElem?_drop] at hu; exact hu)
  rwa [← Nat.add_assoc] at this
theorem byte9 {W : World} {bb bo : Nat} {s : List UInt8} (hr : W.rangeAt bb bo (cells s)) (k : Nat) (hk : k < s.length) : W.cell? ⟨bb, bo + k, none⟩ = some (.int .u8 ((s.getD k 0).toNat : Int)) := by
  refine hr k _ ?_
  rw [List.getElem?_eq_getElem (by rw [cells_length]; exact hk), cells_at s k hk, List.getD_eq_getElem?_getD, List.getElem?_eq_getElem hk]
  rfl
theorem told_parts (s : List UInt8) : Tb.told s = ⟨(Tb.num ((s.drop 1).take 4) : Int), ((s.getD 6 0).toNat : Int) - 1, (List.range (min (s.getD 5 0).toNat 8)).map fun i => ⟨(Tb.num ((s.drop (7 + 6 * i)).take 4) : Int), (Tb.num ((s.drop (11 + 6 * i)).take 2) : Int)⟩⟩ := by
  have e : ∀ k, (s.drop 1).getD k 0 = s.getD (1 + k) 0 := fun k => by
    rw [List.getD_eq_getElem?_getD, List.getD_eq_getElem?_getD, List.getElem?_drop]
  unfold Tb.told Tb.toldT
  rw [e, e, List.drop_drop]
  congr 1
  apply List.map_congr_left
  intro i _
  unfold Tb.extAt
  rw [List.drop_drop, List.drop_drop, show 1 + 6 + 6 * i = 7 + 6 * i by omega, show 1 + 6 + (6 * i + 4) = 11 + 6 * i by omega]
theorem own_formX {w : World} {base n : Nat} {v : Value} {xs : List Tb.Ext} (h : w.ownsRow base 81 2 v n (flatX xs)) : ∃ A c, v = .slice A n c ∧ n ≤ c ∧ Lies w A (flatX xs) := by
  rcases Nat.eq_zero_or_pos n with h0 | h0
  · subst h0
    have hl : flatX xs = [] := List.eq_nil_of_length_eq_zero (by have := h.1; omega)
    rw [hl]
    rcases h.2 with ⟨rfl, _⟩ | ⟨g, cap, cur, rfl, _, _, h3, _⟩
    · exact ⟨none, 0, rfl, Nat.le_refl _, Lies.nil⟩
    · exact ⟨_, cap, rfl, h3, Lies.nil⟩
  · obtain ⟨ga, c, e, -, hc, R⟩ := Row9.of h h0
    exact ⟨_, c, e, hc, R.lies⟩
theorem row_other {w : World} {B n size g j : Nat} {e : TypeId} {v u : Value} {xs : List Value} (h : w.ownsRow B e size v n xs) (hg : g < B) : (w.setCell ⟨g, j, none⟩ u).ownsRow B e size v n xs := by
  refine ⟨h.1, ?_⟩
  rcases h.2 with h | ⟨g', cap, cur, h1, h2, h3, h4⟩
  · exact .inl h
  · refine .inr ⟨g', cap, cur, h1, h2, ?_, h4⟩
    exact ((Kept.refl [g] w).setCell (p := ⟨g, j, none⟩) (by simp) u |>.block g' (Array.getElem?_eq_some_iff.1 h3).1 (by simp; omega)).trans h3
/-- a block that was just made -/
def Fact.blkAt (B : Nat) (cs : Array Value) (t : TypeId) : Fact := ⟨fun v w => ∃ g, v = .pointer (some ⟨g, 0, none⟩) ∧ B ≤ g ∧ Blk w g cs t, fun _ _ _ ⟨g, e, hB, h⟩ hb => ⟨g, e, hB, h.below hb (Nat.le_refl _)⟩⟩
theorem soft_allocT {w : World} {ρ : Operand → Value} {o : Oper} {B : Nat} (hB : B ≤ w.heap.size) (ho : o.op = .alloc 31) : softUpon Tryz.prog w (Fact.blkAt B #[.int .i64 0, .int .i64 0, .slice none 0 0] 31) ((execOp ρ o).run Tryz.prog w) := by
  have e : (execOp ρ o).run Tryz.prog w = .ok (.value (.pointer (some ⟨w.heap.size, 0, none⟩))) (w.alloc (.cells #[.int .i64 0, .int .i64 0, .slice none 0 0] 31)) := by
    simp [execOp, ho]
    go_simp
  rw [e]
  exact ⟨⟨_, rfl, hB, Blk.new _ _ _⟩, (Below.refl _ _).alloc (Nat.le_refl _) _⟩
theorem soft_builtT {w : World} {ρ : Operand → Value} {o : Oper} {x y : Operand} {g k : Int} (hx : ρ x = .int .i64 g) (hy : ρ y = .int .i64 k) (ho : o.op = .build 31 #[(0, x), (1, y)]) : softUpon Tryz.prog w (Fact.is (tabV g k none 0 0)) ((execOp ρ o).run Tryz.prog w) := by
  have e : (execOp ρ o).run Tryz.prog w = .ok (.value (tabV g k none 0 0)) w := by
    simp [execOp, ho, hx, hy]
    go_simp
  rw [e]
  exact ⟨rfl, Below.refl _ _⟩
theorem soft_builtX {w : World} {ρ : Operand → Value} {o : Oper} {x y : Operand} {q l : Int} (hx : ρ x = .int .i64 q) (hy : ρ y = .int .i64 l) (ho : o.op = .build 81 #[(0, x), (1, y)]) : softUpon Tryz.prog w (Fact.is (.agg #[.int .i64 q, .int .i64 l])) ((execOp ρ o).run Tryz.prog w) := by
  have e : (execOp ρ o).run Tryz.prog w = .ok (.value (.agg #[.int .i64 q, .int .i64 l])) w := by
    simp [execOp, ho, hx, hy]
    go_simp
  rw [e]
  exact ⟨rfl, Below.refl _ _⟩
theorem soft_oneX {w : World} {ρ : Operand → Value} {o : Oper} {y : Operand} {q l : Int} (hy : ρ y = .agg #[.int .i64 q, .int .i64 l]) (ho : o.op = .buildSlice 29 1 #[(0, y)]) : softUpon Tryz.prog w (Fact.lie 1 (flatX [⟨q, l⟩])) ((execOp ρ o).run Tryz.prog w) := by
  have hr : (execOp ρ o).run Tryz.prog w = .ok (.value (.slice (some ⟨w.heap.size, 0, none⟩) 1 1)) (w.alloc (.cells #[.int .i64 q, .int .i64 l] 81)) := by
    simp [execOp, ho, hy, go_sem]
  rw [hr]
  exact ⟨⟨_, _, rfl, Lies.new w #[.int .i64 q, .int .i64 l] 81⟩, (Below.refl _ _).alloc (Nat.le_refl _) _⟩
theorem run_storeT (W : World) (b : Nat) (g o : Int) (A : Option Addr) (n c : Nat) (u0 u1 u2 : Value) (h : Blk W b #[u0, u1, u2] 31) :
    (Instr.storeAt 31 (.pointer (some ⟨b, 0, none⟩)) (tabV g o A n c)).run Tryz.prog W = .ok () (((W.setCell ⟨b, 0, none⟩ (.int .i64 g)).setCell ⟨b, 1, none⟩ (.int .i64 o)).setCell ⟨b, 2, none⟩ (.slice A n c)) := by
  obtain ⟨q0, q1, q2⟩ := h.three
  have f0 := h.frozen 0
  have f1 := h.frozen 1
  have f2 := h.frozen 2
  go_simp
theorem run_store2 (W : World) (b : Nat) (A : Option Addr) (n c : Nat) (u0 u1 u2 : Value) (h : Blk W b #[u0, u1, u2] 31) :
    (Instr.storeAt 29 (.pointer (some ⟨b, 2, none⟩)) (.slice A n c)).run Tryz.prog W = .ok () (W.setCell ⟨b, 2, none⟩ (.slice A n c)) := by
  obtain ⟨q0, q1, q2⟩ := h.three
  have f2 := h.frozen 2
  go_simp
theorem neqt9 (W : World) (a b : List UInt8) (R : Bool) (h : decide (a = b) = R) : (binOp .neq 9 (.string (str a)) (.string (str b))).run Tryz.prog W = .ok (.bool (!R)) W := by
  rw [← h, ← beq_str]
  generalize str a = x
  generalize str b = y
  go_simp

set_option maxHeartbeats 8000000 in
theorem rget9_64 (bb bo cap : Nat) (s : List UInt8) (w : World) (hs : s.length = 64) (hc : 64 ≤ cap) (hbb : bb < w.heap.size) (hr : w.rangeAt bb bo (cells s)) :
    Calls Tryz.prog 45 #[.slice (some ⟨bb, bo, none⟩) 64 cap] w (Gives9A w s) := by
  unfold Gives9A
  obtain ⟨i0, hi, hz0, hz1, hz2⟩ := info_parts infoEx
  have HTP := Lib.hid (told_parts s)
  have HOKP := Lib.hid (show decide (Tb.put (Tb.told s) = s) = Tb.ok s by unfold Tb.ok; rw [decide_eq_true hs, Bool.true_and])
  have HGN := Lib.hid (show Tb.ok s = false → Tb.got s = Tb.T.zero from fun h => by unfold Tb.got; rw [if_neg (by rw [h]; simp)])
  have HGY := Lib.hid (show Tb.ok s = true → Tb.got s = Tb.told s from fun h => by unfold Tb.got; rw [if_pos h])
  have HRN := Lib.hid (fun (W : World) (h : Below w.heap.size w W) => rangeAt_block hr (h.block bb hbb))
  have HBB := Lib.hid (fun (W : World) (h : Below w.heap.size w W) => Nat.lt_of_lt_of_le hbb h.size)
  have HNUM := Lib.hid (fun (W : World) (h : Below w.heap.size w W) (k j : Nat) (hk : k + j ≤ 64) (hj : j ≤ 4) => rnumber_walk (some ⟨bb, bo + k, none⟩) (cap - k) j ((s.drop k).take j) W (by rw [List.length_take, List.length_drop, hs]; omega) hj (lies_mid (HRN.out W h) (HBB.out W h) k j))
  have HAT := Lib.hid (fun (W : World) (h : Below w.heap.size w W) (k : Nat) (hk : k < 64) => byte9 (HRN.out W h) k (by rw [hs]; exact hk))
  have HSM := Lib.hid (fun (W : World) (k j : Nat) (h : k + j ≤ 64) (hk : k < 64) => slice_mid W bb bo 64 cap k j (by omega) (by omega))
  have HCV := Lib.hid (fun (W : World) (h : Below w.heap.size w W) => conv_at (show Lies W (some ⟨bb, bo, none⟩) (cells s) from .inr ⟨_, rfl, HBB.out W h, fun j u hu => by rw [Addr.add_mid]; exact HRN.out W h j u hu⟩) 64 cap hs)
  have HZ := Lib.hid (Blk.new w #[.int .i64 0, .int .i64 0, .slice none 0 0] 31)
  have HB0 := Lib.hid ((Below.refl w.heap.size w).alloc (Nat.le_refl _) (.cells #[.int .i64 0, .int .i64 0, .slice none 0 0] 31))
  have HK5 := Lib.hid (s.getD 5 0).toNat_lt
  have HK6 := Lib.hid (s.getD 6 0).toNat_lt
  have HA5 := Lib.hid (fun (W : World) (h : Below w.heap.size w W) => HAT.out W h 5 (by omega))
  have HA6 := Lib.hid (fun (W : World) (h : Below w.heap.size w W) => HAT.out W h 6 (by omega))
  have HN1 := Lib.hid (fun (W : World) (h : Below w.heap.size w W) => HNUM.out W h 1 4 (by omega) (by omega))
  generalize Tb.ok s = OK at *
  generalize (s.getD 5 0).toNat = K at *
  generalize (s.getD 6 0).toNat = NX at *
  generalize Tb.num ((s.drop 1).take 4) = GN at *
  obtain ⟨ys, hys⟩ : ∃ ys : List Tb.Ext, (List.range (min K 8)).map (fun i => (⟨(Tb.num ((s.drop (7 + 6 * i)).take 4) : Int), (Tb.num ((s.drop (11 + 6 * i)).take 2) : Int)⟩ : Tb.Ext)) = ys := ⟨_, rfl⟩
  rw [hys] at HTP
  rw [HTP.out] at HOKP HGY
  have HYL := Lib.hid (show ys.length = min K 8 by rw [← hys]; simp)
  have HYS := Lib.hid (show ∀ i, i < min K 8 → ys.take (i + 1) = ys.take i ++ [⟨(Tb.num ((s.drop (7 + 6 * i)).take 4) : Int), (Tb.num ((s.drop (11 + 6 * i)).take 2) : Int)⟩] from fun i h => by
    have hil : i < ys.length := by rw [HYL.out]; exact h
    rw [List.take_succ_eq_append_getElem hil]
    congr 2
    subst hys
    simp)
  clear hr hs hys HAT
  go_enter Tryz.func45, Tryz.ntmps45
  go_wp2_with fail
  have HZ0 := Lib.hid (show Blk (w.alloc (.cells #[.int .i64 0, .int .i64 0, .slice none 0 0] 31)) w.heap.size #[.int .i64 0, .int .i64 0, .slice none 0 0] 31 from HZ.out)
  have HS0 := Lib.hid (show w.heap.size < (w.alloc (.cells #[.int .i64 0, .int .i64 0, .slice none 0 0] 31)).heap.size from HZ.out.lt)
  generalize w.alloc (.cells #[.int .i64 0, .int .i64 0, .slice none 0 0] 31) = w0 at *
  have HS1 := Lib.hid (fun (W : World) => show (Instr.sliceAt 32 (.slice (some ⟨bb, bo, none⟩) 64 cap) (some (.int .i64 1)) (some (.int .i64 5)) none).run Tryz.prog W = .ok (.slice (some ⟨bb, bo + 1, none⟩) 4 (cap - 1)) W from HSM.out W 1 4 (by omega) (by omega))
  have HI6 := Lib.hid (fun (W : World) => show (Instr.indexAt 32 (.slice (some ⟨bb, bo, none⟩) 64 cap) (.int .i64 6)).run Tryz.prog W = .ok (.pointer (some ⟨bb, bo + 6, none⟩)) W by go_simp)
  have HL6 := Lib.hid (fun (W : World) (h : Below w.heap.size w W) => show (Instr.loadAt 5 (.pointer (some ⟨bb, bo + 6, none⟩))).run Tryz.prog W = .ok (.int .u8 (NX : Int)) W by
    have c := HA6.out W h
    go_simp)
  have HV6 := Lib.hid (fun (W : World) => show (convert 5 3 (.int .u8 (NX : Int))).run Tryz.prog W = .ok (.int .i64 (NX : Int)) W by
    have e : IntKind.i64.wrap (NX : Int) = (NX : Int) := by have := HK6.out; rw [IntKind.wrap_i64]; omega
    go_simp)
  have HM6 := Lib.hid (fun (W : World) => show (binOp .sub 3 (.int .i64 (NX : Int)) (.int .i64 1)).run Tryz.prog W = .ok (.int .i64 ((NX : Int) - 1)) W by
    have e : IntKind.i64.wrap ((NX : Int) - 1) = (NX : Int) - 1 := by have := HK6.out; rw [IntKind.wrap_i64]; omega
    go_simp)
  have hbd : Below w0.heap.size w0 w0.drew := (Below.refl _ _).drew
  go_wp2
  refine wp_late (by kernel_rfl) 62 [(11, [0]), (12, [11]), (13, [12]), (14, [0]), (15, [14]), (16, [15]), (17, [16]), (18, [17]), (19, [13, 18]), (4, []), (1010, [4, 19])]
    [Fact.is (.slice (some ⟨bb, bo, none⟩) 64 cap), Fact.is (.slice (some ⟨bb, bo + 1, none⟩) 4 (cap - 1)), Fact.is (.int .i64 (GN : Int)), Fact.is (.slice (some ⟨bb, bo, none⟩) 64 cap), Fact.is (.pointer (some ⟨bb, bo + 6, none⟩)), Fact.is (.int .u8 (NX : Int)), Fact.is (.int .i64 (NX : Int)), Fact.is (.int .i64 ((NX : Int) - 1)), Fact.is (tabV (GN : Int) ((NX : Int) - 1) none 0 0), Fact.blkAt w0.heap.size #[.int .i64 0, .int .i64 0, .slice none 0 0] 31, default]
    [1, 1, 1, 1, 1, 1, 1, 1, 1, 1, 2] [10] [4] [11, 12, 13, 14, 15, 16, 17, 18, 19, 4] ((fun p vs w' => p = 1 → ∃ g, vs.getD 0 undef = .pointer (some ⟨g, 0, none⟩) ∧ w0.heap.size ≤ g ∧ Blk w' g #[.int .i64 (GN : Int), .int .i64 ((NX : Int) - 1), .slice none 0 0] 31 ∧ Below w0.heap.size w0 w'))
    (by kernel_rfl) (by kernel_rfl) rfl rfl ⟨?s0, ?s1, ?s2, ?s3, ?s4, ?s5, ?s6, ?s7, ?s8, ?s9, trivial⟩ ?late ?fin
  case s0 =>
    intro ρ W hb hc hf hr
    obtain ⟨r0, -⟩ := hr
    have e0 : ρ (.tmp 0) = .slice (some ⟨bb, bo, none⟩) 64 cap := r0
    clear r0
    refine under_none rfl ?_
    exact ⟨e0, Below.refl _ _⟩
  case s1 =>
    intro ρ W hb hc hf hr
    obtain ⟨r11, -⟩ := hr
    have e11 : ρ (.tmp 11) = .slice (some ⟨bb, bo, none⟩) 64 cap := r11
    clear r11
    refine under_none rfl ?_
    exact soft_sliceM e11 (hc _) (hc _) (HS1.out W) rfl
  case s2 =>
    intro ρ W hb hc hf hr
    obtain ⟨r12, -⟩ := hr
    have e12 : ρ (.tmp 12) = .slice (some ⟨bb, bo + 1, none⟩) 4 (cap - 1) := r12
    clear r12
    refine under_none rfl ?_
    exact soft_call1 hf e12 (HN1.out W (HB0.out.trans ((hbd.trans (hb.mono (by simp))).mono HB0.out.size))) rfl (by kernel_rfl) same_is
  case s3 =>
    intro ρ W hb hc hf hr
    obtain ⟨r0, -⟩ := hr
    have e0 : ρ (.tmp 0) = .slice (some ⟨bb, bo, none⟩) 64 cap := r0
    clear r0
    refine under_none rfl ?_
    exact ⟨e0, Below.refl _ _⟩
  case s4 =>
    intro ρ W hb hc hf hr
    obtain ⟨r14, -⟩ := hr
    have e14 : ρ (.tmp 14) = .slice (some ⟨bb, bo, none⟩) 64 cap := r14
    clear r14
    refine under_none rfl ?_
    exact soft9_index e14 (hc _) (HI6.out W) rfl
  case s5 =>
    intro ρ W hb hc hf hr
    obtain ⟨r15, -⟩ := hr
    have e15 : ρ (.tmp 15) = .pointer (some ⟨bb, bo + 6, none⟩) := r15
    clear r15
    refine under_none rfl ?_
    exact soft_load e15 (HL6.out W (HB0.out.trans ((hbd.trans (hb.mono (by simp))).mono HB0.out.size))) rfl
  case s6 =>
    intro ρ W hb hc hf hr
    obtain ⟨r16, -⟩ := hr
    have e16 : ρ (.tmp 16) = .int .u8 (NX : Int) := r16
    clear r16
    refine under_none rfl ?_
    exact soft_conv e16 (HV6.out W) rfl
  case s7 =>
    intro ρ W hb hc hf hr
    obtain ⟨r17, -⟩ := hr
    have e17 : ρ (.tmp 17) = .int .i64 (NX : Int) := r17
    clear r17
    refine under_none rfl ?_
    exact soft_bin e17 (hc _) rfl rfl (HM6.out W)
  case s8 =>
    intro ρ W hb hc hf hr
    obtain ⟨r13, r18, -⟩ := hr
    have e13 : ρ (.tmp 13) = .int .i64 (GN : Int) := r13
    clear r13
    have e18 : ρ (.tmp 18) = .int .i64 ((NX : Int) - 1) := r18
    clear r18
    refine under_none rfl ?_
    exact soft_builtT e13 e18 rfl
  case s9 =>
    intro ρ W hb hc hf hr
    clear hr
    refine under_none rfl ?_
    exact soft_allocT (hbd.trans (hb.mono (by simp))).size rfl
  case late =>
    intro p j o hj ho a W hsz h0 h1 hfr hou
    match p, hj with
    | 0, hj =>
      obtain rfl : 10 = j := Option.some.inj hj
      obtain rfl := Option.some.inj ho
      clear hj ho
      obtain ⟨hb, hhard⟩ := h0 rfl
      have r4 : (Fact.blkAt w0.heap.size #[.int .i64 0, .int .i64 0, .slice none 0 0] 31).φ (a.tmps.getD 4 undef) W := hhard 4 9 rfl rfl
      have e19 : a.eval (.tmp 19) = tabV (GN : Int) ((NX : Int) - 1) none 0 0 := hhard 19 8 rfl rfl
      clear h0 h1 hhard hfr hou
      have hW := hbd.trans (hb.mono (by simp))
      obtain ⟨g, e4, hBg, hblk⟩ := r4
      have e4' : a.eval (.tmp 4) = .pointer (some ⟨g, 0, none⟩) := e4
      refine late_put (x := .tmp 4) (y := .tmp 19) (w' := ((W.setCell ⟨g, 0, none⟩ (.int .i64 (GN : Int))).setCell ⟨g, 1, none⟩ (.int .i64 ((NX : Int) - 1))).setCell ⟨g, 2, none⟩ (.slice none 0 0)) rfl (by rw [e4', e19]; exact run_storeT W g _ _ _ _ _ _ _ _ hblk) ⟨undef, rfl, fun _ => ⟨g, ?_, hBg, hblk.stored3 _ _ _, ?_⟩⟩
      · simpa [Act.put, Array.getD_eq_getD_getElem?, hsz] using e4
      · exact Kept.below hW ((Kept.refl [g] W).stored3 (s := g) (by simp) _ _ _) (by simp; omega)
    | q + 1, hj => cases hj
  case fin =>
    intro a w3 ha hP
    obtain ⟨gb, e4, hgb, hbx, d3⟩ := hP rfl
    have e4 : a.tmps.getD 4 undef = .pointer (some ⟨gb, 0, none⟩) := by simpa using e4
    simp only [List.foldl_cons, List.foldl_nil, e4] at ha
    clear e4
    generalize a.tmps.getD 11 undef = v11 at ha
    generalize a.tmps.getD 12 undef = v12 at ha
    generalize a.tmps.getD 13 undef = v13 at ha
    generalize a.tmps.getD 14 undef = v14 at ha
    generalize a.tmps.getD 15 undef = v15 at ha
    generalize a.tmps.getD 16 undef = v16 at ha
    generalize a.tmps.getD 17 undef = v17 at ha
    generalize a.tmps.getD 18 undef = v18 at ha
    generalize a.tmps.getD 19 undef = v19 at ha
    simp only [Act.put, List.setIfInBounds_toArray, List.set_cons_succ, List.set_cons_zero] at ha
    subst ha
    have HX3 := Lib.hid hbx
    have HG3 := Lib.hid hbx.lt
    have HGB := Lib.hid (show w0.heap.size ≤ gb from hgb)
    have HD3 := Lib.hid d3
    clear hbx d3 hgb
    go_wp2_with fail
    go_loopw [5] (fun vi wr => ∃ (i : Nat) (v : Value), vi = .int .i64 i ∧ i ≤ min K 8 ∧ wr.ownsRow w3.heap.size 81 2 v i (flatX (ys.take i)) ∧ Blk wr gb #[.int .i64 (GN : Int), .int .i64 ((NX : Int) - 1), v] 31 ∧ Below w0.heap.size w0 wr ∧ w3.heap.size ≤ wr.heap.size) (fun vi _ => min K 8 - (intOf vi).toNat)
    case atStart => exact ⟨0, .slice none 0 0, rfl, by omega, World.ownsRow_nil _ _ _ 2, HX3.out, HD3.out, Nat.le_refl _⟩
    case round =>
      obtain ⟨i, v, rfl, him, hown, hbx, hbr, hsz3⟩ := hrel
      obtain ⟨AV, cv, rfl, hcv, hlv⟩ := own_formX hown
      have HOW := Lib.hid hown
      have HBX := Lib.hid hbx
      have HLV := Lib.hid hlv
      have HSZ := Lib.hid hsz3
      have HBR := Lib.hid (HB0.out.trans (hbr.mono HB0.out.size))
      have z5 := HA5.out wr HBR.out
      have hwk : wrap64 (K : Int) = (K : Int) := by have := HK5.out; unfold wrap64; omega
      have hwk2 : IntKind.i64.wrap (K : Int) = (K : Int) := by have := HK5.out; rw [IntKind.wrap_i64]; omega
      clear hown hbx hlv hsz3
      by_cases hin : i < min K 8
      · have hd1 : decide ((i : Int) < (K : Int)) = true := by simp; omega
        have hd2 : decide ((i : Int) < 8) = true := by simp; omega
        have hik : i < K := by omega
        have hi8 : i < 8 := by omega
        have hw1 : IntKind.i64.wrap (6 * (i : Int)) = 6 * (i : Int) := by rw [IntKind.wrap_i64]; omega
        have hw2 : IntKind.i64.wrap (7 + 6 * (i : Int)) = 7 + 6 * (i : Int) := by rw [IntKind.wrap_i64]; omega
        have HIN := Lib.hid (show i + 1 ≤ min K 8 by omega)
        have HX := Lib.hid (HYS.out i hin)
        have HNA := Lib.hid (fun (W : World) (h : Below w.heap.size w W) => HNUM.out W h (7 + 6 * i) 4 (by omega) (by omega))
        have HNB := Lib.hid (fun (W : World) (h : Below w.heap.size w W) => HNUM.out W h (11 + 6 * i) 2 (by omega) (by omega))
        have HSA := Lib.hid (fun (W : World) => show (Instr.sliceAt 32 (.slice (some ⟨bb, bo, none⟩) 64 cap) (some (.int .i64 (7 + 6 * (i : Int)))) (some (.int .i64 (11 + 6 * (i : Int)))) none).run Tryz.prog W = .ok (.slice (some ⟨bb, bo + (7 + 6 * i), none⟩) 4 (cap - (7 + 6 * i))) W by
          have := HSM.out W (7 + 6 * i) 4 (by omega) (by omega)
          rwa [show ((7 + 6 * i : Nat) : Int) = 7 + 6 * (i : Int) by omega, show ((7 + 6 * i + 4 : Nat) : Int) = 11 + 6 * (i : Int) by omega] at this)
        have HSB := Lib.hid (fun (W : World) => show (Instr.sliceAt 32 (.slice (some ⟨bb, bo, none⟩) 64 cap) (some (.int .i64 (11 + 6 * (i : Int)))) (some (.int .i64 (13 + 6 * (i : Int)))) none).run Tryz.prog W = .ok (.slice (some ⟨bb, bo + (11 + 6 * i), none⟩) 2 (cap - (11 + 6 * i))) W by
          have := HSM.out W (11 + 6 * i) 2 (by omega) (by omega)
          rwa [show ((11 + 6 * i : Nat) : Int) = 11 + 6 * (i : Int) by omega, show ((11 + 6 * i + 2 : Nat) : Int) = 13 + 6 * (i : Int) by omega] at this)
        have HP4 := Lib.hid (fun (W : World) => show (binOp .add 3 (.int .i64 (7 + 6 * (i : Int))) (.int .i64 4)).run Tryz.prog W = .ok (.int .i64 (11 + 6 * (i : Int))) W by
          have e : IntKind.i64.wrap (7 + 6 * (i : Int) + 4) = 11 + 6 * (i : Int) := by rw [IntKind.wrap_i64]; omega
          go_simp)
        have HP6 := Lib.hid (fun (W : World) => show (binOp .add 3 (.int .i64 (7 + 6 * (i : Int))) (.int .i64 6)).run Tryz.prog W = .ok (.int .i64 (13 + 6 * (i : Int))) W by
          have e : IntKind.i64.wrap (7 + 6 * (i : Int) + 6) = 13 + 6 * (i : Int) := by rw [IntKind.wrap_i64]; omega
          go_simp)
        generalize Tb.num ((s.drop (7 + 6 * i)).take 4) = q at *
        generalize Tb.num ((s.drop (11 + 6 * i)).take 2) = l at *
        have HX2 := Lib.hid (show flatX (ys.take (i + 1)) = flatX (ys.take i) ++ flatX [⟨(q : Int), (l : Int)⟩] by rw [HX.out, flatX_append])
        obtain ⟨X2, hX2⟩ : ∃ X2, ys.take (i + 1) = X2 := ⟨_, rfl⟩
        rw [hX2] at HX2
        have HXE := Lib.hid hX2
        clear hX2 HX
        generalize ys.take i = X1 at *
        have HLB := Lib.hid (fun (W : World) (hW : Below wr.heap.size wr W) => show (Instr.loadAt 29 (.pointer (some ⟨gb, 2, none⟩))).run Tryz.prog W = .ok (.slice AV i cv) W by
          have c := (HBX.out.below hW (Nat.le_refl _)).cell 2
          go_simp)
        have hbd : Below wr.heap.size wr wr.drew := (Below.refl _ _).drew
        go_wp2
        refine wp_late (by kernel_rfl) 62 [(35, [4]), (36, [35]), (37, [0]), (38, [6]), (39, [6]), (40, [39]), (41, [37, 38, 40]), (42, [41]), (43, [0]), (44, [6]), (45, [44]), (46, [6]), (47, [46]), (48, [43, 45, 47]), (49, [48]), (50, [42, 49]), (51, [50]), (1017, [36, 51]), (1018, [4]), (1019, [53, 52])]
          [Fact.is (.pointer (some ⟨gb, 2, none⟩)), Fact.is (.slice AV i cv), Fact.is (.slice (some ⟨bb, bo, none⟩) 64 cap), Fact.is (.int .i64 (7 + 6 * (i : Int))), Fact.is (.int .i64 (7 + 6 * (i : Int))), Fact.is (.int .i64 (11 + 6 * (i : Int))), Fact.is (.slice (some ⟨bb, bo + (7 + 6 * i), none⟩) 4 (cap - (7 + 6 * i))), Fact.is (.int .i64 (q : Int)), Fact.is (.slice (some ⟨bb, bo, none⟩) 64 cap), Fact.is (.int .i64 (7 + 6 * (i : Int))), Fact.is (.int .i64 (11 + 6 * (i : Int))), Fact.is (.int .i64 (7 + 6 * (i : Int))), Fact.is (.int .i64 (13 + 6 * (i : Int))), Fact.is (.slice (some ⟨bb, bo + (11 + 6 * i), none⟩) 2 (cap - (11 + 6 * i))), Fact.is (.int .i64 (l : Int)), Fact.is (.agg #[.int .i64 (q : Int), .int .i64 (l : Int)]), Fact.lie 1 (flatX [⟨(q : Int), (l : Int)⟩]), default, default, default]
          [1, 1, 1, 1, 1, 1, 1, 1, 1, 1, 1, 1, 1, 1, 1, 1, 1, 2, 2, 2] [17, 18, 19] [52, 53] [35, 36, 37, 38, 39, 40, 41, 42, 43, 44, 45, 46, 47, 48, 49, 50, 51, 52, 53] ((fun p vs w' => (p = 1 ∨ p = 2 → Below w3.heap.size wr w' ∧ w'.ownsRow w3.heap.size 81 2 (vs.getD 0 undef) (i + 1) (flatX X2)) ∧ (p = 2 → vs.getD 1 undef = .pointer (some ⟨gb, 2, none⟩)) ∧ (p = 3 → ∃ v, w'.ownsRow w3.heap.size 81 2 v (i + 1) (flatX X2) ∧ Blk w' gb #[.int .i64 (GN : Int), .int .i64 ((NX : Int) - 1), v] 31 ∧ Below w0.heap.size w0 w' ∧ w3.heap.size ≤ w'.heap.size)))
          (by kernel_rfl) (by kernel_rfl) rfl rfl ⟨?s0, ?s1, ?s2, ?s3, ?s4, ?s5, ?s6, ?s7, ?s8, ?s9, ?s10, ?s11, ?s12, ?s13, ?s14, ?s15, ?s16, trivial⟩ ?late ?fin
        case s0 =>
          intro ρ W hb hc hf hr
          obtain ⟨r4, -⟩ := hr
          have e4 : ρ (.tmp 4) = .pointer (some ⟨gb, 0, none⟩) := r4
          clear r4
          refine under_none rfl ?_
          exact soft_field e4 rfl (fun W => by go_simp)
        case s1 =>
          intro ρ W hb hc hf hr
          obtain ⟨r35, -⟩ := hr
          have e35 : ρ (.tmp 35) = .pointer (some ⟨gb, 2, none⟩) := r35
          clear r35
          refine under_none rfl ?_
          exact soft_load e35 (HLB.out W (hbd.trans (hb.mono (by simp)))) rfl
        case s2 =>
          intro ρ W hb hc hf hr
          obtain ⟨r0, -⟩ := hr
          have e0 : ρ (.tmp 0) = .slice (some ⟨bb, bo, none⟩) 64 cap := r0
          clear r0
          refine under_none rfl ?_
          exact ⟨e0, Below.refl _ _⟩
        case s3 =>
          intro ρ W hb hc hf hr
          obtain ⟨r6, -⟩ := hr
          have e6 : ρ (.tmp 6) = .int .i64 (7 + 6 * (i : Int)) := r6
          clear r6
          refine under_none rfl ?_
          exact ⟨e6, Below.refl _ _⟩
        case s4 =>
          intro ρ W hb hc hf hr
          obtain ⟨r6, -⟩ := hr
          have e6 : ρ (.tmp 6) = .int .i64 (7 + 6 * (i : Int)) := r6
          clear r6
          refine under_none rfl ?_
          exact ⟨e6, Below.refl _ _⟩
        case s5 =>
          intro ρ W hb hc hf hr
          obtain ⟨r39, -⟩ := hr
          have e39 : ρ (.tmp 39) = .int .i64 (7 + 6 * (i : Int)) := r39
          clear r39
          refine under_none rfl ?_
          exact soft_bin e39 (hc _) rfl rfl (HP4.out W)
        case s6 =>
          intro ρ W hb hc hf hr
          obtain ⟨r37, r38, r40, -⟩ := hr
          have e37 : ρ (.tmp 37) = .slice (some ⟨bb, bo, none⟩) 64 cap := r37
          clear r37
          have e38 : ρ (.tmp 38) = .int .i64 (7 + 6 * (i : Int)) := r38
          clear r38
          have e40 : ρ (.tmp 40) = .int .i64 (11 + 6 * (i : Int)) := r40
          clear r40
          refine under_none rfl ?_
          exact soft_sliceM e37 e38 e40 (HSA.out W) rfl
        case s7 =>
          intro ρ W hb hc hf hr
          obtain ⟨r41, -⟩ := hr
          have e41 : ρ (.tmp 41) = .slice (some ⟨bb, bo + (7 + 6 * i), none⟩) 4 (cap - (7 + 6 * i)) := r41
          clear r41
          refine under_none rfl ?_
          exact soft_call1 hf e41 (HNA.out W (HBR.out.trans ((hbd.trans (hb.mono (by simp))).mono HBR.out.size))) rfl (by kernel_rfl) same_is
        case s8 =>
          intro ρ W hb hc hf hr
          obtain ⟨r0, -⟩ := hr
          have e0 : ρ (.tmp 0) = .slice (some ⟨bb, bo, none⟩) 64 cap := r0
          clear r0
          refine under_none rfl ?_
          exact ⟨e0, Below.refl _ _⟩
        case s9 =>
          intro ρ W hb hc hf hr
          obtain ⟨r6, -⟩ := hr
          have e6 : ρ (.tmp 6) = .int .i64 (7 + 6 * (i : Int)) := r6
          clear r6
          refine under_none rfl ?_
          exact ⟨e6, Below.refl _ _⟩
        case s10 =>
          intro ρ W hb hc hf hr
          obtain ⟨r44, -⟩ := hr
          have e44 : ρ (.tmp 44) = .int .i64 (7 + 6 * (i : Int)) := r44
          clear r44
          refine under_none rfl ?_
          exact soft_bin e44 (hc _) rfl rfl (HP4.out W)
        case s11 =>
          intro ρ W hb hc hf hr
          obtain ⟨r6, -⟩ := hr
          have e6 : ρ (.tmp 6) = .int .i64 (7 + 6 * (i : Int)) := r6
          clear r6
          refine under_none rfl ?_
          exact ⟨e6, Below.refl _ _⟩
        case s12 =>
          intro ρ W hb hc hf hr
          obtain ⟨r46, -⟩ := hr
          have e46 : ρ (.tmp 46) = .int .i64 (7 + 6 * (i : Int)) := r46
          clear r46
          refine under_none rfl ?_
          exact soft_bin e46 (hc _) rfl rfl (HP6.out W)
        case s13 =>
          intro ρ W hb hc hf hr
          obtain ⟨r43, r45, r47, -⟩ := hr
          have e43 : ρ (.tmp 43) = .slice (some ⟨bb, bo, none⟩) 64 cap := r43
          clear r43
          have e45 : ρ (.tmp 45) = .int .i64 (11 + 6 * (i : Int)) := r45
          clear r45
          have e47 : ρ (.tmp 47) = .int .i64 (13 + 6 * (i : Int)) := r47
          clear r47
          refine under_none rfl ?_
          exact soft_sliceM e43 e45 e47 (HSB.out W) rfl
        case s14 =>
          intro ρ W hb hc hf hr
          obtain ⟨r48, -⟩ := hr
          have e48 : ρ (.tmp 48) = .slice (some ⟨bb, bo + (11 + 6 * i), none⟩) 2 (cap - (11 + 6 * i)) := r48
          clear r48
          refine under_none rfl ?_
          exact soft_call1 hf e48 (HNB.out W (HBR.out.trans ((hbd.trans (hb.mono (by simp))).mono HBR.out.size))) rfl (by kernel_rfl) same_is
        case s15 =>
          intro ρ W hb hc hf hr
          obtain ⟨r42, r49, -⟩ := hr
          have e42 : ρ (.tmp 42) = .int .i64 (q : Int) := r42
          clear r42
          have e49 : ρ (.tmp 49) = .int .i64 (l : Int) := r49
          clear r49
          refine under_none rfl ?_
          exact soft_builtX e42 e49 rfl
        case s16 =>
          intro ρ W hb hc hf hr
          obtain ⟨r50, -⟩ := hr
          have e50 : ρ (.tmp 50) = .agg #[.int .i64 (q : Int), .int .i64 (l : Int)] := r50
          clear r50
          refine under_none rfl ?_
          exact soft_oneX e50 rfl
        case late =>
          intro p j o hj ho a W hsz h0 h1 hfr hou
          match p, hj with
          | 0, hj =>
            obtain rfl : 17 = j := Option.some.inj hj
            obtain rfl := Option.some.inj ho
            clear hj ho
            obtain ⟨hb, hhard⟩ := h0 rfl
            have e36 : a.eval (.tmp 36) = .slice AV i cv := hhard 36 1 rfl rfl
            have r51 : (Fact.lie 1 (flatX [⟨(q : Int), (l : Int)⟩])).φ (a.tmps.getD 51 undef) W := hhard 51 16 rfl rfl
            clear h0 h1 hhard hfr hou
            have hW := hbd.trans (hb.mono (by simp))
            refine late_app (P := Tryz.prog) (s := .tmp 36) (x := .tmp 51) (n := i) (m := 1) (t := 29) (xs := flatX X1) Tryz.underlying29 hi hz0 hz1 hz2 rfl (by decide) (by rw [e36]; exact row_keep HOW.out hW) r51 rfl (flatX_one _) (by unfold maxLen; omega) (by omega) (Nat.le_trans HSZ.out hW.size) rfl fun v w' ho hbb => ⟨v, rfl, fun _ => ⟨hbb _ (hW.mono HSZ.out), ?_⟩, fun h => absurd h (by omega), fun h => absurd h (by omega)⟩
            rw [HX2.out]
            simpa [Act.put, Array.getD_eq_getD_getElem?, hsz] using ho
          | 1, hj =>
            obtain rfl : 18 = j := Option.some.inj hj
            obtain rfl := Option.some.inj ho
            clear hj ho
            have hP := h1 (by omega)
            have e4 : a.eval (.tmp 4) = .pointer (some ⟨gb, 0, none⟩) := (hou 4 rfl (outer_dst (by kernel_rfl))).trans rfl
            clear h0 h1 hfr hou
            obtain ⟨h1, -, -⟩ := hP
            have hh := h1 (.inl rfl)
            refine late_val (free_field (b := ⟨gb, 2, none⟩) e4 rfl (fun W => by go_simp)) ⟨_, rfl, fun _ => ?_, fun _ => ?_, fun h => absurd h (by omega)⟩
            · simpa [Act.put, Array.getD_eq_getD_getElem?, hsz] using hh
            · simp [Act.put, Array.getD_eq_getD_getElem?, hsz]
          | 2, hj =>
            obtain rfl : 19 = j := Option.some.inj hj
            obtain rfl := Option.some.inj ho
            clear hj ho
            have hP := h1 (by omega)
            clear h0 h1 hfr hou
            obtain ⟨h1, h2, -⟩ := hP
            obtain ⟨hb, ho⟩ := h1 (.inr rfl)
            have e53 : a.eval (.tmp 53) = .pointer (some ⟨gb, 2, none⟩) := h2 rfl
            have ho : W.ownsRow w3.heap.size 81 2 (a.eval (.tmp 52)) (i + 1) (flatX X2) := ho
            obtain ⟨A5, c5, e52, -, -⟩ := own_formX ho
            have hxw : Blk W gb #[.int .i64 (GN : Int), .int .i64 ((NX : Int) - 1), .slice AV i cv] 31 := (hb.block gb HG3.out).trans HBX.out
            rw [e52] at ho
            refine late_put (x := .tmp 53) (y := .tmp 52) (w' := W.setCell ⟨gb, 2, none⟩ (.slice A5 (i + 1) c5)) rfl (by rw [e53, e52]; exact run_store2 W gb _ _ _ _ _ _ hxw) ⟨undef, rfl, fun h => absurd h (by omega), fun h => absurd h (by omega), fun _ => ⟨.slice A5 (i + 1) c5, row_other ho HG3.out, hxw.set 2 _, ?_, ?_⟩⟩
            · exact Kept.below (hbr.trans (hb.mono HD3.out.size)) ((Kept.refl [gb] W).setCell (p := ⟨gb, 2, none⟩) (by simp) _) (by have := HGB.out; simp; omega)
            · have := Nat.le_trans HSZ.out hb.size; simp; exact this
          | q + 3, hj => cases hj
        case fin =>
          intro a w4 ha hP
          obtain ⟨-, -, h2⟩ := hP
          obtain ⟨v4, ho4, hx4, d4, s4⟩ := h2 rfl
          simp only [List.foldl_cons, List.foldl_nil] at ha
          generalize a.tmps.getD 35 undef = v35 at ha
          generalize a.tmps.getD 36 undef = v36 at ha
          generalize a.tmps.getD 37 undef = v37 at ha
          generalize a.tmps.getD 38 undef = v38 at ha
          generalize a.tmps.getD 39 undef = v39 at ha
          generalize a.tmps.getD 40 undef = v40 at ha
          generalize a.tmps.getD 41 undef = v41 at ha
          generalize a.tmps.getD 42 undef = v42 at ha
          generalize a.tmps.getD 43 undef = v43 at ha
          generalize a.tmps.getD 44 undef = v44 at ha
          generalize a.tmps.getD 45 undef = v45 at ha
          generalize a.tmps.getD 46 undef = v46 at ha
          generalize a.tmps.getD 47 undef = v47 at ha
          generalize a.tmps.getD 48 undef = v48 at ha
          generalize a.tmps.getD 49 undef = v49 at ha
          generalize a.tmps.getD 50 undef = v50 at ha
          generalize a.tmps.getD 51 undef = v51 at ha
          generalize a.tmps.getD 52 undef = v52 at ha
          generalize a.tmps.getD 53 undef = v53 at ha
          simp only [Act.put, List.setIfInBounds_toArray, List.set_cons_succ, List.set_cons_zero] at ha
          subst ha
          have HO4 := Lib.hid ho4
          have HX4 := Lib.hid hx4
          have HD4 := Lib.hid d4
          have HS4 := Lib.hid s4
          clear ho4 hx4 d4 s4
          go_wp2
          go_roundw
          case rel => exact ⟨i + 1, v4, by go_num, HIN.out, by rw [HXE.out]; exact HO4.out, HX4.out, HD4.out, HS4.out⟩
          case measure => have := HIN.out; first | omega | (simp [intOf]; omega)
      · have hcond : ¬ i < K ∨ (i < K ∧ ¬ i < 8) := by omega
        have HYI := Lib.hid (show ys.length = i by rw [HYL.out]; omega)
        have HTK := Lib.hid (show ys.take i = ys by rw [← HYI.out, List.take_length])
        rw [HTK.out] at HLV HOW
        have HPT := Lib.hid (fun (W : World) (hW : Below wr.heap.size wr W) => rtput_any (GN : Int) ((NX : Int) - 1) AV cv i ys W HYI.out (HLV.out.below hW))
        have HNE := Lib.hid (fun (W : World) => neqt9 W _ _ _ HOKP.out)
        have HCW := Lib.hid (fun (W : World) (hW : Below wr.heap.size wr W) => HCV.out W (HBR.out.trans (hW.mono HBR.out.size)))
        have HLT := Lib.hid (fun (W : World) (hW : Below wr.heap.size wr W) => load_tab W gb (GN : Int) ((NX : Int) - 1) AV i cv (HBX.out.below hW (Nat.le_refl _)))
        obtain ⟨SP, hSP⟩ : ∃ SP, str (Tb.put ⟨(GN : Int), (NX : Int) - 1, ys⟩) = SP := ⟨_, rfl⟩
        obtain ⟨SS, hSS⟩ : ∃ SS, str s = SS := ⟨_, rfl⟩
        rw [hSP, hSS] at HNE
        rw [hSS] at HCW
        have HSP := Lib.hid hSP
        clear hSP hSS HCV HOKP
        generalize Tb.put ⟨(GN : Int), (NX : Int) - 1, ys⟩ = PT at *
        have HZR := Lib.hid (HZ0.out.below hbr (Nat.le_refl _))
        clear hin him
        rcases hcond with hc1 | ⟨hc1, hc2⟩
        · have hd1 : decide ((i : Int) < (K : Int)) = false := by simp; omega
          go_wp2
          refine wp_softS (by kernel_rfl) 62 [(54, [4]), (55, [54]), (56, [55]), (57, [0]), (58, [57]), (59, [56, 58])]
            [Fact.is (tabV (GN : Int) ((NX : Int) - 1) AV i cv), Fact.own PT, Fact.is (.string SP), Fact.is (.slice (some ⟨bb, bo, none⟩) 64 cap), Fact.is (.string SS), Fact.is (.bool (!OK))]
            (by kernel_rfl) rfl rfl ⟨?s0, ?s1, ?s2, ?s3, ?s4, ?s5, trivial⟩ ?fin
          case s0 =>
            intro ρ W hb hc hf hr
            obtain ⟨r4, -⟩ := hr
            have e4 : ρ (.tmp 4) = .pointer (some ⟨gb, 0, none⟩) := r4
            clear r4
            refine under_none rfl ?_
            exact soft_load e4 (HLT.out W (undrew hb)) rfl
          case s1 =>
            intro ρ W hb hc hf hr
            obtain ⟨r54, -⟩ := hr
            have e54 : ρ (.tmp 54) = tabV (GN : Int) ((NX : Int) - 1) AV i cv := r54
            clear r54
            refine under_none rfl ?_
            exact soft_call1 hf e54 (HPT.out W (undrew hb)) rfl (by kernel_rfl) made_own
          case s2 =>
            intro ρ W hb hc hf hr
            obtain ⟨r55, -⟩ := hr
            refine under_none rfl ?_
            rw [← HSP.out]; exact soft_own r55 rfl
          case s3 =>
            intro ρ W hb hc hf hr
            obtain ⟨r0, -⟩ := hr
            have e0 : ρ (.tmp 0) = .slice (some ⟨bb, bo, none⟩) 64 cap := r0
            clear r0
            refine under_none rfl ?_
            exact ⟨e0, Below.refl _ _⟩
          case s4 =>
            intro ρ W hb hc hf hr
            obtain ⟨r57, -⟩ := hr
            have e57 : ρ (.tmp 57) = .slice (some ⟨bb, bo, none⟩) 64 cap := r57
            clear r57
            refine under_none rfl ?_
            exact soft_conv e57 (HCW.out W (undrew hb)) rfl
          case s5 =>
            intro ρ W hb hc hf hr
            obtain ⟨r56, r58, -⟩ := hr
            have e56 : ρ (.tmp 56) = .string SP := r56
            clear r56
            have e58 : ρ (.tmp 58) = .string SS := r58
            clear r58
            refine under_none rfl ?_
            exact soft_bin e56 e58 rfl rfl (HNE.out W)
          case fin =>
            intro a w1 hb hd hsz hk
            have ea := act_puts hd hsz rfl hk
            have k54 : a.tmps.getD 54 undef = tabV (GN : Int) ((NX : Int) - 1) AV i cv := hk 54
            have k55 : (Fact.own PT).φ (a.tmps.getD 55 undef) w1 := hk 55
            have k56 : a.tmps.getD 56 undef = .string SP := hk 56
            have k57 : a.tmps.getD 57 undef = .slice (some ⟨bb, bo, none⟩) 64 cap := hk 57
            have k58 : a.tmps.getD 58 undef = .string SS := hk 58
            have k59 : a.tmps.getD 59 undef = .bool (!OK) := hk 59
            clear hk hd hsz
            simp only [List.map_cons, List.map_nil, List.foldl_cons, List.foldl_nil, k54, k56, k57, k58, k59] at ea
            clear k54 k56 k57 k58 k59
            generalize a.tmps.getD 55 undef = v55 at ea k55
            simp only [Act.put, List.setIfInBounds_toArray, List.set_cons_succ, List.set_cons_zero] at ea
            subst ea
            have c5 : Below wr.heap.size wr w1 := undrew hb
            have B5 := Lib.hid (HBR.out.trans (c5.mono HBR.out.size))
            have X5 := Lib.hid (HBX.out.below c5 (Nat.le_refl _))
            have Z5 := Lib.hid (HZR.out.below c5 (Nat.le_refl _))
            have O5 := Lib.hid (row_keep HOW.out c5)
            clear c5 hb
            obtain ⟨q0, q1, q2⟩ := Z5.out.three
            have f0 := Z5.out.frozen 0
            have f1 := Z5.out.frozen 1
            have f2 := Z5.out.frozen 2
            rcases OK with _ | _
            · have HF := Lib.hid (Z5.out.stored3 (.int .i64 0) (.int .i64 0) (.slice none 0 0))
              have HK := Lib.hid (Kept.below B5.out ((Kept.refl [w.heap.size] w1).stored3 (s := w.heap.size) (by simp) (.int .i64 0) (.int .i64 0) (.slice none 0 0)) (by simp))
              go_wp2
              have HF2 := HF.out
              have HK2 := HK.out
              generalize ((w1.setCell ⟨w.heap.size, 0, none⟩ (.int .i64 0)).setCell ⟨w.heap.size, 1, none⟩ (.int .i64 0)).setCell ⟨w.heap.size, 2, none⟩ (.slice none 0 0) = wf at *
              obtain ⟨y0, y1, y2⟩ := HF2.three
              refine bodyPost_ret (v := .tuple #[tabV 0 0 none 0 0, .bool false]) (w := wf) (by simp [results, Tryz.results45, go_sem, y0, y1, y2]) rfl ?_
              rw [HGN.out (by trivial)]
              exact ⟨none, 0, 0, rfl, rfl, Nat.le_refl _, Lies.nil, HK2, fun _ h => by cases h⟩
            · have HWL := Lib.hid (show w.heap.size < w3.heap.size by have := HS0.out; have := HGB.out; have := HG3.out; omega)
              have HF := Lib.hid (Z5.out.stored3 (.int .i64 (GN : Int)) (.int .i64 ((NX : Int) - 1)) (.slice AV i cv))
              have HK := Lib.hid (Kept.below B5.out ((Kept.refl [w.heap.size] w1).stored3 (s := w.heap.size) (by simp) (.int .i64 (GN : Int)) (.int .i64 ((NX : Int) - 1)) (.slice AV i cv)) (by simp))
              have HOF := Lib.hid (row_other (j := 2) (u := .slice AV i cv) (row_other (j := 1) (u := .int .i64 ((NX : Int) - 1)) (row_other (j := 0) (u := .int .i64 (GN : Int)) O5.out HWL.out) HWL.out) HWL.out)
              obtain ⟨p0, p1, p2⟩ := X5.out.three
              go_wp2
              have HF2 := HF.out
              have HK2 := HK.out
              have HO2 := HOF.out
              generalize ((w1.setCell ⟨w.heap.size, 0, none⟩ (.int .i64 (GN : Int))).setCell ⟨w.heap.size, 1, none⟩ (.int .i64 ((NX : Int) - 1))).setCell ⟨w.heap.size, 2, none⟩ (.slice AV i cv) = wf at *
              obtain ⟨y0, y1, y2⟩ := HF2.three
              refine bodyPost_ret (v := .tuple #[tabV (GN : Int) ((NX : Int) - 1) AV i cv, .bool true]) (w := wf) (by simp [results, Tryz.results45, go_sem, y0, y1, y2]) rfl ?_
              obtain ⟨A9, c9, e9, -, hl9⟩ := own_formX HO2
              injection e9 with e91 _ e93
              subst e91 e93
              rw [HGY.out (by trivial)]
              exact ⟨AV, i, cv, rfl, HYI.out, hcv, hl9, HK2, fun ad h => by have := own_fresh HO2 ad h; have := HWL.out; omega⟩
        · have hd1 : decide ((i : Int) < (K : Int)) = true := by simp; omega
          have hd2 : decide ((i : Int) < 8) = false := by simp; omega
          go_wp2
          refine wp_softS (by kernel_rfl) 62 [(54, [4]), (55, [54]), (56, [55]), (57, [0]), (58, [57]), (59, [56, 58])]
            [Fact.is (tabV (GN : Int) ((NX : Int) - 1) AV i cv), Fact.own PT, Fact.is (.string SP), Fact.is (.slice (some ⟨bb, bo, none⟩) 64 cap), Fact.is (.string SS), Fact.is (.bool (!OK))]
            (by kernel_rfl) rfl rfl ⟨?s0, ?s1, ?s2, ?s3, ?s4, ?s5, trivial⟩ ?fin
          case s0 =>
            intro ρ W hb hc hf hr
            obtain ⟨r4, -⟩ := hr
            have e4 : ρ (.tmp 4) = .pointer (some ⟨gb, 0, none⟩) := r4
            clear r4
            refine under_none rfl ?_
            exact soft_load e4 (HLT.out W (undrew hb)) rfl
          case s1 =>
            intro ρ W hb hc hf hr
            obtain ⟨r54, -⟩ := hr
            have e54 : ρ (.tmp 54) = tabV (GN : Int) ((NX : Int) - 1) AV i cv := r54
            clear r54
            refine under_none rfl ?_
            exact soft_call1 hf e54 (HPT.out W (undrew hb)) rfl (by kernel_rfl) made_own
          case s2 =>
            intro ρ W hb hc hf hr
            obtain ⟨r55, -⟩ := hr
            refine under_none rfl ?_
            rw [← HSP.out]; exact soft_own r55 rfl
          case s3 =>
            intro ρ W hb hc hf hr
            obtain ⟨r0, -⟩ := hr
            have e0 : ρ (.tmp 0) = .slice (some ⟨bb, bo, none⟩) 64 cap := r0
            clear r0
            refine under_none rfl ?_
            exact ⟨e0, Below.refl _ _⟩
          case s4 =>
            intro ρ W hb hc hf hr
            obtain ⟨r57, -⟩ := hr
            have e57 : ρ (.tmp 57) = .slice (some ⟨bb, bo, none⟩) 64 cap := r57
            clear r57
            refine under_none rfl ?_
            exact soft_conv e57 (HCW.out W (undrew hb)) rfl
          case s5 =>
            intro ρ W hb hc hf hr
            obtain ⟨r56, r58, -⟩ := hr
            have e56 : ρ (.tmp 56) = .string SP := r56
            clear r56
            have e58 : ρ (.tmp 58) = .string SS := r58
            clear r58
            refine under_none rfl ?_
            exact soft_bin e56 e58 rfl rfl (HNE.out W)
          case fin =>
            intro a w1 hb hd hsz hk
            have ea := act_puts hd hsz rfl hk
            have k54 : a.tmps.getD 54 undef = tabV (GN : Int) ((NX : Int) - 1) AV i cv := hk 54
            have k55 : (Fact.own PT).φ (a.tmps.getD 55 undef) w1 := hk 55
            have k56 : a.tmps.getD 56 undef = .string SP := hk 56
            have k57 : a.tmps.getD 57 undef = .slice (some ⟨bb, bo, none⟩) 64 cap := hk 57
            have k58 : a.tmps.getD 58 undef = .string SS := hk 58
            have k59 : a.tmps.getD 59 undef = .bool (!OK) := hk 59
            clear hk hd hsz
            simp only [List.map_cons, List.map_nil, List.foldl_cons, List.foldl_nil, k54, k56, k57, k58, k59] at ea
            clear k54 k56 k57 k58 k59
            generalize a.tmps.getD 55 undef = v55 at ea k55
            simp only [Act.put, List.setIfInBounds_toArray, List.set_cons_succ, List.set_cons_zero] at ea
            subst ea
            have c5 : Below wr.heap.size wr w1 := undrew hb
            have B5 := Lib.hid (HBR.out.trans (c5.mono HBR.out.size))
            have X5 := Lib.hid (HBX.out.below c5 (Nat.le_refl _))
            have Z5 := Lib.hid (HZR.out.below c5 (Nat.le_refl _))
            have O5 := Lib.hid (row_keep HOW.out c5)
            clear c5 hb
            obtain ⟨q0, q1, q2⟩ := Z5.out.three
            have f0 := Z5.out.frozen 0
            have f1 := Z5.out.frozen 1
            have f2 := Z5.out.frozen 2
            rcases OK with _ | _
            · have HF := Lib.hid (Z5.out.stored3 (.int .i64 0) (.int .i64 0) (.slice none 0 0))
              have HK := Lib.hid (Kept.below B5.out ((Kept.refl [w.heap.size] w1).stored3 (s := w.heap.size) (by simp) (.int .i64 0) (.int .i64 0) (.slice none 0 0)) (by simp))
              go_wp2
              have HF2 := HF.out
              have HK2 := HK.out
              generalize ((w1.setCell ⟨w.heap.size, 0, none⟩ (.int .i64 0)).setCell ⟨w.heap.size, 1, none⟩ (.int .i64 0)).setCell ⟨w.heap.size, 2, none⟩ (.slice none 0 0) = wf at *
              obtain ⟨y0, y1, y2⟩ := HF2.three
              refine bodyPost_ret (v := .tuple #[tabV 0 0 none 0 0, .bool false]) (w := wf) (by simp [results, Tryz.results45, go_sem, y0, y1, y2]) rfl ?_
              rw [HGN.out (by trivial)]
              exact ⟨none, 0, 0, rfl, rfl, Nat.le_refl _, Lies.nil, HK2, fun _ h => by cases h⟩
            · have HWL := Lib.hid (show w.heap.size < w3.heap.size by have := HS0.out; have := HGB.out; have := HG3.out; omega)
              have HF := Lib.hid (Z5.out.stored3 (.int .i64 (GN : Int)) (.int .i64 ((NX : Int) - 1)) (.slice AV i cv))
              have HK := Lib.hid (Kept.below B5.out ((Kept.refl [w.heap.size] w1).stored3 (s := w.heap.size) (by simp) (.int .i64 (GN : Int)) (.int .i64 ((NX : Int) - 1)) (.slice AV i cv)) (by simp))
              have HOF := Lib.hid (row_other (j := 2) (u := .slice AV i cv) (row_other (j := 1) (u := .int .i64 ((NX : Int) - 1)) (row_other (j := 0) (u := .int .i64 (GN : Int)) O5.out HWL.out) HWL.out) HWL.out)
              obtain ⟨p0, p1, p2⟩ := X5.out.three
              go_wp2
              have HF2 := HF.out
              have HK2 := HK.out
              have HO2 := HOF.out
              generalize ((w1.setCell ⟨w.heap.size, 0, none⟩ (.int .i64 (GN : Int))).setCell ⟨w.heap.size, 1, none⟩ (.int .i64 ((NX : Int) - 1))).setCell ⟨w.heap.size, 2, none⟩ (.slice AV i cv) = wf at *
              obtain ⟨y0, y1, y2⟩ := HF2.three
              refine bodyPost_ret (v := .tuple #[tabV (GN : Int) ((NX : Int) - 1) AV i cv, .bool true]) (w := wf) (by simp [results, Tryz.results45, go_sem, y0, y1, y2]) rfl ?_
              obtain ⟨A9, c9, e9, -, hl9⟩ := own_formX HO2
              injection e9 with e91 _ e93
              subst e91 e93
              rw [HGY.out (by trivial)]
              exact ⟨AV, i, cv, rfl, HYI.out, hcv, hl9, HK2, fun ad h => by have := own_fresh HO2 ad h; have := HWL.out; omega⟩

theorem rget_new (A : Option Addr) (cap n : Nat) (s : List UInt8) (w : World) (hn : s.length = n) (hc : n ≤ cap) (hA : Lies w A (cells s)) :
    Calls Tryz.prog 45 #[.slice A n cap] w (Gives9A w s) := by
  by_cases h64 : n = 64
  · subst h64
    rcases hA with h | ⟨ad, rfl, hb, hc'⟩
    · have : (cells s).length = 0 := by rw [h]; rfl
      rw [cells_length] at this; omega
    · obtain ⟨b, o, sp⟩ := ad
      have h0 := hc' 0 _ (List.getElem?_eq_getElem (by rw [cells_length]; omega))
      have hsp : sp = none := by
        cases sp with
        | none => rfl
        | some n =>
          simp only [Addr.add, if_true, World.cell?] at h0
          split at h0 <;> simp at h0
      subst hsp
      exact rget9_64 b o cap s w hn hc hb (fun j u hu => by have := hc' j u hu; rwa [Addr.add_mid] at this)
  · have HNO := Lib.hid (Tb.ok_len (s := s) (by omega))
    have HG := Lib.hid (show Tb.got s = Tb.T.zero by unfold Tb.got; rw [if_neg (by rw [HNO.out]; simp)])
    have hne : ((n : Int) != 64) = true := by simp; omega
    have HZ := Lib.hid (Blk.new w #[.int .i64 0, .int .i64 0, .slice none 0 0] 31)
    have HB0 := Lib.hid ((Below.refl w.heap.size w).alloc (Nat.le_refl _) (.cells #[.int .i64 0, .int .i64 0, .slice none 0 0] 31))
    clear hA hn
    unfold Gives9A
    go_enter Tryz.func45, Tryz.ntmps45
    go_wp2
    have HF2 := HZ.out
    have HK2 := HB0.out
    generalize w.alloc (.cells #[.int .i64 0, .int .i64 0, .slice none 0 0] 31) = wf at *
    obtain ⟨y0, y1, y2⟩ := HF2.three
    refine bodyPost_ret (v := .tuple #[tabV 0 0 none 0 0, .bool false]) (w := wf) (by simp [results, Tryz.results45, go_sem, y0, y1, y2]) rfl ?_
    rw [HG.out, HNO.out]
    exact ⟨none, 0, 0, rfl, rfl, Nat.le_refl _, Lies.nil, HK2, fun _ h => by cases h⟩
theorem rget_any (A : Option Addr) (cap n : Nat) (s : List UInt8) (w : World) (hn : s.length = n) (hc : n ≤ cap) (hA : Lies w A (cells s)) :
    Calls Tryz.prog 45 #[.slice A n cap] w (Gives9B w s) := (rget_new A cap n s w hn hc hA).mono fun _ _ h => h.weak

end Go.Proofs.YtehnhjnkbclnlaaGreatDoor
