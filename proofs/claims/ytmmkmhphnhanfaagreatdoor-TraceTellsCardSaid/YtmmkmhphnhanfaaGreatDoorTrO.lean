/-
  Layer 5: trace.Of: what it answers, of any spans: what a trace is, in short. Nothing is assumed but that the spans lie in memory.
-/
import Derived.Test.YtmmkmhphnhanfaaGreatDoorTrV
import Derived.Test.YtmmkmhphnhanfaaGreatDoorSoftL

namespace Go.Proofs.YtmmkmhphnhanfaaGreatDoor
open Go.RowKit
set_option maxRecDepth 100000

/-- a brief that was handed back -/
def GivesB (w w' : World) (b : Plain.Br) (v : Value) : Prop := ∃ A cap, v = .agg #[.int .i64 b.id, .int .i64 b.lo, .int .i64 b.hi, .int .i64 (b.many : Int), .slice A b.sv.length cap] ∧ b.sv.length ≤ cap ∧ cap ≤ maxLen ∧ Lies w' A (strs b.sv) ∧ Below w.heap.size w w'
theorem Blk.five {w : World} {r : Nat} {z0 z1 z2 z3 z4 : Value} {t : TypeId} (h : Blk w r #[z0, z1, z2, z3, z4] t) :
    w.cell? ⟨r, 0, none⟩ = some z0 ∧ w.cell? ⟨r, 1, none⟩ = some z1 ∧ w.cell? ⟨r, 2, none⟩ = some z2 ∧ w.cell? ⟨r, 3, none⟩ = some z3 ∧ w.cell? ⟨r, 4, none⟩ = some z4 :=
  ⟨h.cell 0, h.cell 1, h.cell 2, h.cell 3, h.cell 4⟩
/-- a brief stored whole -/
theorem five (w : World) (r : Nat) (z0 z1 z2 z3 z4 v0 v1 v2 v3 v4 : Value) (t : TypeId) (h : Blk w r #[z0, z1, z2, z3, z4] t) :
    Blk (((((w.setCell ⟨r, 0, none⟩ v0).setCell ⟨r, 1, none⟩ v1).setCell ⟨r, 2, none⟩ v2).setCell ⟨r, 3, none⟩ v3).setCell ⟨r, 4, none⟩ v4) r #[v0, v1, v2, v3, v4] t ∧
    Kept [r] w (((((w.setCell ⟨r, 0, none⟩ v0).setCell ⟨r, 1, none⟩ v1).setCell ⟨r, 2, none⟩ v2).setCell ⟨r, 3, none⟩ v3).setCell ⟨r, 4, none⟩ v4) :=
  ⟨by have := ((((h.set 0 v0).set 1 v1).set 2 v2).set 3 v3).set 4 v4; simpa only [List.setIfInBounds_toArray, List.set_cons_succ, List.set_cons_zero] using this, ((((((Kept.refl _ _).setCell (by simp) _).setCell (by simp) _).setCell (by simp) _).setCell (by simp) _).setCell (by simp) _)⟩

/-- texts are not in a block that has no text -/
theorem lies_kept {w w' : World} {A : Option Addr} {ts : List (List UInt8)} {g : Nat} {cs : Array Value} {t : TypeId} (h : Lies w A (strs ts)) (hb : Blk w g cs t) (hn : ∀ (i : Nat) (s : ByteArray), cs[i]? ≠ some (.string s)) (k : Kept [g] w w') : Lies w' A (strs ts) := by
  rcases h with h | ⟨ad, e, hlt, hc⟩
  · exact .inl h
  · rcases ts with _ | ⟨x, r⟩
    · exact .inl rfl
    have hg : ad.block ≠ g := by
      intro he
      have h0 := hc 0 (.string (str x)) rfl
      have e0 : ad.add 0 = ad := rfl
      rw [e0] at h0
      unfold World.cell? at h0
      rw [he, show w.heap[g]? = _ from hb] at h0
      simp only at h0
      split at h0
      · cases h0
      · exact hn _ _ h0
    refine .inr ⟨ad, e, Nat.lt_of_lt_of_le hlt k.size, fun j u hu => ?_⟩
    have h1 := hc j u hu
    have hb2 : (ad.add j).block = ad.block := addr_block ad j
    have h2 := k.block (ad.add j).block (by rw [hb2]; exact hlt) (by rw [hb2]; simpa using hg)
    unfold World.cell? at h1 ⊢
    rw [h2]; exact h1

/-! what is known of values in an open statement -/
def Fact.texts (ts : List (List UInt8)) : Fact := ⟨fun v w => ∃ A cap, v = .slice A ts.length cap ∧ ts.length ≤ cap ∧ cap ≤ maxLen ∧ Lies w A (strs ts), fun _ _ _ ⟨A, c, e, h1, h2, h⟩ hb => ⟨A, c, e, h1, h2, h.below hb⟩⟩
def Fact.brief (i lo hi m : Int) (ts : List (List UInt8)) : Fact := ⟨fun v w => ∃ A cap, v = .agg #[.int .i64 i, .int .i64 lo, .int .i64 hi, .int .i64 m, .slice A ts.length cap] ∧ ts.length ≤ cap ∧ cap ≤ maxLen ∧ Lies w A (strs ts), fun _ _ _ ⟨A, c, e, h1, h2, h⟩ hb => ⟨A, c, e, h1, h2, h.below hb⟩⟩
def Fact.blk (B : Nat) (cs : Array Value) (t : TypeId) : Fact := ⟨fun v w => ∃ g, v = .pointer (some ⟨g, 0, none⟩) ∧ B ≤ g ∧ Blk w g cs t, fun _ _ _ ⟨g, e, h1, h⟩ hb => ⟨g, e, h1, (Kept.of hb []).blk h (by simp)⟩⟩
theorem gives_texts {w : World} {ts : List (List UInt8)} : ∀ (e : Ending) (w' : World), (∃ v, e = .returned v ∧ GivesT w w' ts v) → ∃ v, e = .returned v ∧ (Fact.texts ts).φ v w' ∧ Below w.heap.size w w' := fun _ _ ⟨v, he, A, c, e, h1, h2, h3, h4⟩ => ⟨v, he, ⟨A, c, e, h1, h2, h3⟩, h4⟩
theorem soft_build {w : World} {ρ : Operand → Value} {o : Oper} {x0 x1 x3 x4 : Operand} {i lo m : Int} {ts : List (List UInt8)} (h0 : ρ x0 = .int .i64 i) (h1 : ρ x1 = .int .i64 lo) (h3 : ρ x3 = .int .i64 m) (h4 : (Fact.texts ts).φ (ρ x4) w) (ho : o.op = .build 35 #[(0, x0), (1, x1), (3, x3), (4, x4)]) :
    softUpon Tryz.prog w (Fact.brief i lo 0 m ts) ((execOp ρ o).run Tryz.prog w) := by
  obtain ⟨A, c, e, q1, q2, q3⟩ := h4
  have hr : (execOp ρ o).run Tryz.prog w = .ok (.value (.agg #[.int .i64 i, .int .i64 lo, .int .i64 0, .int .i64 m, .slice A ts.length c])) w := by
    simp [execOp, ho, h0, h1, h3, e, go_sem]
  rw [hr]
  exact ⟨⟨A, c, rfl, q1, q2, q3⟩, Below.refl _ _⟩
theorem soft_alloc {w : World} {ρ : Operand → Value} {o : Oper} {B : Nat} (hB : B ≤ w.heap.size) (ho : o.op = .alloc 35) :
    softUpon Tryz.prog w (Fact.blk B #[.int .i64 0, .int .i64 0, .int .i64 0, .int .i64 0, .slice none 0 0] 35) ((execOp ρ o).run Tryz.prog w) := by
  have hr : (execOp ρ o).run Tryz.prog w = .ok (.value (.pointer (some ⟨w.heap.size, 0, none⟩))) (w.alloc (.cells #[.int .i64 0, .int .i64 0, .int .i64 0, .int .i64 0, .slice none 0 0] 35)) := by
    simp [execOp, ho, go_sem]
  rw [hr]
  exact ⟨⟨_, rfl, hB, Blk.new _ _ _⟩, (Below.refl _ _).alloc (Nat.le_refl _) _⟩
theorem max_run (x y : Int) (W : World) : (Builtin.max_ #[2, 2] 2 #[.int .i64 x, .int .i64 y]).run Tryz.prog W = .ok (.int .i64 (max x y)) W := by
  rcases Int.lt_or_le x y with h | h
  · have e : max x y = y := by omega
    rw [e]
    simp [Builtin.max_, Builtin.max2, go_sem, h]
  · have e : max x y = x := by omega
    have h2 : ¬ x < y := by omega
    rw [e]
    simp [Builtin.max_, Builtin.max2, go_sem, h2]
theorem soft_max {w : World} {ρ : Operand → Value} {o : Oper} {x y : Operand} {a b : Int} (hx : ρ x = .int .i64 a) (hy : ρ y = .int .i64 b) (ho : o.op = .call { callee := .builtin .max, args := #[x, y], argTypes := #[2, 2] }) (hty : o.type = 2) :
    softUpon Tryz.prog w (Fact.is (.int .i64 (max a b))) ((execOp ρ o).run Tryz.prog w) := by
  have hr : (execOp ρ o).run Tryz.prog w = .ok (.value (.int .i64 (max a b))) w := by
    simp [execOp, ho, hty, resolve, invoke, builtin, hx, hy, max_run a b w, Result.andThen]
  rw [hr]
  exact ⟨rfl, Below.refl _ _⟩
/-- a late store -/
theorem late_store {P : Program} {o : Oper} {x y : Operand} {t : TypeId} {p : Addr} {v : Value} {a : Act} {W W' : World} {K : Act → World → Prop} {Q : Exit → Act → World → Prop} (ho : o.op = .store t x y) (hx : a.eval x = .pointer (some p)) (hy : a.eval y = v) (hr : (Instr.storeAt t (.pointer (some p)) v).run P W = .ok () W') (hK : K (a.put o.dst undef) W') : o.wp P a W K Q := by
  unfold Oper.wp
  have e : (execOp a.eval o).run P W = .ok .skip W' := by
    simp [execOp, ho, hx, hy, hr]
  rw [e]
  exact hK
theorem store_num {W : World} {g j : Nat} {z x : Int} {cs : Array Value} {t : TypeId} (h : Blk W g cs t) (hz : cs[j]? = some (.int .i64 z)) : (Instr.storeAt 2 (.pointer (some ⟨g, j, none⟩)) (.int .i64 x)).run Tryz.prog W = .ok () (W.setCell ⟨g, j, none⟩ (.int .i64 x)) := by
  have h1 : W.cell? ⟨g, j, none⟩ = some (.int .i64 z) := (h.cell j).trans hz
  have h2 := h.frozen j
  go_simp
theorem store_brief {W : World} {g : Nat} {z0 z1 z2 z3 z4 : Value} {a b c d : Int} {A : Option Addr} {m cap : Nat} (h : Blk W g #[z0, z1, z2, z3, z4] 35) : (Instr.storeAt 35 (.pointer (some ⟨g, 0, none⟩)) (.agg #[.int .i64 a, .int .i64 b, .int .i64 c, .int .i64 d, .slice A m cap])).run Tryz.prog W = .ok () (((((W.setCell ⟨g, 0, none⟩ (.int .i64 a)).setCell ⟨g, 1, none⟩ (.int .i64 b)).setCell ⟨g, 2, none⟩ (.int .i64 c)).setCell ⟨g, 3, none⟩ (.int .i64 d)).setCell ⟨g, 4, none⟩ (.slice A m cap)) := by
  obtain ⟨z0, z1, z2, z3, z4⟩ := h.five
  have fz := h.frozen
  go_simp
end Go.Proofs.YtmmkmhphnhanfaaGreatDoor

namespace Go.Proofs.YtmmkmhphnhanfaaGreatDoor
open Go.RowKit
set_option maxRecDepth 100000

theorem no_text0 : ∀ (i : Nat) (s : ByteArray), (#[.int .i64 0, .int .i64 0, .int .i64 0, .int .i64 0, .slice none 0 0] : Array Value)[i]? ≠ some (.string s) := by
  intro i s h
  match i, h with
  | 0, h => simp at h
  | 1, h => simp at h
  | 2, h => simp at h
  | 3, h => simp at h
  | 4, h => simp at h
  | i + 5, h => simp at h
theorem no_text (a b c d : Int) (A : Option Addr) (m cap : Nat) : ∀ (i : Nat) (s : ByteArray), (#[.int .i64 a, .int .i64 b, .int .i64 c, .int .i64 d, .slice A m cap] : Array Value)[i]? ≠ some (.string s) := by
  intro i s h
  match i, h with
  | 0, h => simp at h
  | 1, h => simp at h
  | 2, h => simp at h
  | 3, h => simp at h
  | 4, h => simp at h
  | i + 5, h => simp at h

set_option maxHeartbeats 8000000 in
theorem tof_any (A : Option Addr) (n cap : Nat) (l : List Plain.Sp) (w : World) (hn : l.length = n) (hm : n ≤ maxLen) (hA : Lies w A (flat l)) (hS : Fine l) :
    Calls Tryz.prog 20 #[.slice A n cap] w fun e w' => ∃ v, e = .returned v ∧ GivesB w w' (Plain.brief l) v := by
  have HN := Lib.hid hn
  have HA := Lib.hid hA
  have HS := Lib.hid hS
  have b0 := Blk.new w #[.int .i64 0, .int .i64 0, .int .i64 0, .int .i64 0, .slice none 0 0] 35
  have c0 : Below w.heap.size w (w.alloc (.cells #[.int .i64 0, .int .i64 0, .int .i64 0, .int .i64 0, .slice none 0 0] 35)) := (Below.refl _ _).alloc (Nat.le_refl _) _
  have HR := Lib.hid (tright_any A n cap l _ hn hm (hA.below c0) hS)
  have HB0 := Lib.hid b0
  clear hn hA hS b0
  obtain ⟨R, hRR⟩ : ∃ R, Plain.isT l = R := ⟨_, rfl⟩
  rw [hRR] at HR
  go_enter Tryz.func20, Tryz.ntmps20
  go_wp2_with fail
  refine HR.out.mono ?_
  rintro e w2 ⟨rfl, d1⟩
  have c1 := c0.trans (d1.mono c0.size)
  have HB1 := Lib.hid ((Kept.of d1 []).blk HB0.out (by simp))
  have hs1 : w.heap.size < w2.heap.size := HB1.out.lt
  rcases R with _ | _
  · have HBF := Lib.hid (Plain.brief_no hRR)
    clear hRR HR
    obtain ⟨y0, y1, y2, y3, y4⟩ := HB1.out.five
    have fz := HB1.out.frozen
    go_wp2
    obtain ⟨bf, kf⟩ := five w2 w.heap.size _ _ _ _ _ (.int .i64 0) (.int .i64 0) (.int .i64 0) (.int .i64 0) (.slice none 0 0) _ HB1.out
    generalize ((((w2.setCell ⟨w.heap.size, 0, none⟩ (.int .i64 0)).setCell ⟨w.heap.size, 1, none⟩ (.int .i64 0)).setCell ⟨w.heap.size, 2, none⟩ (.int .i64 0)).setCell ⟨w.heap.size, 3, none⟩ (.int .i64 0)).setCell ⟨w.heap.size, 4, none⟩ (.slice none 0 0) = wf at *
    clear y0 y1 y2 y3 y4
    obtain ⟨y0, y1, y2, y3, y4⟩ := bf.five
    refine bodyPost_ret (v := .agg #[.int .i64 0, .int .i64 0, .int .i64 0, .int .i64 0, .slice none 0 0]) (w := wf) (by simp [results, Tryz.results20, go_sem, y0, y1, y2, y3, y4]) rfl ?_
    rw [HBF.out]
    exact ⟨_, rfl, none, 0, rfl, by simp [Plain.Br.zero], by unfold maxLen; omega, .inl rfl, Kept.below c1 kf (by simp)⟩
  obtain ⟨h1n, h64⟩ := Plain.isT_len hRR
  rw [HN.out] at h1n h64
  have HBF := Lib.hid (Plain.brief_yes hRR)
  have HRT := Lib.hid (Plain.isT_right hRR)
  have h0l : 0 < l.length := by rw [HN.out]; omega
  rw [head_at h0l, HN.out] at HBF
  obtain ⟨ad, rfl, hadb, hc0⟩ := at_span HA.out 0 h0l
  have hbd : Below w2.heap.size w2 w2.drew := (Below.refl _ _).drew
  have LZT := Lib.hid (fun (W : World) (h : Below w2.heap.size w2 W) => load_num_at (hc0 W (c1.trans (h.mono c1.size))).1)
  have LZS := Lib.hid (fun (W : World) (h : Below w2.heap.size w2 W) => load_num_at (hc0 W (c1.trans (h.mono c1.size))).2.2.2.1)
  have HSV := Lib.hid (fun (W : World) (h : Below w2.heap.size w2 W) => sortedServ_any (some ad) n cap l W HN.out h1n h64 (HA.out.below (c1.trans (h.mono c1.size))) HS.out)
  clear hc0 hRR HR
  generalize l[0].t = zt at *
  generalize l[0].s = zs at *
  have HSVQ := Lib.hid (show ∃ SV, Plain.svs l = SV from ⟨_, rfl⟩)
  obtain ⟨SV, hSV⟩ := HSVQ.out
  rw [hSV] at HBF HSV
  clear HSVQ hSV
  go_wp2
  refine wp_late (by kernel_rfl) 37 [(10, [0]), (11, [10]), (12, [11]), (13, [12]), (14, [0]), (15, [14]), (16, [15]), (17, [16]), (18, [0]), (19, [18]), (20, [0]), (21, [20]), (22, [13, 17, 19, 21]), (3, []), (1014, [3, 22])]
    [Fact.is (.slice (some ad) n cap), Fact.is (.pointer (some (Addr.add ad (0 * 7)))), Fact.is (.pointer (some (Addr.add ad (0 * 7)))), Fact.is (.int .i64 zt), Fact.is (.slice (some ad) n cap), Fact.is (.pointer (some (Addr.add ad (0 * 7)))), Fact.is (.pointer (some ⟨((Addr.add ad (0 * 7))).block, ((Addr.add ad (0 * 7))).off + 3, none⟩)), Fact.is (.int .i64 zs), Fact.is (.slice (some ad) n cap), Fact.is (.int .i64 n), Fact.is (.slice (some ad) n cap), Fact.texts SV, Fact.brief zt zs 0 (n : Int) SV, Fact.blk w2.heap.size #[.int .i64 0, .int .i64 0, .int .i64 0, .int .i64 0, .slice none 0 0] 35, default]
    [1, 1, 1, 1, 1, 1, 1, 1, 1, 1, 1, 1, 1, 1, 2] [14] [3] [10, 11, 12, 13, 14, 15, 16, 17, 18, 19, 20, 21, 22, 3] (fun p vs w' => match p, vs with | 1, [v] => ∃ g A cap, v = .pointer (some ⟨g, 0, none⟩) ∧ Blk w' g #[.int .i64 zt, .int .i64 zs, .int .i64 0, .int .i64 (n : Int), .slice A SV.length cap] 35 ∧ w2.heap.size ≤ g ∧ SV.length ≤ cap ∧ cap ≤ maxLen ∧ Lies w' A (strs SV) ∧ Below w2.heap.size w2 w' | _, _ => False)
    (by kernel_rfl) (by kernel_rfl) rfl rfl ⟨?s0, ?s1, ?s2, ?s3, ?s4, ?s5, ?s6, ?s7, ?s8, ?s9, ?s10, ?s11, ?s12, ?s13, trivial⟩ ?late ?fin
  case s0 =>
    intro ρ W hb hc hf hr
    obtain ⟨r0, -⟩ := hr
    have e0 : ρ (.tmp 0) = .slice (some ad) n cap := r0
    clear r0
    refine under_none rfl ?_
    exact ⟨e0, Below.refl _ _⟩
  case s1 =>
    intro ρ W hb hc hf hr
    obtain ⟨r10, -⟩ := hr
    have e10 : ρ (.tmp 10) = .slice (some ad) n cap := r10
    clear r10
    refine under_none rfl ?_
    exact soft_index7 e10 (hc _) (by omega) rfl
  case s2 =>
    intro ρ W hb hc hf hr
    obtain ⟨r11, -⟩ := hr
    have e11 : ρ (.tmp 11) = .pointer (some (Addr.add ad (0 * 7))) := r11
    clear r11
    refine under_none rfl ?_
    exact soft_field e11 rfl (fun W => by go_simp)
  case s3 =>
    intro ρ W hb hc hf hr
    obtain ⟨r12, -⟩ := hr
    have e12 : ρ (.tmp 12) = .pointer (some (Addr.add ad (0 * 7))) := r12
    clear r12
    refine under_none rfl ?_
    exact soft_load e12 (LZT.out W (hbd.trans (hb.mono (by simp)))) rfl
  case s4 =>
    intro ρ W hb hc hf hr
    obtain ⟨r0, -⟩ := hr
    have e0 : ρ (.tmp 0) = .slice (some ad) n cap := r0
    clear r0
    refine under_none rfl ?_
    exact ⟨e0, Below.refl _ _⟩
  case s5 =>
    intro ρ W hb hc hf hr
    obtain ⟨r14, -⟩ := hr
    have e14 : ρ (.tmp 14) = .slice (some ad) n cap := r14
    clear r14
    refine under_none rfl ?_
    exact soft_index7 e14 (hc _) (by omega) rfl
  case s6 =>
    intro ρ W hb hc hf hr
    obtain ⟨r15, -⟩ := hr
    have e15 : ρ (.tmp 15) = .pointer (some (Addr.add ad (0 * 7))) := r15
    clear r15
    refine under_none rfl ?_
    exact soft_field e15 rfl (fun W => by go_simp)
  case s7 =>
    intro ρ W hb hc hf hr
    obtain ⟨r16, -⟩ := hr
    have e16 : ρ (.tmp 16) = .pointer (some ⟨((Addr.add ad (0 * 7))).block, ((Addr.add ad (0 * 7))).off + 3, none⟩) := r16
    clear r16
    refine under_none rfl ?_
    exact soft_load e16 (LZS.out W (hbd.trans (hb.mono (by simp)))) rfl
  case s8 =>
    intro ρ W hb hc hf hr
    obtain ⟨r0, -⟩ := hr
    have e0 : ρ (.tmp 0) = .slice (some ad) n cap := r0
    clear r0
    refine under_none rfl ?_
    exact ⟨e0, Below.refl _ _⟩
  case s9 =>
    intro ρ W hb hc hf hr
    obtain ⟨r18, -⟩ := hr
    have e18 : ρ (.tmp 18) = .slice (some ad) n cap := r18
    clear r18
    refine under_none rfl ?_
    simp [e18, go_sem, softUpon, Fact.is, Below.refl]
  case s10 =>
    intro ρ W hb hc hf hr
    obtain ⟨r0, -⟩ := hr
    have e0 : ρ (.tmp 0) = .slice (some ad) n cap := r0
    clear r0
    refine under_none rfl ?_
    exact ⟨e0, Below.refl _ _⟩
  case s11 =>
    intro ρ W hb hc hf hr
    obtain ⟨r20, -⟩ := hr
    have e20 : ρ (.tmp 20) = .slice (some ad) n cap := r20
    clear r20
    refine under_none rfl ?_
    exact soft_call1 hf e20 (HSV.out W (hbd.trans (hb.mono (by simp)))) rfl (by kernel_rfl) gives_texts
  case s12 =>
    intro ρ W hb hc hf hr
    obtain ⟨r13, r17, r19, r21, -⟩ := hr
    have e13 : ρ (.tmp 13) = .int .i64 zt := r13
    clear r13
    have e17 : ρ (.tmp 17) = .int .i64 zs := r17
    clear r17
    have e19 : ρ (.tmp 19) = .int .i64 n := r19
    clear r19
    refine under_none rfl ?_
    exact soft_build e13 e17 e19 r21 rfl
  case s13 =>
    intro ρ W hb hc hf hr
    clear hr
    refine under_none rfl ?_
    exact soft_alloc (hbd.trans (hb.mono (by simp))).size rfl
  case late =>
    intro p j o hj ho a W hsz h0 h1 hfr hou
    match p, hj with
    | 0, hj =>
      obtain rfl : 14 = j := Option.some.inj hj
      obtain rfl := Option.some.inj ho
      clear hj ho
      obtain ⟨hb, hhard⟩ := h0 rfl
      have r3 : (Fact.blk w2.heap.size #[.int .i64 0, .int .i64 0, .int .i64 0, .int .i64 0, .slice none 0 0] 35).φ (a.tmps.getD 3 undef) W := hhard 3 13 rfl rfl
      have r22 : (Fact.brief zt zs 0 (n : Int) SV).φ (a.tmps.getD 22 undef) W := hhard 22 12 rfl rfl
      clear h0 h1 hhard hfr hou
      obtain ⟨A1, c1', e22, q1, q2, q3⟩ := r22
      obtain ⟨g, e3, hg1, hg2⟩ := r3
      obtain ⟨bf, kf⟩ := five W g _ _ _ _ _ (.int .i64 zt) (.int .i64 zs) (.int .i64 0) (.int .i64 (n : Int)) (.slice A1 SV.length c1') _ hg2
      refine late_store rfl e3 e22 (store_brief hg2) ⟨undef, rfl, ?_⟩
      exact ⟨g, A1, c1', e3, bf, hg1, q1, q2, lies_kept q3 hg2 no_text0 kf, Kept.below (hbd.trans (hb.mono (by simp))) kf (by simpa using hg1)⟩
    | q + 1, hj => cases hj
  case fin =>
    intro a w3 ha hP
    obtain ⟨g, AS, cs, e3, hbg, hgw, hs1', hs2', hLS, d3⟩ := hP
    have e3 : a.tmps.getD 3 undef = .pointer (some ⟨g, 0, none⟩) := e3
    simp only [List.foldl_cons, List.foldl_nil, e3] at ha
    clear e3
    generalize a.tmps.getD 10 undef = v10 at ha
    generalize a.tmps.getD 11 undef = v11 at ha
    generalize a.tmps.getD 12 undef = v12 at ha
    generalize a.tmps.getD 13 undef = v13 at ha
    generalize a.tmps.getD 14 undef = v14 at ha
    generalize a.tmps.getD 15 undef = v15 at ha
    generalize a.tmps.getD 16 undef = v16 at ha
    generalize a.tmps.getD 17 undef = v17 at ha
    generalize a.tmps.getD 18 undef = v18 at ha
    generalize a.tmps.getD 19 undef = v19 at ha
    generalize a.tmps.getD 20 undef = v20 at ha
    generalize a.tmps.getD 21 undef = v21 at ha
    generalize a.tmps.getD 22 undef = v22 at ha
    simp only [Act.put, List.setIfInBounds_toArray, List.set_cons_succ, List.set_cons_zero] at ha
    subst ha
    have c3 := c1.trans (d3.mono c1.size)
    have HG3 := Lib.hid hbg
    have HL3 := Lib.hid hLS
    have hB3 := (Kept.of d3 []).blk HB1.out (by simp)
    have HB3 := Lib.hid hB3
    have hgR : g ≠ w.heap.size := by omega
    clear hbg hLS hB3 HB1 HB0 HSV LZT LZS
    go_wp2
    go_loopw [25] (fun i wr => ∃ k : Nat, i = .int .i64 k ∧ k ≤ n ∧ Blk wr g #[.int .i64 zt, .int .i64 zs, .int .i64 (Plain.top (l.take k)), .int .i64 (n : Int), .slice AS SV.length cs] 35 ∧ Kept [g] w3 wr ∧ Lies wr AS (strs SV)) (fun i _ => n - (intOf i).toNat)
    case atStart => exact ⟨0, rfl, Nat.zero_le _, HG3.out, Kept.refl _ _, HL3.out⟩
    case round =>
      obtain ⟨k, rfl, hk, hbk, hkk, hlk⟩ := hrel
      have HBK := Lib.hid hbk
      have HLK := Lib.hid hlk
      clear hbk hlk
      have hbr : Below w.heap.size w wr := Kept.below c3 hkk (by simp; omega)
      by_cases hlt : k < n
      · have hkl : k < l.length := by rw [HN.out]; exact hlt
        obtain ⟨ad', had, -, hc⟩ := at_span HA.out k hkl
        obtain rfl : ad = ad' := by injection had
        obtain ⟨x0, x1, x2, x3, x4, x5, x6⟩ := hc wr hbr
        obtain ⟨hxv, hxn⟩ := HS.out l[k] (List.getElem_mem hkl)
        have HT := Lib.hid (show Plain.top (l.take (k + 1)) = max (Plain.top (l.take k)) (l[k].s + l[k].d) by rw [List.take_succ_eq_append_getElem hkl, Plain.top_snoc])
        have hR := sp_right l[k]
        rw [HRT.out _ (List.getElem_mem hkl)] at hR
        rw [← str_size] at hxv hxn
        clear hc had
        generalize l[k] = x at *
        obtain ⟨xt, xi, xp, xs, xd, xv, xn⟩ := x
        simp only at *
        generalize str xv = XV at *
        generalize str xn = XN at *
        have HE := Lib.hid (fun (W : World) => end_any xt xi xp xs xd XV XN W true hxv hxn hR)
        have hEE : endN true xs xd = xs + xd := rfl
        rw [hEE] at HE
        clear hR hEE
        generalize Plain.top (l.take k) = T at *
        generalize xs + xd = E at *
        have bx := Blk.new wr #[.int .i64 xt, .int .i64 xi, .int .i64 xp, .int .i64 xs, .int .i64 xd, .string XV, .string XN] 40
        obtain ⟨VX, hVX⟩ : ∃ VX, (wr.alloc (.cells #[.int .i64 xt, .int .i64 xi, .int .i64 xp, .int .i64 xs, .int .i64 xd, .string XV, .string XN] 40)) = VX := ⟨_, rfl⟩
        rw [hVX] at bx
        have kV : Kept [] wr VX := by rw [← hVX]; exact (Kept.refl _ _).alloc _
        have hsV : VX.heap.size = wr.heap.size + 1 := by rw [← hVX]; simp
        have hbd : Below VX.heap.size VX VX.drew := (Below.refl _ _).drew
        have bgV := kV.blk HBK.out (by simp)
        have hgV := bgV.lt
        have LX := Lib.hid (fun (W : World) (h : Below VX.heap.size VX W) => load_span ((Kept.of h []).blk bx (by simp)))
        have LT := Lib.hid (fun (W : World) (h : Below VX.heap.size VX W) => load_num (((Kept.of h []).blk bgV (by simp)).cell 2))
        have HVX := Lib.hid hVX
        have HLV := Lib.hid (HLK.out.below kV.to)
        clear hVX bx
        go_wp2
        rw [HVX.out]
        refine wp_late (by kernel_rfl) 37 [(29, [3]), (30, [29]), (31, [5]), (32, [31]), (33, [30, 32]), (34, [3]), (1006, [34, 33])]
          [Fact.is (.pointer (some ⟨g, 2, none⟩)), Fact.is (.int .i64 T), Fact.is (.agg #[.int .i64 xt, .int .i64 xi, .int .i64 xp, .int .i64 xs, .int .i64 xd, .string XV, .string XN]), Fact.is (.int .i64 E), Fact.is (.int .i64 (max T E)), Fact.is (.pointer (some ⟨g, 2, none⟩)), default]
          [1, 1, 1, 1, 1, 1, 2] [6] [] [29, 30, 31, 32, 33, 34] (fun p vs w' => match p, vs with | 1, [] => Blk w' g #[.int .i64 zt, .int .i64 zs, .int .i64 (max T E), .int .i64 (n : Int), .slice AS SV.length cs] 35 ∧ Kept [g] VX w' | _, _ => False)
          (by kernel_rfl) (by kernel_rfl) rfl rfl ⟨?s0, ?s1, ?s2, ?s3, ?s4, ?s5, trivial⟩ ?late ?fin
        case s0 =>
          intro ρ W hb hc hf hr
          obtain ⟨r3, -⟩ := hr
          have e3 : ρ (.tmp 3) = .pointer (some ⟨g, 0, none⟩) := r3
          clear r3
          refine under_none rfl ?_
          exact soft_field e3 rfl (fun W => by go_simp)
        case s1 =>
          intro ρ W hb hc hf hr
          obtain ⟨r29, -⟩ := hr
          have e29 : ρ (.tmp 29) = .pointer (some ⟨g, 2, none⟩) := r29
          clear r29
          refine under_none rfl ?_
          exact soft_load e29 (LT.out W (hbd.trans (hb.mono (by simp)))) rfl
        case s2 =>
          intro ρ W hb hc hf hr
          obtain ⟨r5, -⟩ := hr
          have e5 : ρ (.tmp 5) = .pointer (some ⟨wr.heap.size, 0, none⟩) := r5
          clear r5
          refine under_none rfl ?_
          exact soft_load e5 (LX.out W (hbd.trans (hb.mono (by simp)))) rfl
        case s3 =>
          intro ρ W hb hc hf hr
          obtain ⟨r31, -⟩ := hr
          have e31 : ρ (.tmp 31) = .agg #[.int .i64 xt, .int .i64 xi, .int .i64 xp, .int .i64 xs, .int .i64 xd, .string XV, .string XN] := r31
          clear r31
          refine under_none rfl ?_
          exact soft_call1 hf e31 (HE.out W) rfl (by kernel_rfl) below_is
        case s4 =>
          intro ρ W hb hc hf hr
          obtain ⟨r30, r32, -⟩ := hr
          have e30 : ρ (.tmp 30) = .int .i64 T := r30
          clear r30
          have e32 : ρ (.tmp 32) = .int .i64 E := r32
          clear r32
          refine under_none rfl ?_
          exact soft_max e30 e32 rfl rfl
        case s5 =>
          intro ρ W hb hc hf hr
          obtain ⟨r3, -⟩ := hr
          have e3 : ρ (.tmp 3) = .pointer (some ⟨g, 0, none⟩) := r3
          clear r3
          refine under_none rfl ?_
          exact soft_field e3 rfl (fun W => by go_simp)
        case late =>
          intro p j o hj ho a W hsz h0 h1 hfr hou
          match p, hj with
          | 0, hj =>
            obtain rfl : 6 = j := Option.some.inj hj
            obtain rfl := Option.some.inj ho
            clear hj ho
            obtain ⟨hb, hhard⟩ := h0 rfl
            have e34 : a.eval (.tmp 34) = .pointer (some ⟨g, 2, none⟩) := hhard 34 5 rfl rfl
            have e33 : a.eval (.tmp 33) = .int .i64 (max T E) := hhard 33 4 rfl rfl
            clear h0 h1 hhard hfr hou
            have bgW := (Kept.of (hbd.trans (hb.mono (by simp))) []).blk bgV (by simp)
            have bset := bgW.set 2 (.int .i64 (max T E))
            refine late_store rfl e34 e33 (store_num bgW rfl) ⟨undef, rfl, ?_⟩
            exact ⟨by simpa using bset, ((Kept.of (hbd.trans (hb.mono (by simp))) [g]).setCell (by simp) _)⟩
          | q + 1, hj => cases hj
        case fin =>
          intro a w4 ha hP
          obtain ⟨hb4, hk4⟩ := hP
          simp only [List.foldl_cons, List.foldl_nil] at ha
          generalize a.tmps.getD 29 undef = v29 at ha
          generalize a.tmps.getD 30 undef = v30 at ha
          generalize a.tmps.getD 31 undef = v31 at ha
          generalize a.tmps.getD 32 undef = v32 at ha
          generalize a.tmps.getD 33 undef = v33 at ha
          generalize a.tmps.getD 34 undef = v34 at ha
          simp only [Act.put, List.setIfInBounds_toArray, List.set_cons_succ, List.set_cons_zero] at ha
          subst ha
          have HL4 := Lib.hid (lies_kept HLV.out bgV (no_text _ _ _ _ _ _ _) hk4)
          have HB4 := Lib.hid hb4
          clear hb4
          go_wp2
          go_roundw
          case rel => exact ⟨k + 1, by go_num, by omega, by rw [HT.out]; exact HB4.out, hkk.trans ((kV.mono (by simp)).trans hk4), HL4.out⟩
          case measure => simp [intOf]; omega
      · obtain rfl : k = n := by omega
        have htk : l.take k = l := List.take_of_length_le (by rw [HN.out]; omega)
        rw [htk] at HBK
        clear htk
        have HBR := Lib.hid (hkk.blk HB3.out (by simpa using fun e => hgR e.symm))
        obtain ⟨q0, q1, q2, q3, q4⟩ := HBK.out.five
        obtain ⟨y0, y1, y2, y3, y4⟩ := HBR.out.five
        have fz := HBR.out.frozen
        generalize Plain.top l = T at *
        go_wp2
        obtain ⟨bf, kf⟩ := five wr w.heap.size _ _ _ _ _ (.int .i64 zt) (.int .i64 zs) (.int .i64 T) (.int .i64 (k : Int)) (.slice AS SV.length cs) _ HBR.out
        have HLF := Lib.hid (lies_kept HLK.out HBR.out no_text0 kf)
        generalize ((((wr.setCell ⟨w.heap.size, 0, none⟩ (.int .i64 zt)).setCell ⟨w.heap.size, 1, none⟩ (.int .i64 zs)).setCell ⟨w.heap.size, 2, none⟩ (.int .i64 T)).setCell ⟨w.heap.size, 3, none⟩ (.int .i64 (k : Int))).setCell ⟨w.heap.size, 4, none⟩ (.slice AS SV.length cs) = wf at *
        clear y0 y1 y2 y3 y4
        obtain ⟨y0, y1, y2, y3, y4⟩ := bf.five
        refine bodyPost_ret (v := .agg #[.int .i64 zt, .int .i64 zs, .int .i64 T, .int .i64 (k : Int), .slice AS SV.length cs]) (w := wf) (by simp [results, Tryz.results20, go_sem, y0, y1, y2, y3, y4]) rfl ?_
        rw [HBF.out]
        exact ⟨_, rfl, AS, cs, rfl, hs1', hs2', HLF.out, Kept.below hbr kf (by simp)⟩
end Go.Proofs.YtmmkmhphnhanfaaGreatDoor

