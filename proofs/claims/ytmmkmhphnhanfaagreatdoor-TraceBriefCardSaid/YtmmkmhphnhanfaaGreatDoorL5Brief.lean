/-
  P5.4, TraceBrief: for all spans the law returns true: each span is within what a brief tells, and of one of its services; something begins, and ends, where it does; services rise, each of some span. No condition; what the row lists is tied to the program's text.
-/
import Derived.Test.YtmmkmhphnhanfaaGreatDoorTrHd
import Derived.Test.YtmmkmhphnhanfaaGreatDoorSoftA
import Derived.Sort.Walk0
namespace Go.Proofs.YtmmkmhphnhanfaaGreatDoor.traceBrief
open Go.ChangeShapes Go.WideShapes Go.ChangeAt Go.RowKit
set_option maxRecDepth 100000

theorem soft_index64 {w : World} {ρ : Operand → Value} {o : Oper} {x y : Operand} {g k : Nat} (hx : ρ x = .pointer (some ⟨g, 0, none⟩)) (hy : ρ y = .int .i64 (k : Int)) (hk : k < 64) (ho : o.op = .indexAddr 43 x y) : softUpon Tryz.prog w (Fact.is (.pointer (some ⟨g, k, none⟩))) ((execOp ρ o).run Tryz.prog w) := by
  have hr : (execOp ρ o).run Tryz.prog w = .ok (.value (.pointer (some ⟨g, k, none⟩))) w := by
    simp only [execOp, ho, hx, hy]
    go_simp
    intro h5
    omega
  rw [hr]
  exact ⟨rfl, Below.refl _ _⟩
theorem soft_indexT {w : World} {ρ : Operand → Value} {o : Oper} {x y : Operand} {ad : Addr} {n cap k : Nat} (hx : ρ x = .slice (some ad) n cap) (hy : ρ y = .int .i64 (k : Int)) (hk : k < n) (ho : o.op = .indexAddr 33 x y) : softUpon Tryz.prog w (Fact.is (.pointer (some (Addr.add ad k)))) ((execOp ρ o).run Tryz.prog w) := by
  have hr : (execOp ρ o).run Tryz.prog w = .ok (.value (.pointer (some (Addr.add ad k)))) w := by
    simp only [execOp, ho, hx, hy]
    go_simp
  rw [hr]
  exact ⟨rfl, Below.refl _ _⟩
theorem load_bool {W : World} {a : Addr} {x : Bool} (h : W.cell? a = some (.bool x)) : (Instr.loadAt 4 (.pointer (some a))).run Tryz.prog W = .ok (.bool x) W := by
  go_simp
theorem load_text {W : World} {a : Addr} {x : ByteArray} (h : W.cell? a = some (.string x)) : (Instr.loadAt 9 (.pointer (some a))).run Tryz.prog W = .ok (.string x) W := by
  go_simp
theorem load_texts {W : World} {a : Addr} {A : Option Addr} {n c : Nat} (h : W.cell? a = some (.slice A n c)) : (Instr.loadAt 33 (.pointer (some a))).run Tryz.prog W = .ok (.slice A n c) W := by
  go_simp
/-- what is told of a trace's spans -/
theorem told {s : List Plain.Sp} (h : Plain.isT s = true) : (Plain.brief s).sv.length ≤ 64 ∧ (Plain.brief s).many = s.length ∧ (∀ x ∈ s, (Plain.brief s).lo ≤ x.s ∧ x.s + x.d ≤ (Plain.brief s).hi ∧ x.sv ∈ (Plain.brief s).sv ∧ x.t = (Plain.brief s).id ∧ 0 ≤ x.s + x.d ∧ x.s + x.d ≤ 281474976710656) ∧ (Plain.brief s).lo ∈ s.map Plain.Sp.s ∧ (Plain.brief s).hi ∈ s.map (fun x => x.s + x.d) ∧ (∀ t ∈ (Plain.brief s).sv, t ∈ s.map Plain.Sp.sv) ∧ Plain.up (Plain.brief s).sv := by
  have hl := Plain.isT_len h
  have hI := (Plain.isT_iff s).1 h
  have hr := Plain.isT_right h
  have hne : s ≠ [] := fun e => by rw [e] at hl; simp at hl
  have hm := Plain.head_mem hne
  have hb : ∀ x ∈ s, 0 ≤ x.s + x.d ∧ x.s + x.d ≤ 281474976710656 := fun x hx => by
    have := (Plain.Sp.right_iff x).1 (hr x hx)
    omega
  rw [Plain.brief_yes h]
  refine ⟨Nat.le_trans (Plain.svs_len s) hl.2, rfl, fun x hx => ⟨Plain.head_le hI x hx, Plain.top_ge s x hx, (Plain.svs_mem s x.sv).2 ⟨x, hx, rfl⟩, hI.1.2.2.2.1 x hx _ hm, hb x hx⟩, List.mem_map.2 ⟨_, hm, rfl⟩, ?_, fun t ht => ?_, Plain.svs_up s⟩
  · obtain ⟨x, hx, e⟩ := Plain.top_mem s hne fun x hx => (hb x hx).1
    exact List.mem_map.2 ⟨x, hx, e⟩
  · obtain ⟨x, hx, e⟩ := (Plain.svs_mem s t).1 ht
    exact List.mem_map.2 ⟨x, hx, e⟩
theorem mem_snoc {α : Type} (x y : α) (l : List α) [Decidable (y ∈ l ++ [x])] [Decidable (y ∈ l)] [Decidable (x = y)] : decide (y ∈ l ++ [x]) = (decide (y ∈ l) || decide (x = y)) := by
  rw [Bool.eq_iff_iff]
  simp only [decide_eq_true_eq, Bool.or_eq_true, List.mem_append, List.mem_singleton]
  exact ⟨fun h => h.imp id Eq.symm, fun h => h.imp id Eq.symm⟩
/-- the marks -/
def Marks (W : World) (g : Nat) (T : TypeId) (m : Nat) (f : Nat → Bool) : Prop := ∃ cs : Array Value, Blk W g cs T ∧ cs.size = 64 ∧ ∀ k < m, cs[k]? = some (.bool (f k))
theorem Marks.cell {W : World} {g m : Nat} {T : TypeId} {f : Nat → Bool} (h : Marks W g T m f) {k : Nat} (hk : k < m) : W.cell? ⟨g, k, none⟩ = some (.bool (f k)) ∧ W.frozen? ⟨g, k, none⟩ = false := by
  obtain ⟨cs, hb, _, hf⟩ := h
  exact ⟨(hb.cell k).trans (hf k hk), hb.frozen k⟩
theorem Marks.to {W W' : World} {g m : Nat} {T : TypeId} {f f' : Nat → Bool} (h : Marks W g T m f) (hb : Below W.heap.size W W') (hf : ∀ k < m, f k = f' k) : Marks W' g T m f' := by
  obtain ⟨cs, h1, h2, h3⟩ := h
  exact ⟨cs, (Kept.of hb []).blk h1 (by simp), h2, fun k hk => by rw [h3 k hk, hf k hk]⟩
theorem Marks.set {W : World} {g m : Nat} {T : TypeId} {f f' : Nat → Bool} (h : Marks W g T m f) (hm : m ≤ 64) {k : Nat} (hk : k < m) (hf : ∀ j < m, f' j = (f j || decide (j = k))) : Marks (W.setCell ⟨g, k, none⟩ (.bool true)) g T m f' := by
  obtain ⟨cs, h1, h2, h3⟩ := h
  refine ⟨_, h1.set k (.bool true), by simpa using h2, fun j hj => ?_⟩
  by_cases e : j = k
  · subst e
    rw [hf j hj]
    simp [show j < cs.size by omega]
  · rw [Array.getElem?_setIfInBounds_ne (Ne.symm e), h3 j hj, hf j hj]
    simp [e]
def zeros : Array Value := #[.bool false, .bool false, .bool false, .bool false, .bool false, .bool false, .bool false, .bool false, .bool false, .bool false, .bool false, .bool false, .bool false, .bool false, .bool false, .bool false, .bool false, .bool false, .bool false, .bool false, .bool false, .bool false, .bool false, .bool false, .bool false, .bool false, .bool false, .bool false, .bool false, .bool false, .bool false, .bool false, .bool false, .bool false, .bool false, .bool false, .bool false, .bool false, .bool false, .bool false, .bool false, .bool false, .bool false, .bool false, .bool false, .bool false, .bool false, .bool false, .bool false, .bool false, .bool false, .bool false, .bool false, .bool false, .bool false, .bool false, .bool false, .bool false, .bool false, .bool false, .bool false, .bool false, .bool false, .bool false]
theorem zeros_marks (W : World) (m : Nat) (hm : m ≤ 64) (T : TypeId) : Marks (W.alloc (.cells zeros T)) W.heap.size T m (fun _ => false) := by
  have e : zeros = Array.replicate 64 (.bool false) := rfl
  refine ⟨zeros, Blk.new _ _ _, by rw [e]; simp, fun k hk => ?_⟩
  rw [e, Array.getElem?_replicate, if_pos (by omega)]
theorem leq_no (a b : List UInt8) (h : b < a) : (Op.bytesLess (str a).toList (str b).toList || (str a).toList == (str b).toList) = false := by
  rw [str_toList, str_toList, bytesLess_eq, Bool.or_eq_false_iff]
  refine ⟨decide_eq_false fun h2 => List.lt_irrefl _ (List.lt_trans h h2), ?_⟩
  rw [beq_eq_false_iff_ne]
  intro e
  subst e
  exact List.lt_irrefl _ h

theorem leq_run (W : World) (a b : ByteArray) : (binOp .leq 9 (.string a) (.string b)).run Tryz.prog W = .ok (.bool (Op.bytesLess a.toList b.toList || a.toList == b.toList)) W := by
  simp [binOp, Op.stringOp]

set_option maxHeartbeats 16000000 in
theorem walk (w : World) (hT : Handle w) (A : Option Addr) (cap : Nat) (l : List Plain.Sp) (hl : l.length ≤ cap) (hm : cap ≤ maxLen) (hA : Lies w A (flat l)) (hS : ∀ x ∈ l, x.sv.length ≤ maxLen ∧ x.nm.length ≤ maxLen) :
    Calls Tryz.prog 6 #[.slice A l.length cap] w fun e w' => e = .returned (.bool true) ∧ Below w.heap.size w w' := by
  have HA := Lib.hid hA
  have HH := Lib.hid (show ∀ u, Below w.heap.size w u → Handle u from fun u h => hT.below hT.lt h)
  have HT := Lib.hid hT
  have HS := Lib.hid (show Fine l from hS)
  obtain ⟨n, hn⟩ : ∃ n, l.length = n := ⟨_, rfl⟩
  rw [hn] at hl ⊢
  have HN := Lib.hid hn
  have HM := Lib.hid hm
  unfold maxLen at hm
  clear hA hT hS hn
  go_enter Tryz.func6, Tryz.ntmps6
  go_wp2_with fail
  refine (head_any w HT.out).mono ?_
  rintro e w1 ⟨rfl, c1⟩
  go_wp2_with fail
  refine (great_any A n cap l w1 HN.out hl HM.out (HA.out.below c1)).mono ?_
  rintro e w2 ⟨g, rfl, hg, d2⟩
  have c2 := c1.trans (d2.mono c1.size)
  rcases g with _ | _
  rotate_left
  · go_wp2
    go_ret
    exact ⟨rfl, c2⟩
  have h300 := hg rfl
  clear hg
  have HSO := Lib.hid (tsort_any A n cap l w2 HN.out (Nat.le_trans hl HM.out) (HA.out.below c2) HS.out)
  have HF1 := Lib.hid (fine_ts l)
  have HIT := Lib.hid (Plain.ts_isT (l := l))
  have HNO := Lib.hid (Plain.ts_no (l := l))
  have htl := Plain.ts_len l
  obtain ⟨R, hR⟩ : ∃ R, Plain.isT (Plain.srt l) = R := ⟨_, rfl⟩
  rw [hR] at HSO HIT HNO
  obtain ⟨s, hs⟩ : ∃ s, Plain.ts l = s := ⟨_, rfl⟩
  rw [hs] at HSO HF1 HIT HNO htl
  obtain ⟨m3, hm3⟩ : ∃ m3, s.length = m3 := ⟨_, rfl⟩
  have HSL := Lib.hid hm3
  rw [hm3] at htl
  clear hR hs hm3
  go_wp2_with fail
  refine HSO.out.mono ?_
  rintro e w3 ⟨v3, rfl, A3, cap3, rfl, hl3, hm3, hL3, d3⟩
  have c3 := c2.trans (d3.mono c2.size)
  have HL3 := Lib.hid hL3
  rw [HSL.out] at hl3 ⊢
  have HOF := Lib.hid (tof_any A3 m3 cap3 s w3 HSL.out (Nat.le_trans hl3 hm3) HL3.out HF1.out)
  clear hL3 HSO
  rcases R with _ | _
  · obtain rfl := HNO.out rfl
    have h0 : m3 = 0 := HSL.out.symm
    subst h0
    have hbr0 : Plain.brief [] = Plain.Br.zero := Plain.brief_no Plain.isT_nil
    rw [hbr0] at HOF
    clear HIT HNO hbr0
    go_wp2_with fail
    refine HOF.out.mono ?_
    rintro e w4 ⟨v4, rfl, A4, cap4, rfl, hl4, hm4, hL4, d4⟩
    have c4 := c3.trans (d4.mono c3.size)
    have d4' : Below w4.heap.size w4 (w4.alloc (.cells #[.int .i64 0, .int .i64 0, .int .i64 0, .int .i64 0, .slice A4 0 cap4] 35)) := (Below.refl _ _).alloc (Nat.le_refl _) _
    have HSB := Lib.hid (sameB_any Plain.Br.zero Plain.Br.zero A4 none cap4 0 _ hl4 (Nat.le_refl _) hm4 (Nat.zero_le _) (hL4.below d4') (.inl rfl))
    rw [decide_eq_true rfl] at HSB
    have c5 := c4.trans (d4'.mono c4.size)
    have ez : Plain.Br.zero = ⟨0, 0, 0, 0, []⟩ := rfl
    rw [ez] at HSB ⊢
    simp only [List.length_nil] at HSB ⊢
    clear HOF d4'
    go_wp2_with fail
    refine HSB.out.mono ?_
    rintro e w6 ⟨rfl, d6⟩
    go_wp2
    go_ret
    exact ⟨rfl, c5.trans (d6.mono c5.size)⟩
  obtain ⟨t1, t2, t3, t4, t5, t6, t7⟩ := told (HIT.out rfl)
  generalize Plain.brief s = b at *
  obtain ⟨bi, lo, hi, bm, sv⟩ := b
  simp only at t1 t2 t3 t4 t5 t6 t7
  rw [HSL.out] at t2
  subst t2
  have HT3 := Lib.hid t3
  have HT4 := Lib.hid t4
  have HT5 := Lib.hid t5
  have HT6 := Lib.hid t6
  have HT7 := Lib.hid t7
  clear t3 t4 t5 t6 t7 HIT HNO
  go_wp2_with fail
  refine HOF.out.mono ?_
  rintro e w4 ⟨v4, rfl, A4, cap4, rfl, hl4, hm4, hL4, d4⟩
  simp only at hl4 hL4
  have c4 := c3.trans (d4.mono c3.size)
  have HL4 := Lib.hid hL4
  obtain ⟨nb, hnb⟩ : ∃ nb, sv.length = nb := ⟨_, rfl⟩
  have HNB := Lib.hid hnb
  rw [hnb] at hl4 t1
  simp only [hnb]
  clear hnb hL4 HOF
  have hm4' := hm4
  unfold maxLen at hm4'
  have hm3' := hm3
  unfold maxLen at hm3'
  obtain ⟨w5, hw5⟩ : ∃ w5, w4.alloc (.cells #[.int .i64 bi, .int .i64 lo, .int .i64 hi, .int .i64 (bm : Int), .slice A4 nb cap4] 35) = w5 := ⟨_, rfl⟩
  have bA : Blk w5 w4.heap.size #[.int .i64 bi, .int .i64 lo, .int .i64 hi, .int .i64 (bm : Int), .slice A4 nb cap4] 35 := by rw [← hw5]; exact Blk.new _ _ _
  have d5 : Below w4.heap.size w4 w5 := by rw [← hw5]; exact (Below.refl _ _).alloc (Nat.le_refl _) _
  have hs5 : w5.heap.size = w4.heap.size + 1 := by rw [← hw5]; simp
  have c5 := c4.trans (d5.mono c4.size)
  have e5 : Below w3.heap.size w3 w5 := d4.trans (d5.mono d4.size)
  obtain ⟨V, hV⟩ : ∃ V, w5.alloc (.cells #[.bool false, .bool false, .bool false, .bool false, .bool false, .bool false, .bool false, .bool false, .bool false, .bool false, .bool false, .bool false, .bool false, .bool false, .bool false, .bool false, .bool false, .bool false, .bool false, .bool false, .bool false, .bool false, .bool false, .bool false, .bool false, .bool false, .bool false, .bool false, .bool false, .bool false, .bool false, .bool false, .bool false, .bool false, .bool false, .bool false, .bool false, .bool false, .bool false, .bool false, .bool false, .bool false, .bool false, .bool false, .bool false, .bool false, .bool false, .bool false, .bool false, .bool false, .bool false, .bool false, .bool false, .bool false, .bool false, .bool false, .bool false, .bool false, .bool false, .bool false, .bool false, .bool false, .bool false, .bool false] 43) = V := ⟨_, rfl⟩
  have HM0 := Lib.hid (show Marks V (w4.heap.size + 1) 43 nb (fun _ => false) by
    rw [← hV, ← hs5]
    exact zeros_marks w5 nb t1 _)
  have d6 : Below w5.heap.size w5 V := by rw [← hV]; exact (Below.refl _ _).alloc (Nat.le_refl _) _
  have HBA := Lib.hid bA
  have HW5 := Lib.hid hw5
  have HV := Lib.hid hV
  clear bA hw5 hV
  go_wp2
  rw [HW5.out, HV.out]
  clear HW5 HV
  go_loopw [7, 8, 10] (fun f t i wr => ∃ k : Nat, i = .int .i64 k ∧ k ≤ bm ∧ f = .bool (decide (lo ∈ (s.take k).map Plain.Sp.s)) ∧ t = .bool (decide (hi ∈ (s.take k).map fun x => x.s + x.d)) ∧ Marks wr (w4.heap.size + 1) 43 nb (fun j => decide (sv.getD j [] ∈ (s.take k).map Plain.Sp.sv)) ∧ Below w5.heap.size w5 wr) (fun _ _ i _ => bm - (intOf i).toNat)
  case atStart => exact ⟨0, rfl, Nat.zero_le _, by simp, by simp, by simpa using HM0.out, d6⟩
  case round =>
    obtain ⟨k, rfl, hk, rfl, rfl, hmk, hbr⟩ := hrel
    have HMK := Lib.hid hmk
    clear hmk
    by_cases hlt : k < bm
    · have hks : k < s.length := by rw [HSL.out]; exact hlt
      obtain ⟨sd, rfl, -, hcs⟩ := at_span HL3.out k hks
      have HCS := Lib.hid (fun (W : World) (h : Below w5.heap.size w5 W) => hcs W (e5.trans (h.mono e5.size)))
      obtain ⟨r1, r2, r3, r4, r5, r6⟩ := HT3.out s[k] (List.getElem_mem hks)
      have HTK := Lib.hid (List.take_succ_eq_append_getElem hks)
      clear hcs
      obtain ⟨x3, x4⟩ := And.intro (HCS.out wr hbr).2.2.2.1 (HCS.out wr hbr).2.2.2.2.1
      generalize s[k] = x at *
      have HR3 := Lib.hid r3
      have hE : wrap64 (x.s + x.d) = x.s + x.d := by unfold wrap64; omega
      have HG1 := Lib.hid (show decide (lo ∈ (s.take (k + 1)).map Plain.Sp.s) = (decide (lo ∈ (s.take k).map Plain.Sp.s) || decide (x.s = lo)) by
        rw [HTK.out, List.map_append, List.map_cons, List.map_nil, mem_snoc])
      have HG2 := Lib.hid (show decide (hi ∈ (s.take (k + 1)).map fun x => x.s + x.d) = (decide (hi ∈ (s.take k).map fun x => x.s + x.d) || decide (x.s + x.d = hi)) by
        rw [HTK.out, List.map_append, List.map_cons, List.map_nil, mem_snoc])
      have HG3 := Lib.hid (show ∀ j, decide (sv.getD j [] ∈ (s.take (k + 1)).map Plain.Sp.sv) = (decide (sv.getD j [] ∈ (s.take k).map Plain.Sp.sv) || decide (x.sv = sv.getD j [])) by
        intro j
        rw [HTK.out, List.map_append, List.map_cons, List.map_nil, mem_snoc])
      clear HTK r3
      obtain ⟨F, hF⟩ : ∃ F, decide (lo ∈ (s.take k).map Plain.Sp.s) = F := ⟨_, rfl⟩
      obtain ⟨G, hG⟩ : ∃ G, decide (hi ∈ (s.take k).map fun x => x.s + x.d) = G := ⟨_, rfl⟩
      rw [hF] at HG1 ⊢
      rw [hG] at HG2 ⊢
      clear hF hG
      obtain ⟨xt, xi, xp, xs, xd, xv, xn⟩ := x
      simp only at r1 r2 r4 r5 r6 x3 x4 hE HG1 HG2 HG3 HR3 HCS
      subst r4
      obtain ⟨E, hEE⟩ : ∃ E, xs + xd = E := ⟨_, rfl⟩
      rw [hEE] at r2 r5 r6 hE HG2
      have q1 : decide (xs < lo) = false := by simp; omega
      have q2 : decide (hi < E) = false := by simp; omega
      obtain ⟨D1, hD1⟩ : ∃ D, decide (xs = lo) = D := ⟨_, rfl⟩
      obtain ⟨D2, hD2⟩ : ∃ D, decide (E = hi) = D := ⟨_, rfl⟩
      rw [hD1] at HG1
      rw [hD2] at HG2
      have p1 : (xs == lo) = D1 := hD1
      have p2 : (E == hi) = D2 := hD2
      clear hD1 hD2
      rw [← hEE] at hE
      have hE2 : wrap64 (xs + xd) = E := by rw [hE, hEE]
      clear hE hEE
      go_wp2
      go_quiet (fail)
      go_wp2
      obtain ⟨f0, hf0⟩ : ∃ f0 : Nat → Bool, (fun j => decide (sv.getD j [] ∈ (s.take k).map Plain.Sp.sv)) = f0 := ⟨_, rfl⟩
      rw [hf0] at HMK
      have HF0 := Lib.hid (show ∀ j, f0 j = decide (sv.getD j [] ∈ (s.take k).map Plain.Sp.sv) from fun j => by rw [← hf0])
      clear hf0
      go_loopw [12, 13] (fun v i wr => ∃ r : Nat, i = .int .i64 r ∧ r ≤ nb ∧ v = .bool (decide (xv ∈ sv.take r)) ∧ Marks wr (w4.heap.size + 1) 43 nb (fun j => f0 j || (decide (j < r) && decide (xv = sv.getD j []))) ∧ Below w5.heap.size w5 wr) (fun _ i _ => nb - (intOf i).toNat)
      case atStart => exact ⟨0, rfl, Nat.zero_le _, by simp, HMK.out.to (below_many (Below.refl _ _) _) (fun j _ => by simp), below_many hbr _⟩
      case round =>
        clear x3 x4
        obtain ⟨r, rfl, hr, rfl, hmr, hbi⟩ := hrel
        have HMR := Lib.hid hmr
        clear hmr
        have bb := (Kept.of hbi []).blk HBA.out (by simp)
        obtain ⟨b0, b1, b2, b3, b4⟩ := bb.five
        obtain ⟨x0, x1, x2, x3, x4, x5, x6⟩ := HCS.out wr hbi
        by_cases hrn : r < nb
        · have hrl : r < sv.length := by rw [HNB.out]; exact hrn
          obtain ⟨bd, rfl, -, hcb⟩ := at_text HL4.out r hrl
          have y0 := hcb wr (d5.trans (hbi.mono d5.size))
          have hne := beq_str sv[r] xv
          have HI1 := Lib.hid (show decide (xv ∈ sv.take (r + 1)) = (decide (xv ∈ sv.take r) || decide (sv[r] = xv)) by
            rw [List.take_succ_eq_append_getElem hrl, mem_snoc])
          have HGD := Lib.hid (show sv.getD r [] = sv[r] by simp [hrl])
          clear hcb
          generalize sv[r] = y at *
          obtain ⟨mc, mf⟩ := HMR.out.cell hrn
          obtain ⟨D, hD⟩ : ∃ D, decide (y = xv) = D := ⟨_, rfl⟩
          have HD := Lib.hid hD
          rw [hD] at hne HI1
          obtain ⟨I, hI⟩ : ∃ I, decide (xv ∈ sv.take r) = I := ⟨_, rfl⟩
          rw [hI] at HI1 ⊢
          clear hD hI
          generalize str y = Y at *
          generalize str xv = XV at *
          generalize (f0 r || (decide (r < r) && decide (xv = sv.getD r []))) = MB at *
          rcases D with _ | _
          · have HNE := Lib.hid (of_decide_eq_false HD.out)
            go_wp2
            go_quiet (fail)
            go_wp2
            go_roundw
            case rel =>
              refine ⟨r + 1, by go_num, by omega, by rw [HI1.out]; simp, HMR.out.to (below_many (Below.refl _ _) _) (fun j _ => ?_), below_many hbi _⟩
              by_cases hjr : j = r
              · subst hjr
                rw [HGD.out, decide_eq_false (show ¬ xv = y from fun e => HNE.out e.symm)]
                simp
              · have e : decide (j < r + 1) = decide (j < r) := by rw [Bool.eq_iff_iff]; simp; omega
                rw [e]
            case measure => simp [intOf]; omega
          · have HEQ := Lib.hid (of_decide_eq_true HD.out)
            go_wp2
            go_quiet (fail)
            go_wp2
            go_roundw
            case rel =>
              refine ⟨r + 1, by go_num, by omega, by rw [HI1.out]; simp, (HMR.out.to (below_many (Below.refl _ _) _) (fun _ _ => rfl)).set t1 hrn (fun j _ => ?_), Kept.below (below_many hbi _) ((Kept.refl [w4.heap.size + 1] _).setCell (by simp) _) (by simp; omega)⟩
              by_cases hjr : j = r
              · subst hjr
                rw [HGD.out, decide_eq_true (show xv = y from HEQ.out.symm)]
                simp
              · have e : decide (j < r + 1) = decide (j < r) := by rw [Bool.eq_iff_iff]; simp; omega
                rw [e]
                simp [hjr]
            case measure => simp [intOf]; omega
        · obtain rfl : r = nb := by omega
          have hin : decide (xv ∈ sv.take r) = true := by
            rw [List.take_of_length_le (by rw [HNB.out]; omega)]
            exact decide_eq_true HR3.out
          rw [hin]
          clear hin
          have HNX := Lib.hid (fun (u : World) (hu : Below wr.heap.size wr u) => show Marks u (w4.heap.size + 1) 43 r (fun j => decide (sv.getD j [] ∈ (s.take (k + 1)).map Plain.Sp.sv)) from HMR.out.to hu (fun j hj => by
            rw [HG3.out j, HF0.out j, decide_eq_true hj]; simp))
          generalize str xv = XV at *
          rcases F with _ | _
          · rcases G with _ | _
            · go_wp2
              go_quiet (fail)
              go_wp2
              go_quiet (fail)
              go_wp2
              go_roundw
              case rel => exact ⟨k + 1, by go_num, by omega, by rw [HG1.out]; simp, by rw [HG2.out]; simp, HNX.out _ (below_many (Below.refl _ _) _), below_many hbi _⟩
              case measure => simp [intOf]; omega
            · go_wp2
              go_quiet (fail)
              go_wp2
              go_quiet (fail)
              go_wp2
              go_roundw
              case rel => exact ⟨k + 1, by go_num, by omega, by rw [HG1.out]; simp, by rw [HG2.out]; simp, HNX.out _ (below_many (Below.refl _ _) _), below_many hbi _⟩
              case measure => simp [intOf]; omega
          · rcases G with _ | _
            · go_wp2
              go_quiet (fail)
              go_wp2
              go_quiet (fail)
              go_wp2
              go_roundw
              case rel => exact ⟨k + 1, by go_num, by omega, by rw [HG1.out]; simp, by rw [HG2.out]; simp, HNX.out _ (below_many (Below.refl _ _) _), below_many hbi _⟩
              case measure => simp [intOf]; omega
            · go_wp2
              go_quiet (fail)
              go_wp2
              go_quiet (fail)
              go_wp2
              go_roundw
              case rel => exact ⟨k + 1, by go_num, by omega, by rw [HG1.out]; simp, by rw [HG2.out]; simp, HNX.out _ (below_many (Below.refl _ _) _), below_many hbi _⟩
              case measure => simp [intOf]; omega
    · obtain rfl : k = bm := by omega
      have htk : s.take k = s := List.take_of_length_le (by rw [HSL.out]; omega)
      rw [htk] at HMK ⊢
      rw [decide_eq_true HT4.out, decide_eq_true HT5.out]
      have HM1 := Lib.hid (HMK.out.to (Below.refl _ _) (f' := fun _ => true) (fun j hj => by
        have hjl : j < sv.length := by rw [HNB.out]; exact hj
        have e : sv.getD j [] = sv[j] := by simp [hjl]
        rw [e]
        exact decide_eq_true (HT6.out _ (List.getElem_mem hjl))))
      clear htk HMK
      have bb := (Kept.of hbr []).blk HBA.out (by simp)
      obtain ⟨b0, b1, b2, b3, b4⟩ := bb.five
      go_wp2
      go_loopw [14] (fun i wr => ∃ r : Nat, i = .int .i64 r ∧ r ≤ nb ∧ Marks wr (w4.heap.size + 1) 43 nb (fun _ => true) ∧ Below w5.heap.size w5 wr) (fun i _ => nb - (intOf i).toNat)
      case atStart => exact ⟨0, rfl, Nat.zero_le _, HM1.out, hbr⟩
      case round =>
        clear b0 b1 b2 b3 b4 bb
        obtain ⟨r, rfl, hr, hmr, hbi⟩ := hrel
        have HMR := Lib.hid hmr
        clear hmr
        have bb := (Kept.of hbi []).blk HBA.out (by simp)
        obtain ⟨b0, b1, b2, b3, b4⟩ := bb.five
        by_cases hrn : r < nb
        · have hrl : r < sv.length := by rw [HNB.out]; exact hrn
          obtain ⟨bd, rfl, -, hcb⟩ := at_text HL4.out r hrl
          have y0 := hcb wr (d5.trans (hbi.mono d5.size))
          have hbd : Below wr.heap.size wr wr.drew := (Below.refl _ _).drew
          have LM := Lib.hid (fun (W : World) (h : Below wr.heap.size wr W) => load_bool ((HMR.out.to h (fun _ _ => rfl)).cell hrn).1)
          have LS := Lib.hid (fun (W : World) (h : Below wr.heap.size wr W) => load_texts (((Kept.of h []).blk bb (by simp)).cell 4))
          have LY := Lib.hid (fun (W : World) (h : Below wr.heap.size wr W) => load_text (hcb W (d5.trans ((hbi.trans (h.mono hbi.size)).mono d5.size))))
          clear y0
          by_cases hr0 : r = 0
          · have GT0 := Lib.hid (fun (W : World) => gtr_int W (r : Int) 0 false (by simp; omega))
            clear hcb hr0
            go_wp2
            refine wp_softS (by kernel_rfl) 164 [(128, [14]), (129, [9, 128]), (130, [129]), (131, [130]), (132, [131]), (133, [14, 132]), (134, [133, 132]), (135, [134, 132]), (136, [6, 135]), (137, [136, 135]), (138, [14, 135]), (139, [137, 138, 135]), (140, [139, 135]), (141, [6, 135]), (142, [141, 135]), (143, [14, 135]), (144, [143, 135]), (145, [142, 144, 135]), (146, [145, 135]), (147, [140, 146, 135]), (148, [135, 147, 132]), (149, [132, 148])]
              [Fact.is (.int .i64 (r : Int)), Fact.is (.pointer (some ⟨w4.heap.size + 1, r, none⟩)), Fact.is (.bool true), Fact.is (.bool false), Fact.is (.bool false), Fact.is (.int .i64 (r : Int)), Fact.is (.bool false), Fact.is (.bool false), Fact.is (undef), Fact.is (undef), Fact.is (undef), Fact.is (undef), Fact.is (undef), Fact.is (undef), Fact.is (undef), Fact.is (undef), Fact.is (undef), Fact.is (undef), Fact.is (undef), Fact.is (undef), Fact.is (.bool false), Fact.is (.bool false)]
              (by kernel_rfl) rfl rfl ⟨?s0, ?s1, ?s2, ?s3, ?s4, ?s5, ?s6, ?s7, ?s8, ?s9, ?s10, ?s11, ?s12, ?s13, ?s14, ?s15, ?s16, ?s17, ?s18, ?s19, ?s20, ?s21, trivial⟩ ?fin
            case s0 =>
              intro ρ W hb hc hf hr
              obtain ⟨r14, -⟩ := hr
              have e14 : ρ (.tmp 14) = .int .i64 (r : Int) := r14
              clear r14
              refine under_none rfl ?_
              exact ⟨e14, Below.refl _ _⟩
            case s1 =>
              intro ρ W hb hc hf hr
              obtain ⟨r9, r128, -⟩ := hr
              have e9 : ρ (.tmp 9) = .pointer (some ⟨w4.heap.size + 1, 0, none⟩) := r9
              clear r9
              have e128 : ρ (.tmp 128) = .int .i64 (r : Int) := r128
              clear r128
              refine under_none rfl ?_
              exact soft_index64 e9 e128 (by omega) rfl
            case s2 =>
              intro ρ W hb hc hf hr
              obtain ⟨r129, -⟩ := hr
              have e129 : ρ (.tmp 129) = .pointer (some ⟨w4.heap.size + 1, r, none⟩) := r129
              clear r129
              refine under_none rfl ?_
              exact soft_load e129 (LM.out W (hbd.trans (hb.mono (by simp)))) rfl
            case s3 =>
              intro ρ W hb hc hf hr
              obtain ⟨r130, -⟩ := hr
              have e130 : ρ (.tmp 130) = .bool true := r130
              clear r130
              refine under_none rfl ?_
              simp [execOp, e130, go_sem, softUpon, Fact.is, Below.refl]
            case s4 =>
              intro ρ W hb hc hf hr
              obtain ⟨r131, -⟩ := hr
              have e131 : ρ (.tmp 131) = .bool false := r131
              clear r131
              refine under_none rfl ?_
              exact ⟨e131, Below.refl _ _⟩
            case s5 =>
              intro ρ W hb hc hf hr
              obtain ⟨r14, r132, -⟩ := hr
              have e14 : ρ (.tmp 14) = .int .i64 (r : Int) := r14
              clear r14
              have e132 : ρ (.tmp 132) = .bool false := r132
              clear r132
              refine ⟨132, rfl, .inl ⟨e132, ?_⟩⟩
              exact ⟨e14, Below.refl _ _⟩
            case s6 =>
              intro ρ W hb hc hf hr
              obtain ⟨r133, r132, -⟩ := hr
              have e133 : ρ (.tmp 133) = .int .i64 (r : Int) := r133
              clear r133
              have e132 : ρ (.tmp 132) = .bool false := r132
              clear r132
              refine ⟨132, rfl, .inl ⟨e132, ?_⟩⟩
              exact soft_bin e133 (hc _) rfl rfl (GT0.out W)
            case s7 =>
              intro ρ W hb hc hf hr
              obtain ⟨r134, r132, -⟩ := hr
              have e134 : ρ (.tmp 134) = .bool false := r134
              clear r134
              have e132 : ρ (.tmp 132) = .bool false := r132
              clear r132
              refine ⟨132, rfl, .inl ⟨e132, ?_⟩⟩
              exact ⟨e134, Below.refl _ _⟩
            case s8 =>
              intro ρ W hb hc hf hr
              obtain ⟨r6, r135, -⟩ := hr
              have e6 : ρ (.tmp 6) = .pointer (some ⟨w4.heap.size, 0, none⟩) := r6
              clear r6
              have e135 : ρ (.tmp 135) = .bool false := r135
              clear r135
              exact ⟨135, rfl, .inr (.inl ⟨e135, rfl⟩)⟩
            case s9 =>
              intro ρ W hb hc hf hr
              obtain ⟨r136, r135, -⟩ := hr
              have e136 : ρ (.tmp 136) = undef := r136
              clear r136
              have e135 : ρ (.tmp 135) = .bool false := r135
              clear r135
              exact ⟨135, rfl, .inr (.inl ⟨e135, rfl⟩)⟩
            case s10 =>
              intro ρ W hb hc hf hr
              obtain ⟨r14, r135, -⟩ := hr
              have e14 : ρ (.tmp 14) = .int .i64 (r : Int) := r14
              clear r14
              have e135 : ρ (.tmp 135) = .bool false := r135
              clear r135
              exact ⟨135, rfl, .inr (.inl ⟨e135, rfl⟩)⟩
            case s11 =>
              intro ρ W hb hc hf hr
              obtain ⟨r137, r138, r135, -⟩ := hr
              have e137 : ρ (.tmp 137) = undef := r137
              clear r137
              have e138 : ρ (.tmp 138) = undef := r138
              clear r138
              have e135 : ρ (.tmp 135) = .bool false := r135
              clear r135
              exact ⟨135, rfl, .inr (.inl ⟨e135, rfl⟩)⟩
            case s12 =>
              intro ρ W hb hc hf hr
              obtain ⟨r139, r135, -⟩ := hr
              have e139 : ρ (.tmp 139) = undef := r139
              clear r139
              have e135 : ρ (.tmp 135) = .bool false := r135
              clear r135
              exact ⟨135, rfl, .inr (.inl ⟨e135, rfl⟩)⟩
            case s13 =>
              intro ρ W hb hc hf hr
              obtain ⟨r6, r135, -⟩ := hr
              have e6 : ρ (.tmp 6) = .pointer (some ⟨w4.heap.size, 0, none⟩) := r6
              clear r6
              have e135 : ρ (.tmp 135) = .bool false := r135
              clear r135
              exact ⟨135, rfl, .inr (.inl ⟨e135, rfl⟩)⟩
            case s14 =>
              intro ρ W hb hc hf hr
              obtain ⟨r141, r135, -⟩ := hr
              have e141 : ρ (.tmp 141) = undef := r141
              clear r141
              have e135 : ρ (.tmp 135) = .bool false := r135
              clear r135
              exact ⟨135, rfl, .inr (.inl ⟨e135, rfl⟩)⟩
            case s15 =>
              intro ρ W hb hc hf hr
              obtain ⟨r14, r135, -⟩ := hr
              have e14 : ρ (.tmp 14) = .int .i64 (r : Int) := r14
              clear r14
              have e135 : ρ (.tmp 135) = .bool false := r135
              clear r135
              exact ⟨135, rfl, .inr (.inl ⟨e135, rfl⟩)⟩
            case s16 =>
              intro ρ W hb hc hf hr
              obtain ⟨r143, r135, -⟩ := hr
              have e143 : ρ (.tmp 143) = undef := r143
              clear r143
              have e135 : ρ (.tmp 135) = .bool false := r135
              clear r135
              exact ⟨135, rfl, .inr (.inl ⟨e135, rfl⟩)⟩
            case s17 =>
              intro ρ W hb hc hf hr
              obtain ⟨r142, r144, r135, -⟩ := hr
              have e142 : ρ (.tmp 142) = undef := r142
              clear r142
              have e144 : ρ (.tmp 144) = undef := r144
              clear r144
              have e135 : ρ (.tmp 135) = .bool false := r135
              clear r135
              exact ⟨135, rfl, .inr (.inl ⟨e135, rfl⟩)⟩
            case s18 =>
              intro ρ W hb hc hf hr
              obtain ⟨r145, r135, -⟩ := hr
              have e145 : ρ (.tmp 145) = undef := r145
              clear r145
              have e135 : ρ (.tmp 135) = .bool false := r135
              clear r135
              exact ⟨135, rfl, .inr (.inl ⟨e135, rfl⟩)⟩
            case s19 =>
              intro ρ W hb hc hf hr
              obtain ⟨r140, r146, r135, -⟩ := hr
              have e140 : ρ (.tmp 140) = undef := r140
              clear r140
              have e146 : ρ (.tmp 146) = undef := r146
              clear r146
              have e135 : ρ (.tmp 135) = .bool false := r135
              clear r135
              exact ⟨135, rfl, .inr (.inl ⟨e135, rfl⟩)⟩
            case s20 =>
              intro ρ W hb hc hf hr
              obtain ⟨r135, r147, r132, -⟩ := hr
              have e135 : ρ (.tmp 135) = .bool false := r135
              clear r135
              have e147 : ρ (.tmp 147) = undef := r147
              clear r147
              have e132 : ρ (.tmp 132) = .bool false := r132
              clear r132
              refine ⟨132, rfl, .inl ⟨e132, ?_⟩⟩
              simp [execOp, e135, hc, go_sem, softUpon, Fact.is, Below.refl]
            case s21 =>
              intro ρ W hb hc hf hr
              obtain ⟨r132, r148, -⟩ := hr
              have e132 : ρ (.tmp 132) = .bool false := r132
              clear r132
              have e148 : ρ (.tmp 148) = .bool false := r148
              clear r148
              refine under_none rfl ?_
              simp [execOp, e132, e148, go_sem, softUpon, Fact.is, Below.refl]
            case fin =>
              intro a w1 hb hd hsz hk
              have ea := act_puts hd hsz rfl hk
              have k128 : a.tmps.getD 128 undef = .int .i64 (r : Int) := hk 128
              have k129 : a.tmps.getD 129 undef = .pointer (some ⟨w4.heap.size + 1, r, none⟩) := hk 129
              have k130 : a.tmps.getD 130 undef = .bool true := hk 130
              have k131 : a.tmps.getD 131 undef = .bool false := hk 131
              have k132 : a.tmps.getD 132 undef = .bool false := hk 132
              have k133 : a.tmps.getD 133 undef = .int .i64 (r : Int) := hk 133
              have k134 : a.tmps.getD 134 undef = .bool false := hk 134
              have k135 : a.tmps.getD 135 undef = .bool false := hk 135
              have k136 : a.tmps.getD 136 undef = undef := hk 136
              have k137 : a.tmps.getD 137 undef = undef := hk 137
              have k138 : a.tmps.getD 138 undef = undef := hk 138
              have k139 : a.tmps.getD 139 undef = undef := hk 139
              have k140 : a.tmps.getD 140 undef = undef := hk 140
              have k141 : a.tmps.getD 141 undef = undef := hk 141
              have k142 : a.tmps.getD 142 undef = undef := hk 142
              have k143 : a.tmps.getD 143 undef = undef := hk 143
              have k144 : a.tmps.getD 144 undef = undef := hk 144
              have k145 : a.tmps.getD 145 undef = undef := hk 145
              have k146 : a.tmps.getD 146 undef = undef := hk 146
              have k147 : a.tmps.getD 147 undef = undef := hk 147
              have k148 : a.tmps.getD 148 undef = .bool false := hk 148
              have k149 : a.tmps.getD 149 undef = .bool false := hk 149
              clear hk hd hsz
              simp only [List.map_cons, List.map_nil, List.foldl_cons, List.foldl_nil, k128, k129, k130, k131, k132, k133, k134, k135, k136, k137, k138, k139, k140, k141, k142, k143, k144, k145, k146, k147, k148, k149] at ea
              clear k128 k129 k130 k131 k132 k133 k134 k135 k136 k137 k138 k139 k140 k141 k142 k143 k144 k145 k146 k147 k148 k149
              simp only [Act.put, List.setIfInBounds_toArray, List.set_cons_succ, List.set_cons_zero] at ea
              subst ea
              have dV := hbd.trans (hb.mono (by simp))
              go_wp2
              go_roundw
              case rel => exact ⟨r + 1, by go_num, by omega, HMR.out.to dV (fun _ _ => rfl), hbi.trans (dV.mono hbi.size)⟩
              case measure => simp [intOf]; omega
          · have GT0 := Lib.hid (fun (W : World) => gtr_int W (r : Int) 0 true (by simp; omega))
            have SUB1 := Lib.hid (fun (W : World) => sub_one W r (by omega) (by omega))
            have hr1 : r - 1 < sv.length := by omega
            obtain ⟨bd', hbd', -, hcz⟩ := at_text HL4.out (r - 1) hr1
            obtain rfl : bd = bd' := by injection hbd'
            have LZ := Lib.hid (fun (W : World) (h : Below wr.heap.size wr W) => load_text (hcz W (d5.trans ((hbi.trans (h.mono hbi.size)).mono d5.size))))
            have LE := Lib.hid (fun (W : World) => show (binOp .leq 9 (.string (str sv[r])) (.string (str sv[r - 1]))).run Tryz.prog W = .ok (.bool false) W by
              rw [leq_run, leq_no sv[r] sv[r - 1] (List.pairwise_iff_getElem.1 HT7.out (r - 1) r hr1 hrl (by omega))])
            clear hcz hcb hbd'
            generalize sv[r] = y at LY LE
            generalize sv[r - 1] = z at LZ LE
            clear hr1 hr0 hrl
            go_wp2
            refine wp_softS (by kernel_rfl) 164 [(128, [14]), (129, [9, 128]), (130, [129]), (131, [130]), (132, [131]), (133, [14, 132]), (134, [133, 132]), (135, [134, 132]), (136, [6, 135]), (137, [136, 135]), (138, [14, 135]), (139, [137, 138, 135]), (140, [139, 135]), (141, [6, 135]), (142, [141, 135]), (143, [14, 135]), (144, [143, 135]), (145, [142, 144, 135]), (146, [145, 135]), (147, [140, 146, 135]), (148, [135, 147, 132]), (149, [132, 148])]
              [Fact.is (.int .i64 (r : Int)), Fact.is (.pointer (some ⟨w4.heap.size + 1, r, none⟩)), Fact.is (.bool true), Fact.is (.bool false), Fact.is (.bool false), Fact.is (.int .i64 (r : Int)), Fact.is (.bool true), Fact.is (.bool true), Fact.is (.pointer (some ⟨w4.heap.size, 4, none⟩)), Fact.is (.slice (some bd) nb cap4), Fact.is (.int .i64 (r : Int)), Fact.is (.pointer (some (Addr.add bd r))), Fact.is (.string (str y)), Fact.is (.pointer (some ⟨w4.heap.size, 4, none⟩)), Fact.is (.slice (some bd) nb cap4), Fact.is (.int .i64 (r : Int)), Fact.is (.int .i64 ((r - 1 : Nat) : Int)), Fact.is (.pointer (some (Addr.add bd (r - 1)))), Fact.is (.string (str z)), Fact.is (.bool false), Fact.is (.bool false), Fact.is (.bool false)]
              (by kernel_rfl) rfl rfl ⟨?s0, ?s1, ?s2, ?s3, ?s4, ?s5, ?s6, ?s7, ?s8, ?s9, ?s10, ?s11, ?s12, ?s13, ?s14, ?s15, ?s16, ?s17, ?s18, ?s19, ?s20, ?s21, trivial⟩ ?fin
            case s0 =>
              intro ρ W hb hc hf hr
              obtain ⟨r14, -⟩ := hr
              have e14 : ρ (.tmp 14) = .int .i64 (r : Int) := r14
              clear r14
              refine under_none rfl ?_
              exact ⟨e14, Below.refl _ _⟩
            case s1 =>
              intro ρ W hb hc hf hr
              obtain ⟨r9, r128, -⟩ := hr
              have e9 : ρ (.tmp 9) = .pointer (some ⟨w4.heap.size + 1, 0, none⟩) := r9
              clear r9
              have e128 : ρ (.tmp 128) = .int .i64 (r : Int) := r128
              clear r128
              refine under_none rfl ?_
              exact soft_index64 e9 e128 (by omega) rfl
            case s2 =>
              intro ρ W hb hc hf hr
              obtain ⟨r129, -⟩ := hr
              have e129 : ρ (.tmp 129) = .pointer (some ⟨w4.heap.size + 1, r, none⟩) := r129
              clear r129
              refine under_none rfl ?_
              exact soft_load e129 (LM.out W (hbd.trans (hb.mono (by simp)))) rfl
            case s3 =>
              intro ρ W hb hc hf hr
              obtain ⟨r130, -⟩ := hr
              have e130 : ρ (.tmp 130) = .bool true := r130
              clear r130
              refine under_none rfl ?_
              simp [execOp, e130, go_sem, softUpon, Fact.is, Below.refl]
            case s4 =>
              intro ρ W hb hc hf hr
              obtain ⟨r131, -⟩ := hr
              have e131 : ρ (.tmp 131) = .bool false := r131
              clear r131
              refine under_none rfl ?_
              exact ⟨e131, Below.refl _ _⟩
            case s5 =>
              intro ρ W hb hc hf hr
              obtain ⟨r14, r132, -⟩ := hr
              have e14 : ρ (.tmp 14) = .int .i64 (r : Int) := r14
              clear r14
              have e132 : ρ (.tmp 132) = .bool false := r132
              clear r132
              refine ⟨132, rfl, .inl ⟨e132, ?_⟩⟩
              exact ⟨e14, Below.refl _ _⟩
            case s6 =>
              intro ρ W hb hc hf hr
              obtain ⟨r133, r132, -⟩ := hr
              have e133 : ρ (.tmp 133) = .int .i64 (r : Int) := r133
              clear r133
              have e132 : ρ (.tmp 132) = .bool false := r132
              clear r132
              refine ⟨132, rfl, .inl ⟨e132, ?_⟩⟩
              exact soft_bin e133 (hc _) rfl rfl (GT0.out W)
            case s7 =>
              intro ρ W hb hc hf hr
              obtain ⟨r134, r132, -⟩ := hr
              have e134 : ρ (.tmp 134) = .bool true := r134
              clear r134
              have e132 : ρ (.tmp 132) = .bool false := r132
              clear r132
              refine ⟨132, rfl, .inl ⟨e132, ?_⟩⟩
              exact ⟨e134, Below.refl _ _⟩
            case s8 =>
              intro ρ W hb hc hf hr
              obtain ⟨r6, r135, -⟩ := hr
              have e6 : ρ (.tmp 6) = .pointer (some ⟨w4.heap.size, 0, none⟩) := r6
              clear r6
              have e135 : ρ (.tmp 135) = .bool true := r135
              clear r135
              refine ⟨135, rfl, .inl ⟨e135, ?_⟩⟩
              exact soft_field e6 rfl (fun W => by go_simp)
            case s9 =>
              intro ρ W hb hc hf hr
              obtain ⟨r136, r135, -⟩ := hr
              have e136 : ρ (.tmp 136) = .pointer (some ⟨w4.heap.size, 4, none⟩) := r136
              clear r136
              have e135 : ρ (.tmp 135) = .bool true := r135
              clear r135
              refine ⟨135, rfl, .inl ⟨e135, ?_⟩⟩
              exact soft_load e136 (LS.out W (hbd.trans (hb.mono (by simp)))) rfl
            case s10 =>
              intro ρ W hb hc hf hr
              obtain ⟨r14, r135, -⟩ := hr
              have e14 : ρ (.tmp 14) = .int .i64 (r : Int) := r14
              clear r14
              have e135 : ρ (.tmp 135) = .bool true := r135
              clear r135
              refine ⟨135, rfl, .inl ⟨e135, ?_⟩⟩
              exact ⟨e14, Below.refl _ _⟩
            case s11 =>
              intro ρ W hb hc hf hr
              obtain ⟨r137, r138, r135, -⟩ := hr
              have e137 : ρ (.tmp 137) = .slice (some bd) nb cap4 := r137
              clear r137
              have e138 : ρ (.tmp 138) = .int .i64 (r : Int) := r138
              clear r138
              have e135 : ρ (.tmp 135) = .bool true := r135
              clear r135
              refine ⟨135, rfl, .inl ⟨e135, ?_⟩⟩
              exact soft_indexT e137 e138 (by omega) rfl
            case s12 =>
              intro ρ W hb hc hf hr
              obtain ⟨r139, r135, -⟩ := hr
              have e139 : ρ (.tmp 139) = .pointer (some (Addr.add bd r)) := r139
              clear r139
              have e135 : ρ (.tmp 135) = .bool true := r135
              clear r135
              refine ⟨135, rfl, .inl ⟨e135, ?_⟩⟩
              exact soft_load e139 (LY.out W (hbd.trans (hb.mono (by simp)))) rfl
            case s13 =>
              intro ρ W hb hc hf hr
              obtain ⟨r6, r135, -⟩ := hr
              have e6 : ρ (.tmp 6) = .pointer (some ⟨w4.heap.size, 0, none⟩) := r6
              clear r6
              have e135 : ρ (.tmp 135) = .bool true := r135
              clear r135
              refine ⟨135, rfl, .inl ⟨e135, ?_⟩⟩
              exact soft_field e6 rfl (fun W => by go_simp)
            case s14 =>
              intro ρ W hb hc hf hr
              obtain ⟨r141, r135, -⟩ := hr
              have e141 : ρ (.tmp 141) = .pointer (some ⟨w4.heap.size, 4, none⟩) := r141
              clear r141
              have e135 : ρ (.tmp 135) = .bool true := r135
              clear r135
              refine ⟨135, rfl, .inl ⟨e135, ?_⟩⟩
              exact soft_load e141 (LS.out W (hbd.trans (hb.mono (by simp)))) rfl
            case s15 =>
              intro ρ W hb hc hf hr
              obtain ⟨r14, r135, -⟩ := hr
              have e14 : ρ (.tmp 14) = .int .i64 (r : Int) := r14
              clear r14
              have e135 : ρ (.tmp 135) = .bool true := r135
              clear r135
              refine ⟨135, rfl, .inl ⟨e135, ?_⟩⟩
              exact ⟨e14, Below.refl _ _⟩
            case s16 =>
              intro ρ W hb hc hf hr
              obtain ⟨r143, r135, -⟩ := hr
              have e143 : ρ (.tmp 143) = .int .i64 (r : Int) := r143
              clear r143
              have e135 : ρ (.tmp 135) = .bool true := r135
              clear r135
              refine ⟨135, rfl, .inl ⟨e135, ?_⟩⟩
              exact soft_bin e143 (hc _) rfl rfl (SUB1.out W)
            case s17 =>
              intro ρ W hb hc hf hr
              obtain ⟨r142, r144, r135, -⟩ := hr
              have e142 : ρ (.tmp 142) = .slice (some bd) nb cap4 := r142
              clear r142
              have e144 : ρ (.tmp 144) = .int .i64 ((r - 1 : Nat) : Int) := r144
              clear r144
              have e135 : ρ (.tmp 135) = .bool true := r135
              clear r135
              refine ⟨135, rfl, .inl ⟨e135, ?_⟩⟩
              exact soft_indexT e142 e144 (by omega) rfl
            case s18 =>
              intro ρ W hb hc hf hr
              obtain ⟨r145, r135, -⟩ := hr
              have e145 : ρ (.tmp 145) = .pointer (some (Addr.add bd (r - 1))) := r145
              clear r145
              have e135 : ρ (.tmp 135) = .bool true := r135
              clear r135
              refine ⟨135, rfl, .inl ⟨e135, ?_⟩⟩
              exact soft_load e145 (LZ.out W (hbd.trans (hb.mono (by simp)))) rfl
            case s19 =>
              intro ρ W hb hc hf hr
              obtain ⟨r140, r146, r135, -⟩ := hr
              have e140 : ρ (.tmp 140) = .string (str y) := r140
              clear r140
              have e146 : ρ (.tmp 146) = .string (str z) := r146
              clear r146
              have e135 : ρ (.tmp 135) = .bool true := r135
              clear r135
              refine ⟨135, rfl, .inl ⟨e135, ?_⟩⟩
              exact soft_bin e140 e146 rfl rfl (LE.out W)
            case s20 =>
              intro ρ W hb hc hf hr
              obtain ⟨r135, r147, r132, -⟩ := hr
              have e135 : ρ (.tmp 135) = .bool true := r135
              clear r135
              have e147 : ρ (.tmp 147) = .bool false := r147
              clear r147
              have e132 : ρ (.tmp 132) = .bool false := r132
              clear r132
              refine ⟨132, rfl, .inl ⟨e132, ?_⟩⟩
              simp [execOp, e135, e147, go_sem, softUpon, Fact.is, Below.refl]
            case s21 =>
              intro ρ W hb hc hf hr
              obtain ⟨r132, r148, -⟩ := hr
              have e132 : ρ (.tmp 132) = .bool false := r132
              clear r132
              have e148 : ρ (.tmp 148) = .bool false := r148
              clear r148
              refine under_none rfl ?_
              simp [execOp, e132, e148, go_sem, softUpon, Fact.is, Below.refl]
            case fin =>
              intro a w1 hb hd hsz hk
              have ea := act_puts hd hsz rfl hk
              have k128 : a.tmps.getD 128 undef = .int .i64 (r : Int) := hk 128
              have k129 : a.tmps.getD 129 undef = .pointer (some ⟨w4.heap.size + 1, r, none⟩) := hk 129
              have k130 : a.tmps.getD 130 undef = .bool true := hk 130
              have k131 : a.tmps.getD 131 undef = .bool false := hk 131
              have k132 : a.tmps.getD 132 undef = .bool false := hk 132
              have k133 : a.tmps.getD 133 undef = .int .i64 (r : Int) := hk 133
              have k134 : a.tmps.getD 134 undef = .bool true := hk 134
              have k135 : a.tmps.getD 135 undef = .bool true := hk 135
              have k136 : a.tmps.getD 136 undef = .pointer (some ⟨w4.heap.size, 4, none⟩) := hk 136
              have k137 : a.tmps.getD 137 undef = .slice (some bd) nb cap4 := hk 137
              have k138 : a.tmps.getD 138 undef = .int .i64 (r : Int) := hk 138
              have k139 : a.tmps.getD 139 undef = .pointer (some (Addr.add bd r)) := hk 139
              have k140 : a.tmps.getD 140 undef = .string (str y) := hk 140
              have k141 : a.tmps.getD 141 undef = .pointer (some ⟨w4.heap.size, 4, none⟩) := hk 141
              have k142 : a.tmps.getD 142 undef = .slice (some bd) nb cap4 := hk 142
              have k143 : a.tmps.getD 143 undef = .int .i64 (r : Int) := hk 143
              have k144 : a.tmps.getD 144 undef = .int .i64 ((r - 1 : Nat) : Int) := hk 144
              have k145 : a.tmps.getD 145 undef = .pointer (some (Addr.add bd (r - 1))) := hk 145
              have k146 : a.tmps.getD 146 undef = .string (str z) := hk 146
              have k147 : a.tmps.getD 147 undef = .bool false := hk 147
              have k148 : a.tmps.getD 148 undef = .bool false := hk 148
              have k149 : a.tmps.getD 149 undef = .bool false := hk 149
              clear hk hd hsz
              simp only [List.map_cons, List.map_nil, List.foldl_cons, List.foldl_nil, k128, k129, k130, k131, k132, k133, k134, k135, k136, k137, k138, k139, k140, k141, k142, k143, k144, k145, k146, k147, k148, k149] at ea
              clear k128 k129 k130 k131 k132 k133 k134 k135 k136 k137 k138 k139 k140 k141 k142 k143 k144 k145 k146 k147 k148 k149
              simp only [Act.put, List.setIfInBounds_toArray, List.set_cons_succ, List.set_cons_zero] at ea
              subst ea
              have dV := hbd.trans (hb.mono (by simp))
              go_wp2
              go_roundw
              case rel => exact ⟨r + 1, by go_num, by omega, HMR.out.to dV (fun _ _ => rfl), hbi.trans (dV.mono hbi.size)⟩
              case measure => simp [intOf]; omega
        · obtain rfl : r = nb := by omega
          go_wp2
          go_ret
          exact ⟨rfl, c5.trans (hbi.mono c5.size)⟩


set_option maxRecDepth 100000 in
theorem lifted (os : Os) (started : os.Started) (H : Type) (enc : TypeId × Value → H) :
    ReturnsInHanded {} Tryz.checked os 6 .any (fun w args => (Rows.traceBriefSpec.pre enc Tryz.prog Tryz.f6 [] false w args ∧ laidMetH Tryz.prog laidHere w) ∧ sizedMet enc Tryz.prog Tryz.f6 (OpenSpec.ofChange Rows.traceBriefSpec) false w args) (Rows.traceBriefSpec.post enc Tryz.prog Tryz.f6 false true false false) := by
  refine returnsInHanded_of_change_and (C := Tryz.checked) (X := fun w _ => laidMetH Tryz.prog laidHere w) (fun _ _ _ hh h => h.of_heap hh) own started (by kernel_rfl) Tryz.func6
    (ChangeSpec.witness_at (enc := enc) (C := Tryz.checked) (os := os) (X := fun w _ => laidMetH Tryz.prog laidHere w) false (laidWorld os) #[.slice none 0 0] 8 rfl (by kernel_rfl) (by kernel_rfl) (by kernel_rfl) (by kernel_rfl) (by kernel_rfl) (laidWorld_met os _)) ?_
  intro W base args ds gs before hval0 hW _ _ hL _
  have hval : ∀ (j : Nat) t v, Tryz.f6.params[j]? = some t → args[j]? = some v → Value.okWide Tryz.prog W .any base t v := hval0
  have hfin := fun W' => law_post (enc := enc) (P := Tryz.prog) (f := Tryz.f6) (s := Rows.traceBriefSpec) (tb := 4) (W := W) (W' := W') (args := args) (ds := ds) (gs := gs) (before := before) laidOut rfl (by kernel_rfl) Tryz.underlying4 (by kernel_rfl) (fun xs h => by rw [Tryz.params6] at h; match xs, h with | [_], _ => rfl) hW
  have hlt : ∀ x ∈ before, x.block < W.heap.size := fun x hx => hW.lt x hx
  obtain ⟨p, q, hA0, hV, rfl, hfz, hnd⟩ := hW
  have hA : DataW.TrodAll enc Tryz.prog W 0 (fun _ => true) true Tryz.f6.params.toList args.toList ds p := hA0
  rw [Tryz.params6] at hA hval
  obtain ⟨v0, vs0, d0, ds0, p0, q0, hargs, rfl, rfl, h0, r0⟩ := trodAll_cons hA
  obtain ⟨rfl, rfl, rfl⟩ := trodAll_nil r0
  obtain rfl : args = #[v0] := by cases args; simp_all
  obtain ⟨A0, cap0, l0, rfl, hl0, hm0, hB0, hS0⟩ := open_spans (hval 0 22 v0 rfl rfl) h0 (fun x hx => hlt x (by simp [hx]))
  refine (walk W (of_laid hL) A0 cap0 l0 hl0 hm0 hB0 hS0).mono fun e W' ⟨he, hg⟩ => ?_
  subst he
  exact ⟨_, rfl, hfin W' hg⟩

theorem proved : Rows.TraceBriefSaid :=
  OpenClaim.holds_of_wide 6 Tryz.f6 rfl rfl rfl rfl rfl rfl rfl ⟨rfl, rfl, rfl, rfl, rfl⟩ rfl rfl rfl rfl rfl (by kernel_rfl) Tryz.func6 (by kernel_rfl)
    (of_decide_eq_true (by kernel_rfl)) (by unfold Func.isWrapper; first | (rw [if_pos (by decide +kernel)]; kernel_rfl) | (rw [if_neg (by decide +kernel)]; exact ⟨rfl, rfl⟩))
    (fun os started H enc _ => lifted os started H enc)

set_option maxRecDepth 100000 in
theorem card : Rows.TraceBriefCardSaid :=
  Claim7.holds_tied_plain_at .later [] laidKindsHere true _ true
    proved (fun _ h => by cases h) (by kernel_rfl) (fun _ h => by cases h) traceBrief_row_tie rfl ⟨rfl, rfl⟩ (by kernel_rfl) rfl
    (fun f fn hf hfn => by
      obtain rfl : f = 6 := Option.some.inj ((show Tryz.prog.funcNamed "turntable/turntablelaw05.TraceBrief" = some 6 by kernel_rfl).symm.trans hf) |>.symm
      obtain rfl : fn = Tryz.f6 := (Option.some.inj (Tryz.func6.symm.trans hfn)).symm
      exact ⟨by kernel_rfl, fun j t ht => by
        rw [Tryz.params6] at ht
        have hm : t ∈ [22] := by simpa using Array.mem_of_getElem? ht
        have hall : ([22].all fun u => !Tryz.prog.wantsStandIn u) = true := by kernel_rfl
        exact (show Tryz.prog.wantsStandIn t = false by simpa using List.all_eq_true.1 hall t hm)⟩)
    (by kernel_rfl)
#print axioms card
end Go.Proofs.YtmmkmhphnhanfaaGreatDoor.traceBrief
