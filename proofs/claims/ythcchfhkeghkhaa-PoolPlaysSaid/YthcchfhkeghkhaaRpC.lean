/-
  Layer 16, the document's answer: Take of its pool: what it answers, of any pool. Nothing is assumed but that it lies in memory.
-/
import Derived.Test.YthcchfhkeghkhaaRpS
import Derived.BigRegion
import Derived.BigQuiet
import Derived.Deep.CutRange

namespace Go.Proofs.Ythcchfhkeghkhaa
open Go.RowKit Go.Maps Po
set_option maxRecDepth 100000

theorem run_loadTs (W : World) (a : Addr) (v : Value) (h : W.cell? a = some v) : (Instr.loadAt 56 (.pointer (some a))).run Try.prog W = .ok v W := by
  go_simp
theorem run_storeTs (W : World) (a : Addr) (A : Option Addr) (n c : Nat) (u : Value) (h : W.cell? a = some u) (hf : W.frozen? a = false) : (Instr.storeAt 56 (.pointer (some a)) (.slice A n c)).run Try.prog W = .ok () (W.setCell a (.slice A n c)) := by
  go_simp
theorem soft_dropTr {w : World} {ρ : Operand → Value} {o : Oper} {x y : Operand} {A : Option Addr} {n cap j : Nat} {l : List Tr} (hx : ρ x = .slice A n cap) (hy : ρ y = .int .i64 (j : Int)) (hn : l.length = n) (h1 : j ≤ n) (h2 : n ≤ cap) (h3 : cap ≤ 9223372036854775807) (hA : Lies w A (flatT l)) (ho : o.op = .slice 56 x (some y) none none) :
    softUpon Try.prog w (Fact.lie (n - j) (flatT (l.drop j))) ((execOp ρ o).run Try.prog w) := by
  rw [run_dropTLr hx hy h1 h2 h3 (by rw [← hn]; exact lies_noneTr hA) ho]
  exact ⟨⟨_, _, rfl, drop_liesTr hn h2 hA⟩, Below.refl _ _⟩
theorem add_one16 (W : World) (k : Nat) (h : k < 9223372036854775807) : (binOp .add 3 (.int .i64 (k : Int)) (.int .i64 1)).run Try.prog W = .ok (.int .i64 ((k + 1 : Nat) : Int)) W := by
  have hw : IntKind.i64.wrap ((k : Int) + 1) = (k : Int) + 1 := by simp [IntKind.wrap, IntKind.bits, IntKind.signed]; omega
  go_simp
theorem soft_addOne16 {w : World} {ρ : Operand → Value} {o : Oper} {x y : Operand} {k : Nat} (hx : ρ x = .int .i64 (k : Int)) (hy : ρ y = .int .i64 1) (h : k < 9223372036854775807) (ho : o.op = .binOp .add 3 x y 3) : softUpon Try.prog w (Fact.is (.int .i64 ((k + 1 : Nat) : Int))) ((execOp ρ o).run Try.prog w) :=
  soft_bin hx hy ho rfl (add_one16 w k h)
theorem late_value16 {P : Program} {W : World} {a : Act} {o : Oper} {v : Value} {K : Act → World → Prop} {Q : Exit → Act → World → Prop} (hr : (execOp a.eval o).run P W = .ok (.value v) W) (hK : K (a.put o.dst v) W) : o.wp P a W K Q := by
  unfold Oper.wp
  rw [hr]
  exact hK
theorem run_nilOp16 {W : World} {ρ : Operand → Value} {o : Oper} {x : Operand} {p : Addr} (hx : ρ x = .pointer (some p)) (ho : o.op = .nilCheck x) : (execOp ρ o).run Try.prog W = .ok (.value (.pointer (some p))) W := by
  simp [execOp, ho, hx, go_sem]
theorem run_fieldOp16 {W : World} {ρ : Operand → Value} {o : Oper} {x : Operand} {t : TypeId} {j : Nat} {p q : Addr} (hx : ρ x = .pointer (some p)) (ho : o.op = .fieldAddr t x j) (hr : (Instr.fieldAt t (.pointer (some p)) j).run Try.prog W = .ok (.pointer (some q)) W) : (execOp ρ o).run Try.prog W = .ok (.value (.pointer (some q))) W := by
  simp [execOp, ho, hx, hr]
theorem row_formT {w : World} {base size n : Nat} {v : Value} {e : TypeId} {xs : List Value} (h : w.ownsRow base e size v n xs) : ∃ A cap, v = .slice A n cap ∧ n ≤ cap ∧ cap ≤ maxLen ∧ (n = 0 ∨ Lies w A xs) ∧ (∀ ad, A = some ad → base ≤ ad.block) := by
  rcases h.2 with ⟨rfl, h0⟩ | ⟨g, cap, cur, rfl, hb, hg, h1, h2, h3⟩
  · subst h0
    exact ⟨none, 0, rfl, Nat.le_refl _, Nat.zero_le _, .inl rfl, fun _ e => (by cases e)⟩
  · exact ⟨_, cap, rfl, h1, h2, .inr (.inr ⟨_, rfl, (h.lt g rfl).2, h.cells (g := g) rfl⟩), fun ad e => (by cases e; exact hb)⟩
/-- a row that was made reads as traces -/
theorem rows_made {S : List Nat} {w : World} {B n : Nat} {v : Value} {us : List Tr} {G : List Plain.Sp} (ho : w.ownsRow B 29 1 v n (flatT us)) (hS : ∀ s ∈ S, s < B) (hl : us.map Tr.ts = rows G) (hn : us.length = n) (hok : ∀ r ∈ us, TrIn S w r) : ∃ A cap, v = .slice A n cap ∧ RowsP S w A n cap G := by
  obtain ⟨A, cap, rfl, h1, h2, h3, h4⟩ := row_formT ho
  refine ⟨A, cap, rfl, h1, h2, us, hn, hl, ?_, .inr fun ad e hm => ?_, hok⟩
  · rcases h3 with h | h
    · rw [List.eq_nil_of_length_eq_zero (hn.trans h)]; exact .inl rfl
    · exact h
  · have := h4 ad e
    have := hS _ hm
    omega
/-- it is laid into the pool -/
theorem pool_made {S : List Nat} {w w1 : World} {p n cap : Nat} {most : Int} {G G' : List Plain.Sp} {A : Option Addr} (h : IsPR S w p most G) (hB : Below w.heap.size w w1) (hr : RowsP (p :: S) w1 A n cap G') (hok : Ok most G') :
    IsPR S (w1.setCell ⟨p, 1, none⟩ (.slice A n cap)) p most G' ∧ Kept [p] w (w1.setCell ⟨p, 1, none⟩ (.slice A n cap)) := by
  obtain ⟨A0, n0, cap0, hbx, -⟩ := h.row
  have hb1 := (Kept.of hB []).blk hbx (by simp)
  have hk : Kept [p] w1 (w1.setCell ⟨p, 1, none⟩ (.slice A n cap)) := (Kept.refl _ _).setCell (by simp) _
  exact ⟨⟨h.out, hok, A, n, cap, Blk.set hb1 1 (.slice A n cap), hr.kept hk (by simp)⟩, (Kept.of hB [p]).trans hk⟩
/-- what the last operations of such a statement come to: the row is made; where it goes is looked up; it is laid there -/
def TakP (B n p : Nat) (us : List Tr) (W : World) (q : Nat) (vs : List Value) (w : World) : Prop :=
  (q ≤ 3 → Below B W w ∧ w.ownsRow B 29 1 (vs.getD 0 undef) n (flatT us)) ∧ (2 ≤ q → q ≤ 3 → vs.getD 1 undef = .pointer (some ⟨p, 0, none⟩)) ∧ (q = 3 → vs.getD 2 undef = .pointer (some ⟨p, 1, none⟩)) ∧ (q = 4 → ∃ v w1, Below B W w1 ∧ w1.ownsRow B 29 1 v n (flatT us) ∧ w = w1.setCell ⟨p, 1, none⟩ v)

section
variable {S : List Nat} {w : World} {pb : Nat} {most : Int} {G : List Plain.Sp}
set_option maxHeartbeats 4000000 in
theorem rtake16_any (h : IsPR S w pb most G) (hS : ∀ s ∈ S, s < w.heap.size) (i : Int) :
    Calls Try.prog 14 #[.pointer (some ⟨pb, 0, none⟩), .int .i64 i] w fun e w' => e = .returned (.bool (decide (i ∈ ids G))) ∧ IsPR S w' pb most (Po.drop G i) ∧ Kept [pb] w w' := by
  obtain ⟨A, n, cap, hbx, hr⟩ := h.row
  have h64 := h.ok.many
  rw [← hr.len] at h64
  have HAT := Lib.hid (rat16_any hr h64 i)
  have HI := Lib.hid h
  have HS := Lib.hid hS
  have HN := Lib.hid hr.len
  have HBX := Lib.hid hbx
  obtain ⟨h1, h2, rs, hrl, hrm, hl, -, hok⟩ := hr
  have HL := Lib.hid hl
  have HRL := Lib.hid hrl
  have HRM := Lib.hid hrm
  have HOK := Lib.hid hok
  have c1 : w.cell? ⟨pb, 1, none⟩ = some (.slice A n cap) := hbx.cell 1
  clear h hbx hrl hrm hl hok hS
  unfold maxLen at h2
  go_enter Try.func14, Try.ntmps14
  go_wp2_with fail
  refine HAT.out.mono ?_
  rintro e w2 ⟨v, rfl, hat, rfl⟩
  rcases hat with ⟨rfl, hg⟩ | ⟨k, hk, rfl, hmk⟩
  · have HG := Lib.hid hg
    clear hg HAT
    go_wp2_with fail
    go_ret
    rw [decide_eq_false HG.out, drop_none HG.out]
    exact ⟨rfl, HI.out, Kept.refl _ _⟩
  · have HG := Lib.hid (show i ∈ ids G by rw [← hmk]; exact List.getElem_mem hk)
    have HD := Lib.hid (rows_drop hk hmk)
    have hkn : k + 1 ≤ n := by rw [HN.out]; exact hk
    have hkle : k ≤ n := by omega
    have hkt : k < rs.length := by rw [HRL.out]; omega
    obtain ⟨ad, rfl, hadb, -⟩ := at_tr HL.out k hkt
    have HC0 := Lib.hid (fun (W : World) (hW : Below w2.heap.size w2 W) => show W.cell? ⟨pb, 1, none⟩ = some (.slice (some ad) n cap) from ((Kept.of hW []).blk HBX.out (by simp)).cell 1)
    have hlt0 : decide ((k : Int) < 0) = false := by simp
    have hbd : Below w2.heap.size w2 w2.drew := (Below.refl _ _).drew
    clear hmk HAT hk hkt c1
    go_wp2
    refine wp_late (by kernel_rfl) 33 [(14, [0]), (15, []), (16, [0]), (17, [16]), (18, [17]), (19, [18]), (20, [5]), (21, [19, 20]), (22, [15, 21]), (23, [0]), (24, [23]), (25, [24]), (26, [25]), (27, [5]), (28, [27]), (29, [26, 28]), (1016, [22, 29]), (1017, [14]), (1018, [31]), (1019, [32, 30])]
      [Fact.is (.pointer (some ⟨pb, 0, none⟩)), Fact.fresh w2.heap.size 29, Fact.is (.pointer (some ⟨pb, 0, none⟩)), Fact.is (.pointer (some ⟨pb, 0, none⟩)), Fact.is (.pointer (some ⟨pb, 1, none⟩)), Fact.is (.slice (some ad) n cap), Fact.is (.int .i64 (k : Int)), Fact.lie k (flatT (rs.take k)), Fact.row w2.heap.size 29 1 k (flatT (rs.take k)), Fact.is (.pointer (some ⟨pb, 0, none⟩)), Fact.is (.pointer (some ⟨pb, 0, none⟩)), Fact.is (.pointer (some ⟨pb, 1, none⟩)), Fact.is (.slice (some ad) n cap), Fact.is (.int .i64 (k : Int)), Fact.is (.int .i64 ((k + 1 : Nat) : Int)), Fact.lie (n - (k + 1)) (flatT (rs.drop (k + 1))), default, default, default, default]
      [0, 1, 1, 1, 1, 1, 1, 1, 1, 1, 1, 1, 1, 1, 1, 1, 2, 2, 2, 2] [16, 17, 18, 19] [30, 31, 32] [14, 15, 16, 17, 18, 19, 20, 21, 22, 23, 24, 25, 26, 27, 28, 29, 30, 31, 32] (TakP w2.heap.size (k + (n - (k + 1))) pb (rs.take k ++ rs.drop (k + 1)) w2)
      (by kernel_rfl) (by kernel_rfl) rfl rfl ⟨?s0, ?s1, ?s2, ?s3, ?s4, ?s5, ?s6, ?s7, ?s8, ?s9, ?s10, ?s11, ?s12, ?s13, ?s14, ?s15, trivial⟩ ?late ?fin
    case s0 =>
      refine ⟨rfl, _, rfl, ?_⟩
      intro ρ W hc hf hr
      obtain ⟨r0, -⟩ := hr
      have e0 : ρ (.tmp 0) = .pointer (some ⟨pb, 0, none⟩) := r0
      clear r0
      simp [execOp, e0]
    case s1 =>
      intro ρ W hb hc hf hr
      clear hr
      refine under_none rfl ?_
      exact soft_freshTr (hbd.trans (hb.mono (by simp))).size rfl
    case s2 =>
      intro ρ W hb hc hf hr
      obtain ⟨r0, -⟩ := hr
      have e0 : ρ (.tmp 0) = .pointer (some ⟨pb, 0, none⟩) := r0
      clear r0
      refine under_none rfl ?_
      exact ⟨e0, Below.refl _ _⟩
    case s3 =>
      intro ρ W hb hc hf hr
      obtain ⟨r16, -⟩ := hr
      have e16 : ρ (.tmp 16) = .pointer (some ⟨pb, 0, none⟩) := r16
      clear r16
      refine under_none rfl ?_
      simp [execOp, e16, go_sem, softUpon, Fact.is, Below.refl]
    case s4 =>
      intro ρ W hb hc hf hr
      obtain ⟨r17, -⟩ := hr
      have e17 : ρ (.tmp 17) = .pointer (some ⟨pb, 0, none⟩) := r17
      clear r17
      refine under_none rfl ?_
      exact soft_field e17 rfl (fun W => by go_simp)
    case s5 =>
      intro ρ W hb hc hf hr
      obtain ⟨r18, -⟩ := hr
      have e18 : ρ (.tmp 18) = .pointer (some ⟨pb, 1, none⟩) := r18
      clear r18
      refine under_none rfl ?_
      exact soft_load e18 (run_loadTs W _ _ (HC0.out W (hbd.trans (hb.mono (by simp))))) rfl
    case s6 =>
      intro ρ W hb hc hf hr
      obtain ⟨r5, -⟩ := hr
      have e5 : ρ (.tmp 5) = .int .i64 (k : Int) := r5
      clear r5
      refine under_none rfl ?_
      exact ⟨e5, Below.refl _ _⟩
    case s7 =>
      intro ρ W hb hc hf hr
      obtain ⟨r19, r20, -⟩ := hr
      have e19 : ρ (.tmp 19) = .slice (some ad) n cap := r19
      clear r19
      have e20 : ρ (.tmp 20) = .int .i64 (k : Int) := r20
      clear r20
      refine under_none rfl ?_
      exact soft_takeTr e19 e20 HRL.out hkle h1 h2 (HL.out.below (hbd.trans (hb.mono (by simp)))) rfl
    case s8 =>
      intro ρ W hb hc hf hr
      obtain ⟨r15, r21, -⟩ := hr
      refine under_none rfl ?_
      exact soft_app0Tr r15 r21 (by rw [List.length_take, HRL.out]; omega) (by omega) rfl
    case s9 =>
      intro ρ W hb hc hf hr
      obtain ⟨r0, -⟩ := hr
      have e0 : ρ (.tmp 0) = .pointer (some ⟨pb, 0, none⟩) := r0
      clear r0
      refine under_none rfl ?_
      exact ⟨e0, Below.refl _ _⟩
    case s10 =>
      intro ρ W hb hc hf hr
      obtain ⟨r23, -⟩ := hr
      have e23 : ρ (.tmp 23) = .pointer (some ⟨pb, 0, none⟩) := r23
      clear r23
      refine under_none rfl ?_
      simp [execOp, e23, go_sem, softUpon, Fact.is, Below.refl]
    case s11 =>
      intro ρ W hb hc hf hr
      obtain ⟨r24, -⟩ := hr
      have e24 : ρ (.tmp 24) = .pointer (some ⟨pb, 0, none⟩) := r24
      clear r24
      refine under_none rfl ?_
      exact soft_field e24 rfl (fun W => by go_simp)
    case s12 =>
      intro ρ W hb hc hf hr
      obtain ⟨r25, -⟩ := hr
      have e25 : ρ (.tmp 25) = .pointer (some ⟨pb, 1, none⟩) := r25
      clear r25
      refine under_none rfl ?_
      exact soft_load e25 (run_loadTs W _ _ (HC0.out W (hbd.trans (hb.mono (by simp))))) rfl
    case s13 =>
      intro ρ W hb hc hf hr
      obtain ⟨r5, -⟩ := hr
      have e5 : ρ (.tmp 5) = .int .i64 (k : Int) := r5
      clear r5
      refine under_none rfl ?_
      exact ⟨e5, Below.refl _ _⟩
    case s14 =>
      intro ρ W hb hc hf hr
      obtain ⟨r27, -⟩ := hr
      have e27 : ρ (.tmp 27) = .int .i64 (k : Int) := r27
      clear r27
      refine under_none rfl ?_
      exact soft_addOne16 e27 (hc _) (by omega) rfl
    case s15 =>
      intro ρ W hb hc hf hr
      obtain ⟨r26, r28, -⟩ := hr
      have e26 : ρ (.tmp 26) = .slice (some ad) n cap := r26
      clear r26
      have e28 : ρ (.tmp 28) = .int .i64 ((k + 1 : Nat) : Int) := r28
      clear r28
      refine under_none rfl ?_
      exact soft_dropTr e26 e28 HRL.out hkn h1 h2 (HL.out.below (hbd.trans (hb.mono (by simp)))) rfl
    case late =>
      intro p j o hj ho a W hsz h0 h1 hfr hou
      match p, hj with
      | 0, hj =>
        obtain rfl : 16 = j := Option.some.inj hj
        obtain rfl := Option.some.inj ho
        clear hj ho
        obtain ⟨hb, hhard⟩ := h0 rfl
        have r22 : (Fact.row w2.heap.size 29 1 k (flatT (rs.take k))).φ (a.tmps.getD 22 undef) W := hhard 22 8 rfl rfl
        have r29 : (Fact.lie (n - (k + 1)) (flatT (rs.drop (k + 1)))).φ (a.tmps.getD 29 undef) W := hhard 29 15 rfl rfl
        clear h0 h1 hhard hfr hou
        have hW := hbd.trans (hb.mono (by simp))
        refine late_appTr (s := .tmp 22) (x := .tmp 29) (n := k) (m := n - (k + 1)) (l := rs.take k) (k := rs.drop (k + 1)) r22 r29 (by rw [List.length_drop, HRL.out]) (by omega) hW.size rfl fun v w' ho hbb => ⟨v, rfl, ?_⟩
        exact ⟨fun _ => ⟨hbb _ hW, by simpa [Act.put, Array.getD_eq_getD_getElem?, hsz] using ho⟩, fun h => absurd h (by omega), fun h => absurd h (by omega), fun h => absurd h (by omega)⟩
      | 1, hj =>
        obtain rfl : 17 = j := Option.some.inj hj
        obtain rfl := Option.some.inj ho
        clear hj ho
        have hP := h1 (by omega)
        have e14 : a.eval (.tmp 14) = .pointer (some ⟨pb, 0, none⟩) := hfr 14 0 rfl rfl (by kernel_rfl)
        clear h0 h1 hfr hou
        obtain ⟨hW, ho⟩ := hP.1 (by omega)
        refine late_value16 (v := .pointer (some ⟨pb, 0, none⟩)) (run_nilOp16 e14 rfl) ⟨_, rfl, ?_⟩
        exact ⟨fun _ => ⟨hW, by simpa [Act.put, Array.getD_eq_getD_getElem?, hsz] using ho⟩, fun _ _ => by simp [Act.put, Array.getD_eq_getD_getElem?, hsz], fun h => absurd h (by omega), fun h => absurd h (by omega)⟩
      | 2, hj =>
        obtain rfl : 18 = j := Option.some.inj hj
        obtain rfl := Option.some.inj ho
        clear hj ho
        have hP := h1 (by omega)
        clear h0 h1 hfr hou
        obtain ⟨hW, ho⟩ := hP.1 (by omega)
        have h31 := hP.2.1 (by omega) (by omega)
        have e31 : a.eval (.tmp 31) = .pointer (some ⟨pb, 0, none⟩) := by simpa [Act.eval] using h31
        refine late_value16 (v := .pointer (some ⟨pb, 1, none⟩)) (run_fieldOp16 e31 rfl (by go_simp)) ⟨_, rfl, ?_⟩
        exact ⟨fun _ => ⟨hW, by simpa [Act.put, Array.getD_eq_getD_getElem?, hsz] using ho⟩, fun _ _ => by simpa [Act.put, Array.getD_eq_getD_getElem?, hsz] using h31, fun _ => by simp [Act.put, Array.getD_eq_getD_getElem?, hsz], fun h => absurd h (by omega)⟩
      | 3, hj =>
        obtain rfl : 19 = j := Option.some.inj hj
        obtain rfl := Option.some.inj ho
        clear hj ho
        have hP := h1 (by omega)
        clear h0 h1 hfr hou
        obtain ⟨hW, ho⟩ := hP.1 (by omega)
        have h32 := hP.2.2.1 rfl
        have e32 : a.eval (.tmp 32) = .pointer (some ⟨pb, 1, none⟩) := by simpa [Act.eval] using h32
        obtain ⟨A', cap', hv, -⟩ := row_formT ho
        have hv' : a.eval (.tmp 30) = .slice A' (k + (n - (k + 1))) cap' := by simpa [Act.eval] using hv
        have hr1 := (Kept.of hW []).blk HBX.out (by simp)
        refine late_store (x := .tmp 32) (y := .tmp 30) (w' := W.setCell ⟨pb, 1, none⟩ (.slice A' (k + (n - (k + 1))) cap')) rfl (by rw [e32, hv']; exact run_storeTs W ⟨pb, 1, none⟩ _ _ _ _ (hr1.cell 1) (hr1.frozen 1)) ⟨undef, rfl, fun h => absurd h (by omega), fun _ h => absurd h (by omega), fun h => absurd h (by omega), fun _ => ⟨_, W, hW, by rw [← hv]; exact ho, rfl⟩⟩
      | q + 4, hj => cases hj
    case fin =>
      intro a w3 ha hP
      obtain ⟨v, w1, hB1, ho, rfl⟩ := hP.2.2.2 rfl
      obtain ⟨A', cap', rfl, hrp⟩ := rows_made (S := pb :: S) (G := Po.drop G i) ho (fun s hs => by
        rcases List.mem_cons.1 hs with rfl | hs
        · exact HBX.out.lt
        · exact HS.out s hs) (by rw [HD.out, List.map_append, List.map_take, List.map_drop, HRM.out]) (by rw [List.length_append, List.length_take, List.length_drop, HRL.out]; omega) (fun r hr => (HOK.out r (by
        rcases List.mem_append.1 hr with h | h
        · exact List.mem_of_mem_take h
        · exact List.mem_of_mem_drop h)).below hB1)
      obtain ⟨hI3, hK3⟩ := pool_made HI.out hB1 hrp (ok_drop HI.out.ok i)
      have HI3 := Lib.hid hI3
      have HK3 := Lib.hid hK3
      clear hI3 hK3 hP ho hB1 hrp
      simp only [List.foldl_cons, List.foldl_nil] at ha
      generalize a.tmps.getD 14 undef = v14 at ha
      generalize a.tmps.getD 15 undef = v15 at ha
      generalize a.tmps.getD 16 undef = v16 at ha
      generalize a.tmps.getD 17 undef = v17 at ha
      generalize a.tmps.getD 18 undef = v18 at ha
      generalize a.tmps.getD 19 undef = v19 at ha
      generalize a.tmps.getD 20 undef = v20 at ha
      generalize a.tmps.getD 21 undef = v21 at ha
      generalize a.tmps.getD 22 undef = v22 at ha
      generalize a.tmps.getD 23 undef = v23 at ha
      generalize a.tmps.getD 24 undef = v24 at ha
      generalize a.tmps.getD 25 undef = v25 at ha
      generalize a.tmps.getD 26 undef = v26 at ha
      generalize a.tmps.getD 27 undef = v27 at ha
      generalize a.tmps.getD 28 undef = v28 at ha
      generalize a.tmps.getD 29 undef = v29 at ha
      generalize a.tmps.getD 30 undef = v30 at ha
      generalize a.tmps.getD 31 undef = v31 at ha
      generalize a.tmps.getD 32 undef = v32 at ha
      simp only [Act.put, List.setIfInBounds_toArray, List.set_cons_succ, List.set_cons_zero] at ha
      subst ha
      go_wp2
      go_ret
      rw [decide_eq_true HG.out]
      exact ⟨rfl, HI3.out, HK3.out⟩
end
end Go.Proofs.Ythcchfhkeghkhaa

