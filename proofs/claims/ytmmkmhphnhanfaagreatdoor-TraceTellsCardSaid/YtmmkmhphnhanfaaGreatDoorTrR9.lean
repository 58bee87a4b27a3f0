/-
  turntableref05: what Of answers, of any spans. Nothing is assumed but that the spans lie in memory.
-/
import Derived.Test.YtmmkmhphnhanfaaGreatDoorTrR8

namespace Go.Proofs.YtmmkmhphnhanfaaGreatDoor
open Go.RowKit
set_option maxRecDepth 100000

theorem soft_build3 {w : World} {ρ : Operand → Value} {o : Oper} {x0 x1 x3 : Operand} {i lo m : Int} (h0 : ρ x0 = .int .i64 i) (h1 : ρ x1 = .int .i64 lo) (h3 : ρ x3 = .int .i64 m) (ho : o.op = .build 35 #[(0, x0), (1, x1), (3, x3)]) :
    softUpon Tryz.prog w (Fact.is (.agg #[.int .i64 i, .int .i64 lo, .int .i64 0, .int .i64 m, .slice none 0 0])) ((execOp ρ o).run Tryz.prog w) := by
  have hr : (execOp ρ o).run Tryz.prog w = .ok (.value (.agg #[.int .i64 i, .int .i64 lo, .int .i64 0, .int .i64 m, .slice none 0 0])) w := by
    simp [execOp, ho, h0, h1, h3, go_sem]
  rw [hr]
  exact ⟨rfl, Below.refl _ _⟩
theorem min_run (x y : Int) (W : World) (h : x ≤ y) : (Builtin.min_ #[2, 2] 2 #[.int .i64 x, .int .i64 y]).run Tryz.prog W = .ok (.int .i64 x) W := by
  have h2 : ¬ y < x := by omega
  simp [Builtin.min_, Builtin.min2, go_sem, h2]
theorem soft_min {w : World} {ρ : Operand → Value} {o : Oper} {x y : Operand} {a b : Int} (hx : ρ x = .int .i64 a) (hy : ρ y = .int .i64 b) (hab : a ≤ b) (ho : o.op = .call { callee := .builtin .min, args := #[x, y], argTypes := #[2, 2] }) (hty : o.type = 2) :
    softUpon Tryz.prog w (Fact.is (.int .i64 a)) ((execOp ρ o).run Tryz.prog w) := by
  have hr : (execOp ρ o).run Tryz.prog w = .ok (.value (.int .i64 a)) w := by
    simp [execOp, ho, hty, resolve, invoke, builtin, hx, hy, min_run a b w hab, Result.andThen]
  rw [hr]
  exact ⟨rfl, Below.refl _ _⟩
theorem store_texts {W : World} {g : Nat} {z : Value} {A : Option Addr} {m cap : Nat} {cs : Array Value} {t : TypeId} (h : Blk W g cs t) (hz : cs[4]? = some z) : (Instr.storeAt 33 (.pointer (some ⟨g, 4, none⟩)) (.slice A m cap)).run Tryz.prog W = .ok () (W.setCell ⟨g, 4, none⟩ (.slice A m cap)) := by
  have h1 : W.cell? ⟨g, 4, none⟩ = some z := (h.cell 4).trans hz
  have h2 := h.frozen 4
  go_simp
theorem load_texts {W : World} {a : Addr} {A : Option Addr} {n c : Nat} (h : W.cell? a = some (.slice A n c)) : (Instr.loadAt 33 (.pointer (some a))).run Tryz.prog W = .ok (.slice A n c) W := by
  go_simp
theorem load_text {W : World} {a : Addr} {x : ByteArray} (h : W.cell? a = some (.string x)) : (Instr.loadAt 9 (.pointer (some a))).run Tryz.prog W = .ok (.string x) W := by
  go_simp

set_option maxHeartbeats 8000000 in
theorem rtof_any (A : Option Addr) (n cap : Nat) (l : List Plain.Sp) (w : World) (hn : l.length = n) (hA : Lies w A (flat l)) (hS : Fine l) :
    Calls Tryz.prog 21 #[.slice A n cap] w fun e w' => ∃ v, e = .returned v ∧ GivesB w w' (Plain.brief l) v := by
  have HN := Lib.hid hn
  have HA := Lib.hid hA
  have HS := Lib.hid hS
  have b0 := Blk.new w #[.int .i64 0, .int .i64 0, .int .i64 0, .int .i64 0, .slice none 0 0] 35
  have c0 : Below w.heap.size w (w.alloc (.cells #[.int .i64 0, .int .i64 0, .int .i64 0, .int .i64 0, .slice none 0 0] 35)) := (Below.refl _ _).alloc (Nat.le_refl _) _
  have HR := Lib.hid (rtright_any A n cap l _ hn (hA.below c0) hS)
  have HB0 := Lib.hid b0
  clear hn hA hS b0
  obtain ⟨R, hRR⟩ : ∃ R, Plain.isT l = R := ⟨_, rfl⟩
  rw [hRR] at HR
  go_enter Tryz.func21, Tryz.ntmps21
  go_wp2_with fail
  refine HR.out.mono ?_
  rintro e w2 ⟨rfl, d1⟩
  have c1 := c0.trans (d1.mono c0.size)
  have HB1 := Lib.hid ((Kept.of d1 []).blk HB0.out (by simp))
  have hs1 : w.heap.size < w2.heap.size := HB1.out.lt
  rcases R with _ | _
  · have HBF := Lib.hid (Plain.brief_no hRR)
    clear hRR HR
    obtain ⟨y0, y1, y2, y3, y4⟩ := HB1.out.five
    have fz := HB1.out.frozen
    go_wp2
    obtain ⟨bf, kf⟩ := five w2 w.heap.size _ _ _ _ _ (.int .i64 0) (.int .i64 0) (.int .i64 0) (.int .i64 0) (.slice none 0 0) _ HB1.out
    generalize ((((w2.setCell ⟨w.heap.size, 0, none⟩ (.int .i64 0)).setCell ⟨w.heap.size, 1, none⟩ (.int .i64 0)).setCell ⟨w.heap.size, 2, none⟩ (.int .i64 0)).setCell ⟨w.heap.size, 3, none⟩ (.int .i64 0)).setCell ⟨w.heap.size, 4, none⟩ (.slice none 0 0) = wf at *
    clear y0 y1 y2 y3 y4
    obtain ⟨y0, y1, y2, y3, y4⟩ := bf.five
    refine bodyPost_ret (v := .agg #[.int .i64 0, .int .i64 0, .int .i64 0, .int .i64 0, .slice none 0 0]) (w := wf) (by simp [results, Tryz.results21, go_sem, y0, y1, y2, y3, y4]) rfl ?_
    rw [HBF.out]
    exact ⟨_, rfl, none, 0, rfl, by simp [Plain.Br.zero], by unfold maxLen; omega, .inl rfl, Kept.below c1 kf (by simp)⟩
  obtain ⟨h1n, h64⟩ := Plain.isT_len hRR
  rw [HN.out] at h1n h64
  have HBF := Lib.hid (Plain.brief_yes hRR)
  have HRT := Lib.hid (Plain.isT_right hRR)
  have HHL := Lib.hid (Plain.head_le ((Plain.isT_iff l).1 hRR))
  have h0l : 0 < l.length := by rw [HN.out]; omega
  rw [head_at h0l] at HHL
  rw [head_at h0l, HN.out] at HBF
  obtain ⟨ad, rfl, hadb, hc0⟩ := at_span HA.out 0 h0l
  have hbd : Below w2.heap.size w2 w2.drew := (Below.refl _ _).drew
  have LZT := Lib.hid (fun (W : World) (h : Below w2.heap.size w2 W) => load_num_at (hc0 W (c1.trans (h.mono c1.size))).1)
  have LZS := Lib.hid (fun (W : World) (h : Below w2.heap.size w2 W) => load_num_at (hc0 W (c1.trans (h.mono c1.size))).2.2.2.1)
  clear hc0 hRR HR
  generalize l[0].t = zt at *
  generalize l[0].s = zs at *
  go_wp2
  refine wp_late (by kernel_rfl) 54 [(9, [0]), (10, [9]), (11, [10]), (12, [11]), (13, [0]), (14, [13]), (15, [14]), (16, [15]), (17, [0]), (18, [17]), (19, [12, 16, 18]), (3, []), (1012, [3, 19])]
    [Fact.is (.slice (some ad) n cap), Fact.is (.pointer (some (Addr.add ad (0 * 7)))), Fact.is (.pointer (some (Addr.add ad (0 * 7)))), Fact.is (.int .i64 zt), Fact.is (.slice (some ad) n cap), Fact.is (.pointer (some (Addr.add ad (0 * 7)))), Fact.is (.pointer (some ⟨(Addr.add ad (0 * 7)).block, (Addr.add ad (0 * 7)).off + 3, none⟩)), Fact.is (.int .i64 zs), Fact.is (.slice (some ad) n cap), Fact.is (.int .i64 (n : Int)), Fact.is (.agg #[.int .i64 zt, .int .i64 zs, .int .i64 0, .int .i64 (n : Int), .slice none 0 0]), Fact.blk w2.heap.size #[.int .i64 0, .int .i64 0, .int .i64 0, .int .i64 0, .slice none 0 0] 35, default]
    [1, 1, 1, 1, 1, 1, 1, 1, 1, 1, 1, 1, 2] [12] [3] [9, 10, 11, 12, 13, 14, 15, 16, 17, 18, 19, 3] (fun p vs w' => match p, vs with | 1, [v] => ∃ g, v = .pointer (some ⟨g, 0, none⟩) ∧ Blk w' g #[.int .i64 zt, .int .i64 zs, .int .i64 0, .int .i64 (n : Int), .slice none 0 0] 35 ∧ w2.heap.size ≤ g ∧ Below w2.heap.size w2 w' | _, _ => False)
    (by kernel_rfl) (by kernel_rfl) rfl rfl ⟨?s0, ?s1, ?s2, ?s3, ?s4, ?s5, ?s6, ?s7, ?s8, ?s9, ?s10, ?s11, trivial⟩ ?late ?fin
  case s0 =>
    intro ρ W hb hc hf hr
    obtain ⟨r0, -⟩ := hr
    have e0 : ρ (.tmp 0) = .slice (some ad) n cap := r0
    clear r0
    refine under_none rfl ?_
    exact ⟨e0, Below.refl _ _⟩
  case s1 =>
    intro ρ W hb hc hf hr
    obtain ⟨r9, -⟩ := hr
    have e9 : ρ (.tmp 9) = .slice (some ad) n cap := r9
    clear r9
    refine under_none rfl ?_
    exact soft_index7 (k := 0) e9 (hc _) (by omega) rfl
  case s2 =>
    intro ρ W hb hc hf hr
    obtain ⟨r10, -⟩ := hr
    have e10 : ρ (.tmp 10) = .pointer (some (Addr.add ad (0 * 7))) := r10
    clear r10
    refine under_none rfl ?_
    exact soft_field e10 rfl (fun W => by go_simp)
  case s3 =>
    intro ρ W hb hc hf hr
    obtain ⟨r11, -⟩ := hr
    have e11 : ρ (.tmp 11) = .pointer (some (Addr.add ad (0 * 7))) := r11
    clear r11
    refine under_none rfl ?_
    exact soft_load e11 (LZT.out W (hbd.trans (hb.mono (by simp)))) rfl
  case s4 =>
    intro ρ W hb hc hf hr
    obtain ⟨r0, -⟩ := hr
    have e0 : ρ (.tmp 0) = .slice (some ad) n cap := r0
    clear r0
    refine under_none rfl ?_
    exact ⟨e0, Below.refl _ _⟩
  case s5 =>
    intro ρ W hb hc hf hr
    obtain ⟨r13, -⟩ := hr
    have e13 : ρ (.tmp 13) = .slice (some ad) n cap := r13
    clear r13
    refine under_none rfl ?_
    exact soft_index7 (k := 0) e13 (hc _) (by omega) rfl
  case s6 =>
    intro ρ W hb hc hf hr
    obtain ⟨r14, -⟩ := hr
    have e14 : ρ (.tmp 14) = .pointer (some (Addr.add ad (0 * 7))) := r14
    clear r14
    refine under_none rfl ?_
    exact soft_field e14 rfl (fun W => by go_simp)
  case s7 =>
    intro ρ W hb hc hf hr
    obtain ⟨r15, -⟩ := hr
    have e15 : ρ (.tmp 15) = .pointer (some ⟨(Addr.add ad (0 * 7)).block, (Addr.add ad (0 * 7)).off + 3, none⟩) := r15
    clear r15
    refine under_none rfl ?_
    exact soft_load e15 (LZS.out W (hbd.trans (hb.mono (by simp)))) rfl
  case s8 =>
    intro ρ W hb hc hf hr
    obtain ⟨r0, -⟩ := hr
    have e0 : ρ (.tmp 0) = .slice (some ad) n cap := r0
    clear r0
    refine under_none rfl ?_
    exact ⟨e0, Below.refl _ _⟩
  case s9 =>
    intro ρ W hb hc hf hr
    obtain ⟨r17, -⟩ := hr
    have e17 : ρ (.tmp 17) = .slice (some ad) n cap := r17
    clear r17
    refine under_none rfl ?_
    simp [e17, go_sem, softUpon, Fact.is, Below.refl]
  case s10 =>
    intro ρ W hb hc hf hr
    obtain ⟨r12, r16, r18, -⟩ := hr
    have e12 : ρ (.tmp 12) = .int .i64 zt := r12
    clear r12
    have e16 : ρ (.tmp 16) = .int .i64 zs := r16
    clear r16
    have e18 : ρ (.tmp 18) = .int .i64 (n : Int) := r18
    clear r18
    refine under_none rfl ?_
    exact soft_build3 e12 e16 e18 rfl
  case s11 =>
    intro ρ W hb hc hf hr
    clear hr
    refine under_none rfl ?_
    exact soft_alloc (hbd.trans (hb.mono (by simp))).size rfl
  case late =>
    intro p j o hj ho a W hsz h0 h1 hfr hou
    match p, hj with
    | 0, hj =>
      obtain rfl : 12 = j := Option.some.inj hj
      obtain rfl := Option.some.inj ho
      clear hj ho
      obtain ⟨hb, hhard⟩ := h0 rfl
      have r3 : (Fact.blk w2.heap.size #[.int .i64 0, .int .i64 0, .int .i64 0, .int .i64 0, .slice none 0 0] 35).φ (a.tmps.getD 3 undef) W := hhard 3 11 rfl rfl
      have e19 : a.eval (.tmp 19) = .agg #[.int .i64 zt, .int .i64 zs, .int .i64 0, .int .i64 (n : Int), .slice none 0 0] := hhard 19 10 rfl rfl
      clear h0 h1 hhard hfr hou
      obtain ⟨g, e3, hg1, hg2⟩ := r3
      obtain ⟨bf, kf⟩ := five W g _ _ _ _ _ (.int .i64 zt) (.int .i64 zs) (.int .i64 0) (.int .i64 (n : Int)) (.slice none 0 0) _ hg2
      refine late_store rfl e3 e19 (store_brief hg2) ⟨undef, rfl, ?_⟩
      exact ⟨g, e3, bf, hg1, Kept.below (hbd.trans (hb.mono (by simp))) kf (by simpa using hg1)⟩
    | q + 1, hj => cases hj
  case fin =>
    intro a w3 ha hP
    obtain ⟨g, e3, hbg, hgw, d3⟩ := hP
    have e3 : a.tmps.getD 3 undef = .pointer (some ⟨g, 0, none⟩) := e3
    simp only [List.foldl_cons, List.foldl_nil, e3] at ha
    clear e3
    generalize a.tmps.getD 9 undef = v9 at ha
    generalize a.tmps.getD 10 undef = v10 at ha
    generalize a.tmps.getD 11 undef = v11 at ha
    generalize a.tmps.getD 12 undef = v12 at ha
    generalize a.tmps.getD 13 undef = v13 at ha
    generalize a.tmps.getD 14 undef = v14 at ha
    generalize a.tmps.getD 15 undef = v15 at ha
    generalize a.tmps.getD 16 undef = v16 at ha
    generalize a.tmps.getD 17 undef = v17 at ha
    generalize a.tmps.getD 18 undef = v18 at ha
    generalize a.tmps.getD 19 undef = v19 at ha
    simp only [Act.put, List.setIfInBounds_toArray, List.set_cons_succ, List.set_cons_zero] at ha
    subst ha
    have c3 := c1.trans (d3.mono c1.size)
    have HG3 := Lib.hid hbg
    have hB3 := (Kept.of d3 []).blk HB1.out (by simp)
    have HB3 := Lib.hid hB3
    have hgR : g ≠ w.heap.size := by omega
    clear hbg hB3 HB1 HB0 LZT LZS hbd
    go_wp2
    go_loopw [4] (fun i wr => ∃ (k cs : Nat) (AS : Option Addr), i = .int .i64 k ∧ k ≤ n ∧ (Plain.svs (l.take k)).length ≤ cs ∧ cs ≤ maxLen ∧ Blk wr g #[.int .i64 zt, .int .i64 zs, .int .i64 (Plain.top (l.take k)), .int .i64 (n : Int), .slice AS (Plain.svs (l.take k)).length cs] 35 ∧ Kept [g] w3 wr ∧ Lies wr AS (strs (Plain.svs (l.take k)))) (fun i _ => n - (intOf i).toNat)
    case atStart =>
      have e0 : Plain.svs (l.take 0) = [] := List.eq_nil_of_length_eq_zero (Nat.le_zero.1 (by simpa using Plain.svs_len (l.take 0)))
      refine ⟨0, 0, none, rfl, Nat.zero_le _, by rw [e0]; simp, Nat.zero_le _, by rw [e0]; exact HG3.out, Kept.refl _ _, by rw [e0]; exact .inl rfl⟩
    case round =>
      obtain ⟨k, cs, AS, rfl, hk, hcs1, hcs2, hbk, hkk, hlk⟩ := hrel
      have HBK := Lib.hid hbk
      have HLK := Lib.hid hlk
      clear hbk hlk
      have hbr : Below w.heap.size w wr := Kept.below c3 hkk (by simp; omega)
      by_cases hlt : k < n
      · have hkl : k < l.length := by rw [HN.out]; exact hlt
        obtain ⟨ad', had, -, hc⟩ := at_span HA.out k hkl
        obtain rfl : ad = ad' := by injection had
        have HCX := Lib.hid hc
        obtain ⟨hxv, hxn⟩ := HS.out l[k] (List.getElem_mem hkl)
        have HT := Lib.hid (show Plain.top (l.take (k + 1)) = max (Plain.top (l.take k)) (l[k].s + l[k].d) by rw [List.take_succ_eq_append_getElem hkl, Plain.top_snoc])
        have HV := Lib.hid (show Plain.wth (Plain.svs (l.take k)) l[k].sv = Plain.svs (l.take (k + 1)) by rw [List.take_succ_eq_append_getElem hkl, Plain.svs_snoc])
        have HLE := Lib.hid (HHL.out l[k] (List.getElem_mem hkl))
        have hR := sp_right l[k]
        rw [HRT.out _ (List.getElem_mem hkl)] at hR
        rw [← str_size] at hxv hxn
        have hsl : (Plain.svs (l.take k)).length ≤ 900 := Nat.le_trans (Plain.svs_len _) (by rw [List.length_take]; omega)
        clear hc had
        generalize l[k] = x at *
        have HE0 := Lib.hid (fun (W : World) => rend_any x.t x.i x.p x.s x.d (str x.sv) (str x.nm) W true hxv hxn hR)
        have hEE : endN true x.s x.d = x.s + x.d := rfl
        rw [hEE] at HE0
        obtain ⟨E, hE⟩ : ∃ E, x.s + x.d = E := ⟨_, rfl⟩
        rw [hE] at HE0 HT
        have HE := HE0
        clear hR hEE hE HE0
        obtain ⟨SV, hSV⟩ : ∃ SV, Plain.svs (l.take k) = SV := ⟨_, rfl⟩
        obtain ⟨SV2, hSV2⟩ : ∃ SV2, Plain.svs (l.take (k + 1)) = SV2 := ⟨_, rfl⟩
        have HSV2 := Lib.hid hSV2
        rw [hSV, hSV2] at HV
        rw [hSV] at HBK HLK hcs1 hsl
        obtain ⟨T2, hT2⟩ : ∃ T2, Plain.top (l.take (k + 1)) = T2 := ⟨_, rfl⟩
        have HT2 := Lib.hid hT2
        rw [hT2] at HT
        generalize Plain.top (l.take k) = T at *
        clear hSV hSV2 hT2
        obtain ⟨sn, hsn⟩ : ∃ sn, SV.length = sn := ⟨_, rfl⟩
        have HSN := Lib.hid hsn
        rw [hsn] at HBK hcs1 hsl
        clear hsn
        have hbd : Below wr.heap.size wr wr.drew := (Below.refl _ _).drew
        have LS1 := Lib.hid (fun (W : World) (h : Below wr.heap.size wr W) => load_num (((Kept.of h []).blk HBK.out (by simp)).cell 1))
        have LXS := Lib.hid (fun (W : World) (h : Below wr.heap.size wr W) => load_num_at (HCX.out W (hbr.trans (h.mono hbr.size))).2.2.2.1)
        go_wp2
        refine wp_late (by kernel_rfl) 54 [(26, [3]), (27, [26]), (28, [0]), (29, [4]), (30, [28, 29]), (31, [30]), (32, [31]), (33, [27, 32]), (34, [3]), (1009, [34, 33])]
          [Fact.is (.pointer (some ⟨g, 1, none⟩)), Fact.is (.int .i64 zs), Fact.is (.slice (some ad) n cap), Fact.is (.int .i64 (k : Int)), Fact.is (.pointer (some (Addr.add ad (k * 7)))), Fact.is (.pointer (some ⟨((Addr.add ad (k * 7))).block, ((Addr.add ad (k * 7))).off + 3, none⟩)), Fact.is (.int .i64 x.s), Fact.is (.int .i64 zs), Fact.is (.pointer (some ⟨g, 1, none⟩)), default]
          [1, 1, 1, 1, 1, 1, 1, 1, 1, 2] [9] [] [26, 27, 28, 29, 30, 31, 32, 33, 34] (fun p vs w' => match p, vs with | 1, [] => Blk w' g #[.int .i64 zt, .int .i64 zs, .int .i64 T, .int .i64 (n : Int), .slice AS sn cs] 35 ∧ Kept [g] wr w' | _, _ => False)
          (by kernel_rfl) (by kernel_rfl) rfl rfl ⟨?s0, ?s1, ?s2, ?s3, ?s4, ?s5, ?s6, ?s7, ?s8, trivial⟩ ?late ?fin
        case s0 =>
          intro ρ W hb hc hf hr
          obtain ⟨r3, -⟩ := hr
          have e3 : ρ (.tmp 3) = .pointer (some ⟨g, 0, none⟩) := r3
          clear r3
          refine under_none rfl ?_
          exact soft_field e3 rfl (fun W => by go_simp)
        case s1 =>
          intro ρ W hb hc hf hr
          obtain ⟨r26, -⟩ := hr
          have e26 : ρ (.tmp 26) = .pointer (some ⟨g, 1, none⟩) := r26
          clear r26
          refine under_none rfl ?_
          exact soft_load e26 (LS1.out W (hbd.trans (hb.mono (by simp)))) rfl
        case s2 =>
          intro ρ W hb hc hf hr
          obtain ⟨r0, -⟩ := hr
          have e0 : ρ (.tmp 0) = .slice (some ad) n cap := r0
          clear r0
          refine under_none rfl ?_
          exact ⟨e0, Below.refl _ _⟩
        case s3 =>
          intro ρ W hb hc hf hr
          obtain ⟨r4, -⟩ := hr
          have e4 : ρ (.tmp 4) = .int .i64 (k : Int) := r4
          clear r4
          refine under_none rfl ?_
          exact ⟨e4, Below.refl _ _⟩
        case s4 =>
          intro ρ W hb hc hf hr
          obtain ⟨r28, r29, -⟩ := hr
          have e28 : ρ (.tmp 28) = .slice (some ad) n cap := r28
          clear r28
          have e29 : ρ (.tmp 29) = .int .i64 (k : Int) := r29
          clear r29
          refine under_none rfl ?_
          exact soft_index7 e28 e29 (by omega) rfl
        case s5 =>
          intro ρ W hb hc hf hr
          obtain ⟨r30, -⟩ := hr
          have e30 : ρ (.tmp 30) = .pointer (some (Addr.add ad (k * 7))) := r30
          clear r30
          refine under_none rfl ?_
          exact soft_field e30 rfl (fun W => by go_simp)
        case s6 =>
          intro ρ W hb hc hf hr
          obtain ⟨r31, -⟩ := hr
          have e31 : ρ (.tmp 31) = .pointer (some ⟨((Addr.add ad (k * 7))).block, ((Addr.add ad (k * 7))).off + 3, none⟩) := r31
          clear r31
          refine under_none rfl ?_
          exact soft_load e31 (LXS.out W (hbd.trans (hb.mono (by simp)))) rfl
        case s7 =>
          intro ρ W hb hc hf hr
          obtain ⟨r27, r32, -⟩ := hr
          have e27 : ρ (.tmp 27) = .int .i64 zs := r27
          clear r27
          have e32 : ρ (.tmp 32) = .int .i64 x.s := r32
          clear r32
          refine under_none rfl ?_
          exact soft_min e27 e32 HLE.out rfl rfl
        case s8 =>
          intro ρ W hb hc hf hr
          obtain ⟨r3, -⟩ := hr
          have e3 : ρ (.tmp 3) = .pointer (some ⟨g, 0, none⟩) := r3
          clear r3
          refine under_none rfl ?_
          exact soft_field e3 rfl (fun W => by go_simp)
        case late =>
          intro p j o hj ho a W hsz h0 h1 hfr hou
          match p, hj with
          | 0, hj =>
            obtain rfl : 9 = j := Option.some.inj hj
            obtain rfl := Option.some.inj ho
            clear hj ho
            obtain ⟨hb, hhard⟩ := h0 rfl
            have e34 : a.eval (.tmp 34) = .pointer (some ⟨g, 1, none⟩) := hhard 34 8 rfl rfl
            have e33 : a.eval (.tmp 33) = .int .i64 zs := hhard 33 7 rfl rfl
            clear h0 h1 hhard hfr hou
            have bgW := (Kept.of (hbd.trans (hb.mono (by simp))) []).blk HBK.out (by simp)
            have bset := bgW.set 1 (.int .i64 zs)
            refine late_store rfl e34 e33 (store_num bgW rfl) ⟨undef, rfl, ?_⟩
            exact ⟨by simpa using bset, ((Kept.of (hbd.trans (hb.mono (by simp))) [g]).setCell (by simp) _)⟩
          | q + 1, hj => cases hj
        case fin =>
          intro a w4 ha hP
          obtain ⟨hb4, hk4⟩ := hP
          simp only [List.foldl_cons, List.foldl_nil] at ha
          generalize a.tmps.getD 26 undef = v26 at ha
          generalize a.tmps.getD 27 undef = v27 at ha
          generalize a.tmps.getD 28 undef = v28 at ha
          generalize a.tmps.getD 29 undef = v29 at ha
          generalize a.tmps.getD 30 undef = v30 at ha
          generalize a.tmps.getD 31 undef = v31 at ha
          generalize a.tmps.getD 32 undef = v32 at ha
          generalize a.tmps.getD 33 undef = v33 at ha
          generalize a.tmps.getD 34 undef = v34 at ha
          simp only [Act.put, List.setIfInBounds_toArray, List.set_cons_succ, List.set_cons_zero] at ha
          subst ha
          have HB4 := Lib.hid hb4
          have HL4 := Lib.hid (lies_kept HLK.out HBK.out (no_text _ _ _ _ _ _ _) hk4)
          have c4 : Below w.heap.size w w4 := Kept.below hbr hk4 (by simp; omega)
          have hbd4 : Below w4.heap.size w4 w4.drew := (Below.refl _ _).drew
          have LT := Lib.hid (fun (W : World) (h : Below w4.heap.size w4 W) => load_num (((Kept.of h []).blk HB4.out (by simp)).cell 2))
          have LX := Lib.hid (fun (W : World) (h : Below w4.heap.size w4 W) => have q := HCX.out W (c4.trans (h.mono c4.size)); load_span_at q.1 q.2.1 q.2.2.1 q.2.2.2.1 q.2.2.2.2.1 q.2.2.2.2.2.1 q.2.2.2.2.2.2)
          clear hb4 LS1 LXS hbd
          go_wp2
          refine wp_late (by kernel_rfl) 54 [(35, [3]), (36, [35]), (37, [0]), (38, [4]), (39, [37, 38]), (40, [39]), (41, [40]), (42, [36, 41]), (43, [3]), (1009, [43, 42])]
            [Fact.is (.pointer (some ⟨g, 2, none⟩)), Fact.is (.int .i64 T), Fact.is (.slice (some ad) n cap), Fact.is (.int .i64 (k : Int)), Fact.is (.pointer (some (Addr.add ad (k * 7)))), Fact.is (.agg #[.int .i64 x.t, .int .i64 x.i, .int .i64 x.p, .int .i64 x.s, .int .i64 x.d, .string (str x.sv), .string (str x.nm)]), Fact.is (.int .i64 E), Fact.is (.int .i64 (max T E)), Fact.is (.pointer (some ⟨g, 2, none⟩)), default]
            [1, 1, 1, 1, 1, 1, 1, 1, 1, 2] [9] [] [35, 36, 37, 38, 39, 40, 41, 42, 43] (fun p vs w' => match p, vs with | 1, [] => Blk w' g #[.int .i64 zt, .int .i64 zs, .int .i64 (max T E), .int .i64 (n : Int), .slice AS sn cs] 35 ∧ Kept [g] w4 w' | _, _ => False)
            (by kernel_rfl) (by kernel_rfl) rfl rfl ⟨?s0, ?s1, ?s2, ?s3, ?s4, ?s5, ?s6, ?s7, ?s8, trivial⟩ ?late ?fin
          case s0 =>
            intro ρ W hb hc hf hr
            obtain ⟨r3, -⟩ := hr
            have e3 : ρ (.tmp 3) = .pointer (some ⟨g, 0, none⟩) := r3
            clear r3
            refine under_none rfl ?_
            exact soft_field e3 rfl (fun W => by go_simp)
          case s1 =>
            intro ρ W hb hc hf hr
            obtain ⟨r35, -⟩ := hr
            have e35 : ρ (.tmp 35) = .pointer (some ⟨g, 2, none⟩) := r35
            clear r35
            refine under_none rfl ?_
            exact soft_load e35 (LT.out W (hbd4.trans (hb.mono (by simp)))) rfl
          case s2 =>
            intro ρ W hb hc hf hr
            obtain ⟨r0, -⟩ := hr
            have e0 : ρ (.tmp 0) = .slice (some ad) n cap := r0
            clear r0
            refine under_none rfl ?_
            exact ⟨e0, Below.refl _ _⟩
          case s3 =>
            intro ρ W hb hc hf hr
            obtain ⟨r4, -⟩ := hr
            have e4 : ρ (.tmp 4) = .int .i64 (k : Int) := r4
            clear r4
            refine under_none rfl ?_
            exact ⟨e4, Below.refl _ _⟩
          case s4 =>
            intro ρ W hb hc hf hr
            obtain ⟨r37, r38, -⟩ := hr
            have e37 : ρ (.tmp 37) = .slice (some ad) n cap := r37
            clear r37
            have e38 : ρ (.tmp 38) = .int .i64 (k : Int) := r38
            clear r38
            refine under_none rfl ?_
            exact soft_index7 e37 e38 (by omega) rfl
          case s5 =>
            intro ρ W hb hc hf hr
            obtain ⟨r39, -⟩ := hr
            have e39 : ρ (.tmp 39) = .pointer (some (Addr.add ad (k * 7))) := r39
            clear r39
            refine under_none rfl ?_
            exact soft_load e39 (LX.out W (hbd4.trans (hb.mono (by simp)))) rfl
          case s6 =>
            intro ρ W hb hc hf hr
            obtain ⟨r40, -⟩ := hr
            have e40 : ρ (.tmp 40) = .agg #[.int .i64 x.t, .int .i64 x.i, .int .i64 x.p, .int .i64 x.s, .int .i64 x.d, .string (str x.sv), .string (str x.nm)] := r40
            clear r40
            refine under_none rfl ?_
            exact soft_call1 hf e40 (HE.out W) rfl (by kernel_rfl) below_is
          case s7 =>
            intro ρ W hb hc hf hr
            obtain ⟨r36, r41, -⟩ := hr
            have e36 : ρ (.tmp 36) = .int .i64 T := r36
            clear r36
            have e41 : ρ (.tmp 41) = .int .i64 E := r41
            clear r41
            refine under_none rfl ?_
            exact soft_max e36 e41 rfl rfl
          case s8 =>
            intro ρ W hb hc hf hr
            obtain ⟨r3, -⟩ := hr
            have e3 : ρ (.tmp 3) = .pointer (some ⟨g, 0, none⟩) := r3
            clear r3
            refine under_none rfl ?_
            exact soft_field e3 rfl (fun W => by go_simp)
          case late =>
            intro p j o hj ho a W hsz h0 h1 hfr hou
            match p, hj with
            | 0, hj =>
              obtain rfl : 9 = j := Option.some.inj hj
              obtain rfl := Option.some.inj ho
              clear hj ho
              obtain ⟨hb, hhard⟩ := h0 rfl
              have e43 : a.eval (.tmp 43) = .pointer (some ⟨g, 2, none⟩) := hhard 43 8 rfl rfl
              have e42 : a.eval (.tmp 42) = .int .i64 (max T E) := hhard 42 7 rfl rfl
              clear h0 h1 hhard hfr hou
              have bgW := (Kept.of (hbd4.trans (hb.mono (by simp))) []).blk HB4.out (by simp)
              have bset := bgW.set 2 (.int .i64 (max T E))
              refine late_store rfl e43 e42 (store_num bgW rfl) ⟨undef, rfl, ?_⟩
              exact ⟨by simpa using bset, ((Kept.of (hbd4.trans (hb.mono (by simp))) [g]).setCell (by simp) _)⟩
            | q + 1, hj => cases hj
          case fin =>
            intro a w5 ha hP
            obtain ⟨hb5, hk5⟩ := hP
            simp only [List.foldl_cons, List.foldl_nil] at ha
            generalize a.tmps.getD 35 undef = v35 at ha
            generalize a.tmps.getD 36 undef = v36 at ha
            generalize a.tmps.getD 37 undef = v37 at ha
            generalize a.tmps.getD 38 undef = v38 at ha
            generalize a.tmps.getD 39 undef = v39 at ha
            generalize a.tmps.getD 40 undef = v40 at ha
            generalize a.tmps.getD 41 undef = v41 at ha
            generalize a.tmps.getD 42 undef = v42 at ha
            generalize a.tmps.getD 43 undef = v43 at ha
            simp only [Act.put, List.setIfInBounds_toArray, List.set_cons_succ, List.set_cons_zero] at ha
            subst ha
            obtain ⟨M, hM⟩ : ∃ M, max T E = M := ⟨_, rfl⟩
            rw [hM] at hb5 HT
            have HB5 := Lib.hid hb5
            have HL5 := Lib.hid (lies_kept HL4.out HB4.out (no_text _ _ _ _ _ _ _) hk5)
            have c5 : Below w.heap.size w w5 := Kept.below c4 hk5 (by simp; omega)
            have hbd5 : Below w5.heap.size w5 w5.drew := (Below.refl _ _).drew
            have LSV := Lib.hid (fun (W : World) (h : Below w5.heap.size w5 W) => load_texts (((Kept.of h []).blk HB5.out (by simp)).cell 4))
            have LXV := Lib.hid (fun (W : World) (h : Below w5.heap.size w5 W) => load_text (HCX.out W (c5.trans (h.mono c5.size))).2.2.2.2.2.1)
            have HWT := Lib.hid (fun (W : World) (h : Below w5.heap.size w5 W) => with_any AS sn cs SV x.sv W HSN.out hcs1 hcs2 hsl (HL5.out.below h))
            rw [HV.out] at HWT
            clear hb5 LT LX hbd4 hM
            go_wp2
            refine wp_late (by kernel_rfl) 54 [(44, [3]), (45, [44]), (46, [0]), (47, [4]), (48, [46, 47]), (49, [48]), (50, [49]), (51, [45, 50]), (52, [3]), (1009, [52, 51])]
              [Fact.is (.pointer (some ⟨g, 4, none⟩)), Fact.is (.slice AS sn cs), Fact.is (.slice (some ad) n cap), Fact.is (.int .i64 (k : Int)), Fact.is (.pointer (some (Addr.add ad (k * 7)))), Fact.is (.pointer (some ⟨((Addr.add ad (k * 7))).block, ((Addr.add ad (k * 7))).off + 5, none⟩)), Fact.is (.string (str x.sv)), Fact.texts SV2, Fact.is (.pointer (some ⟨g, 4, none⟩)), default]
              [1, 1, 1, 1, 1, 1, 1, 1, 1, 2] [9] [] [44, 45, 46, 47, 48, 49, 50, 51, 52] (fun p vs w' => match p, vs with | 1, [] => ∃ AS2 cs2, Blk w' g #[.int .i64 zt, .int .i64 zs, .int .i64 M, .int .i64 (n : Int), .slice AS2 SV2.length cs2] 35 ∧ SV2.length ≤ cs2 ∧ cs2 ≤ maxLen ∧ Lies w' AS2 (strs SV2) ∧ Kept [g] w5 w' | _, _ => False)
              (by kernel_rfl) (by kernel_rfl) rfl rfl ⟨?s0, ?s1, ?s2, ?s3, ?s4, ?s5, ?s6, ?s7, ?s8, trivial⟩ ?late ?fin
            case s0 =>
              intro ρ W hb hc hf hr
              obtain ⟨r3, -⟩ := hr
              have e3 : ρ (.tmp 3) = .pointer (some ⟨g, 0, none⟩) := r3
              clear r3
              refine under_none rfl ?_
              exact soft_field e3 rfl (fun W => by go_simp)
            case s1 =>
              intro ρ W hb hc hf hr
              obtain ⟨r44, -⟩ := hr
              have e44 : ρ (.tmp 44) = .pointer (some ⟨g, 4, none⟩) := r44
              clear r44
              refine under_none rfl ?_
              exact soft_load e44 (LSV.out W (hbd5.trans (hb.mono (by simp)))) rfl
            case s2 =>
              intro ρ W hb hc hf hr
              obtain ⟨r0, -⟩ := hr
              have e0 : ρ (.tmp 0) = .slice (some ad) n cap := r0
              clear r0
              refine under_none rfl ?_
              exact ⟨e0, Below.refl _ _⟩
            case s3 =>
              intro ρ W hb hc hf hr
              obtain ⟨r4, -⟩ := hr
              have e4 : ρ (.tmp 4) = .int .i64 (k : Int) := r4
              clear r4
              refine under_none rfl ?_
              exact ⟨e4, Below.refl _ _⟩
            case s4 =>
              intro ρ W hb hc hf hr
              obtain ⟨r46, r47, -⟩ := hr
              have e46 : ρ (.tmp 46) = .slice (some ad) n cap := r46
              clear r46
              have e47 : ρ (.tmp 47) = .int .i64 (k : Int) := r47
              clear r47
              refine under_none rfl ?_
              exact soft_index7 e46 e47 (by omega) rfl
            case s5 =>
              intro ρ W hb hc hf hr
              obtain ⟨r48, -⟩ := hr
              have e48 : ρ (.tmp 48) = .pointer (some (Addr.add ad (k * 7))) := r48
              clear r48
              refine under_none rfl ?_
              exact soft_field e48 rfl (fun W => by go_simp)
            case s6 =>
              intro ρ W hb hc hf hr
              obtain ⟨r49, -⟩ := hr
              have e49 : ρ (.tmp 49) = .pointer (some ⟨((Addr.add ad (k * 7))).block, ((Addr.add ad (k * 7))).off + 5, none⟩) := r49
              clear r49
              refine under_none rfl ?_
              exact soft_load e49 (LXV.out W (hbd5.trans (hb.mono (by simp)))) rfl
            case s7 =>
              intro ρ W hb hc hf hr
              obtain ⟨r45, r50, -⟩ := hr
              have e45 : ρ (.tmp 45) = .slice AS sn cs := r45
              clear r45
              have e50 : ρ (.tmp 50) = .string (str x.sv) := r50
              clear r50
              refine under_none rfl ?_
              exact soft_call2 hf e45 e50 (HWT.out W (hbd5.trans (hb.mono (by simp)))) rfl (by kernel_rfl) gives_texts
            case s8 =>
              intro ρ W hb hc hf hr
              obtain ⟨r3, -⟩ := hr
              have e3 : ρ (.tmp 3) = .pointer (some ⟨g, 0, none⟩) := r3
              clear r3
              refine under_none rfl ?_
              exact soft_field e3 rfl (fun W => by go_simp)
            case late =>
              intro p j o hj ho a W hsz h0 h1 hfr hou
              match p, hj with
              | 0, hj =>
                obtain rfl : 9 = j := Option.some.inj hj
                obtain rfl := Option.some.inj ho
                clear hj ho
                obtain ⟨hb, hhard⟩ := h0 rfl
                have e52 : a.eval (.tmp 52) = .pointer (some ⟨g, 4, none⟩) := hhard 52 8 rfl rfl
                have r51 : (Fact.texts SV2).φ (a.tmps.getD 51 undef) W := hhard 51 7 rfl rfl
                clear h0 h1 hhard hfr hou
                obtain ⟨A1, c1', e51, q1, q2, q3⟩ := r51
                have bgW := (Kept.of (hbd5.trans (hb.mono (by simp))) []).blk HB5.out (by simp)
                have bset := bgW.set 4 (.slice A1 SV2.length c1')
                refine late_store rfl e52 e51 (store_texts bgW rfl) ⟨undef, rfl, ?_⟩
                have kf : Kept [g] W (W.setCell ⟨g, 4, none⟩ (.slice A1 SV2.length c1')) := (Kept.refl _ _).setCell (by simp) _
                exact ⟨A1, c1', by simpa using bset, q1, q2, lies_kept q3 bgW (no_text _ _ _ _ _ _ _) kf, ((Kept.of (hbd5.trans (hb.mono (by simp))) [g]).setCell (by simp) _)⟩
              | q + 1, hj => cases hj
            case fin =>
              intro a w6 ha hP
              obtain ⟨AS2, cs2, hb6, q1, q2, q3, hk6⟩ := hP
              simp only [List.foldl_cons, List.foldl_nil] at ha
              generalize a.tmps.getD 44 undef = v44 at ha
              generalize a.tmps.getD 45 undef = v45 at ha
              generalize a.tmps.getD 46 undef = v46 at ha
              generalize a.tmps.getD 47 undef = v47 at ha
              generalize a.tmps.getD 48 undef = v48 at ha
              generalize a.tmps.getD 49 undef = v49 at ha
              generalize a.tmps.getD 50 undef = v50 at ha
              generalize a.tmps.getD 51 undef = v51 at ha
              generalize a.tmps.getD 52 undef = v52 at ha
              simp only [Act.put, List.setIfInBounds_toArray, List.set_cons_succ, List.set_cons_zero] at ha
              subst ha
              have HB6 := Lib.hid hb6
              have HL6 := Lib.hid q3
              clear hb6 q3
              go_wp2
              go_roundw
              case rel => exact ⟨k + 1, cs2, AS2, by go_num, by omega, by rw [HSV2.out]; exact q1, q2, by rw [HSV2.out, HT2.out, HT.out]; exact HB6.out, ((hkk.trans hk4).trans hk5).trans hk6, by rw [HSV2.out]; exact HL6.out⟩
              case measure => simp [intOf]; omega
      · obtain rfl : k = n := by omega
        have htk : l.take k = l := List.take_of_length_le (by rw [HN.out]; omega)
        rw [htk] at HBK HLK hcs1
        clear htk
        have HBR := Lib.hid (hkk.blk HB3.out (by simpa using fun e => hgR e.symm))
        obtain ⟨q0, q1, q2, q3, q4⟩ := HBK.out.five
        obtain ⟨y0, y1, y2, y3, y4⟩ := HBR.out.five
        have fz := HBR.out.frozen
        generalize Plain.top l = T at *
        generalize Plain.svs l = SV at *
        go_wp2
        obtain ⟨bf, kf⟩ := five wr w.heap.size _ _ _ _ _ (.int .i64 zt) (.int .i64 zs) (.int .i64 T) (.int .i64 (k : Int)) (.slice AS SV.length cs) _ HBR.out
        have HLF := Lib.hid (lies_kept HLK.out HBR.out no_text0 kf)
        generalize ((((wr.setCell ⟨w.heap.size, 0, none⟩ (.int .i64 zt)).setCell ⟨w.heap.size, 1, none⟩ (.int .i64 zs)).setCell ⟨w.heap.size, 2, none⟩ (.int .i64 T)).setCell ⟨w.heap.size, 3, none⟩ (.int .i64 (k : Int))).setCell ⟨w.heap.size, 4, none⟩ (.slice AS SV.length cs) = wf at *
        clear y0 y1 y2 y3 y4
        obtain ⟨y0, y1, y2, y3, y4⟩ := bf.five
        refine bodyPost_ret (v := .agg #[.int .i64 zt, .int .i64 zs, .int .i64 T, .int .i64 (k : Int), .slice AS SV.length cs]) (w := wf) (by simp [results, Tryz.results21, go_sem, y0, y1, y2, y3, y4]) rfl ?_
        rw [HBF.out]
        exact ⟨_, rfl, AS, cs, rfl, hcs1, hcs2, HLF.out, Kept.below hbr kf (by simp)⟩
end Go.Proofs.YtmmkmhphnhanfaaGreatDoor

