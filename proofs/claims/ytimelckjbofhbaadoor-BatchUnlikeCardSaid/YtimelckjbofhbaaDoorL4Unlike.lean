/-
  P4.2, BatchUnlike: for all spans the law returns true: unlike batches have unlike bytes; each more span makes them longer. No condition; what the row lists is tied to the program's text.
-/
import Derived.Test.YtimelckjbofhbaaDoorBatHd
namespace Go.Proofs.YtimelckjbofhbaaDoor.batchUnlike
open Go.ChangeShapes Go.WideShapes Go.ChangeAt Go.RowKit
set_option maxRecDepth 100000

theorem flat_one (l : List Plain.Sp) : ∀ u ∈ flat l, u.oneCell' = true := by
  intro u hu
  obtain ⟨x, _, hx⟩ := List.mem_flatMap.1 hu
  simp only [spanCells, List.mem_cons, List.not_mem_nil, or_false] at hx
  rcases hx with rfl | rfl | rfl | rfl | rfl | rfl | rfl <;> rfl
/-- append(v, l...) of spans onto memory of one's own, whatever slice l is -/
theorem app_spans (w : World) (base : Nat) (ty : TypeId) (i : TypeInfo) (hi : Tryd.prog.info? 39 = some i) (hz : i.zero = some (.agg #[.int .i64 0, .int .i64 0, .int .i64 0, .int .i64 0, .int .i64 0, .string ⟨#[]⟩, .string ⟨#[]⟩])) (hsize : i.size = 7) (hby : i.bytes = 72)
    (v : Value) (n : Nat) (xs : List Value) (hown : w.ownsRow base 39 7 v n xs) (A : Option Addr) (m c : Nat) (news : List Value) (hl : news.length = m * 7) (hA : Lies w A news) (h1 : ∀ u ∈ news, u.oneCell' = true)
    (hb : n + m ≤ 1000000) (hbase : base ≤ w.heap.size) :
    ∃ v' w', (Builtin.append_ #[22, 22] ty #[v, .slice A m c]).run Tryd.prog w = .ok v' w' ∧ w'.ownsRow base 39 7 v' (n + m) (xs ++ news) ∧ w.grownBy w' v.ownBlock := by
  rcases A with _ | ad
  · have hn : news = [] := by
      rcases hA with h | ⟨ad, h, _⟩
      · exact h
      · cases h
    subst hn
    obtain rfl : m = 0 := by simp at hl; omega
    refine ⟨v, w, ?_, by simpa using hown, World.grownBy.refl w _⟩
    rcases hown.2 with ⟨rfl, rfl⟩ | ⟨g, cap, cur, rfl, _, _, hnc, _⟩
    · simp [Builtin.append_, run_underlying Tryd.underlying22, sizeOf, typeInfo, hi, Builtin.lenOf, Builtin.firstCells]
    · simp [Builtin.append_, run_underlying Tryd.underlying22, sizeOf, typeInfo, hi, Builtin.lenOf, Builtin.firstCells, hnc, storeCells]
  · have hc : ∀ j u, news[j]? = some u → w.cell? (ad.add j) = some u := by
      rcases hA with h | ⟨ad', h, _, hc⟩
      · subst h; intro j u hu; simp at hu
      · injection h with h; subst h; exact hc
    obtain ⟨v', w', hr, h2, h3, _, _⟩ := run_append_own_at (P := Tryd.prog) w base 22 ty 39 i _ 7 72 Tryd.underlying22 hi hz hsize hby rfl (by omega) v n xs hown ad m c news hl hc h1 (by unfold maxLen; omega) (by omega) hbase
    exact ⟨v', w', hr, h2, h3⟩
theorem wpList_appS {w : World} {ops : Array Oper} {rest : List Oper} {o : Oper} {a : Act} {Q : Exit → Act → World → Prop} (hgd : o.guard = none) (s x : Operand)
    (ho : o.op = .call { callee := .builtin .append, args := #[s, x], argTypes := #[22, 22] })
    (base : Nat) (i : TypeInfo) (hi : Tryd.prog.info? 39 = some i) (hz : i.zero = some (.agg #[.int .i64 0, .int .i64 0, .int .i64 0, .int .i64 0, .int .i64 0, .string ⟨#[]⟩, .string ⟨#[]⟩])) (hsize : i.size = 7) (hby : i.bytes = 72)
    (v : Value) (n : Nat) (xs : List Value) (hs : a.eval s = v) (hown : w.ownsRow base 39 7 v n xs) (A : Option Addr) (m c : Nat) (news : List Value) (hx : a.eval x = .slice A m c) (hl : news.length = m * 7) (hA : Lies w A news) (h1 : ∀ u ∈ news, u.oneCell' = true)
    (hb : n + m ≤ 1000000) (hbase : base ≤ w.heap.size)
    (h : ∀ v' w', w'.ownsRow base 39 7 v' (n + m) (xs ++ news) → w.grownBy w' v.ownBlock → wpList Tryd.prog ops Q rest (a.put o.dst v') w') : wpList Tryd.prog ops Q (o :: rest) a w := by
  refine wpList_plain hgd fun K hK => ?_
  obtain ⟨v', w', hr, h2, h3⟩ := app_spans w base o.type i hi hz hsize hby v n xs hown A m c news hl hA h1 hb hbase
  unfold Oper.wp execOp
  simp only [ho, resolve, invoke, builtin, Sem.run_bind, Sem.run_pure, Result.andThen_ok, List.map_toArray, List.map_cons, List.map_nil, hs, hx, hr]
  exact hK _ _ (h v' w' h2 h3)

theorem lens (a b : List Plain.Sp) (ha : Plain.isB a = true) (hb : Plain.isB b = true) (hs : a.length + b.length ≤ 256) :
    (Plain.bput a).length ≤ (Plain.bput (a ++ b)).length ∧ (Plain.bput b).length ≤ (Plain.bput (a ++ b)).length ∧ (0 < b.length → (Plain.bput a).length < (Plain.bput (a ++ b)).length) := by
  have hab : Plain.isB (a ++ b) = true := by rw [Plain.isB_append a b ha hb]; simpa using hs
  rw [Plain.bput_len a ha, Plain.bput_len b hb, Plain.bput_len _ hab, Plain.wire_append, List.length_append, List.length_append]
  have hw : 0 < b.length → 8 ≤ (Plain.wire b).length := fun h => by
    match b, h with
    | x :: r, _ =>
      rw [Plain.wire_cons, List.length_append]
      have := x.bytes_len (((Plain.isB_iff _).1 hb).2 x (by simp))
      omega
  refine ⟨?_, ?_, fun h => ?_⟩
  · split <;> split <;> omega
  · split <;> split <;> omega
  · have := hw h
    split <;> split <;> omega

theorem conv_some {w : World} {A : Option Addr} {c n : Nat} {b : List UInt8} (h : Lies w A (cells b)) (hn : b.length = n) : (convert 23 9 (.slice A n c)).run Tryd.prog w = .ok (.string (str b)) w := by
  subst hn
  exact conv_str (P := Tryd.prog) (c := c) h 23 5 Tryd.underlying23 Tryd.underlying5 9 Tryd.underlying9

set_option maxHeartbeats 8000000 in
theorem walk (w : World) (hT : Handle w ∧ Tab w) (A : Option Addr) (ca : Nat) (a : List Plain.Sp) (hl : a.length ≤ ca) (hm : ca ≤ maxLen) (hA : Lies w A (flat a)) (hS : ∀ x ∈ a, x.sv.length ≤ maxLen ∧ x.nm.length ≤ maxLen) (B : Option Addr) (cb : Nat) (b : List Plain.Sp) (hlb : b.length ≤ cb) (hmb : cb ≤ maxLen) (hB : Lies w B (flat b)) (hSb : ∀ x ∈ b, x.sv.length ≤ maxLen ∧ x.nm.length ≤ maxLen) :
    Calls Tryd.prog 8 #[.slice A a.length ca, .slice B b.length cb] w fun e w' => e = .returned (.bool true) ∧ Below w.heap.size w w' := by
  obtain ⟨i0, hi, hz0, hz1, hz2⟩ := info_parts infoSp
  have HA := Lib.hid hA
  have HB := Lib.hid hB
  have HT := Lib.hid hT
  have HS := Lib.hid (show Fine a from hS)
  have HSb := Lib.hid (show Fine b from hSb)
  obtain ⟨na, hn⟩ : ∃ na, a.length = na := ⟨_, rfl⟩
  rw [hn] at hl ⊢
  have HN := Lib.hid hn
  have HM := Lib.hid hm
  obtain ⟨nb, hnb⟩ : ∃ nb, b.length = nb := ⟨_, rfl⟩
  rw [hnb] at hlb ⊢
  have HNB := Lib.hid hnb
  have HMB := Lib.hid hmb
  unfold maxLen at hm hmb
  clear hA hT hS hn hB hnb hSb
  go_enter Tryd.func8, Tryd.ntmps8
  go_wp2_with fail
  refine (head_any w HT.out).mono ?_
  rintro e w1 ⟨rfl, c1⟩
  go_wp2_with fail
  refine (great_any A na ca a w1 HN.out hl HM.out (HA.out.below c1)).mono ?_
  rintro e w2 ⟨g, rfl, hg, d2⟩
  have c2 := c1.trans (d2.mono c1.size)
  rcases g with _ | _
  rotate_left
  · go_wp2
    go_ret
    exact ⟨rfl, c2⟩
  have h300 := hg rfl
  clear hg
  go_wp2_with fail
  refine (great_any B nb cb b w2 HNB.out hlb HMB.out (HB.out.below c2)).mono ?_
  rintro e w3 ⟨g, rfl, hg, d3⟩
  have c3 := c2.trans (d3.mono c2.size)
  rcases g with _ | _
  rotate_left
  · go_wp2
    go_ret
    exact ⟨rfl, c3⟩
  have h300b := hg rfl
  clear hg
  have HPOS := Lib.hid (Plain.bput_pos a)
  have HPOSb := Lib.hid (Plain.bput_pos b)
  have HIN := Lib.hid (Plain.bput_inj a b)
  have HAP := Lib.hid (Plain.isB_append a b)
  have HLE := Lib.hid (lens a b)
  have HZ := Lib.hid (Plain.bput_no (a ++ b))
  have HPa := Lib.hid (batchPut_any A na ca a w3 (HT.out.2.below c3 (Nat.le_refl _)) HN.out (Nat.le_trans hl HM.out) (HA.out.below c3) HS.out)
  have HPb := Lib.hid (fun (u : World) (h : Below w.heap.size w u) => batchPut_any B nb cb b u (HT.out.2.below h (Nat.le_refl _)) HNB.out (Nat.le_trans hlb HMB.out) (HB.out.below h) HSb.out)
  have HPx := Lib.hid (fun (u : World) (h : Below w.heap.size w u) (X : Option Addr) (c : Nat) (hx : Lies u X (flat (a ++ b))) => batchPut_any X (na + nb) c (a ++ b) u (HT.out.2.below h (Nat.le_refl _)) (by rw [List.length_append, HN.out, HNB.out]) (by unfold maxLen; omega) hx (fun y hy => (List.mem_append.1 hy).elim (HS.out y) (HSb.out y)))
  rw [HN.out, HNB.out] at HAP HLE
  generalize Plain.bput a = P at *
  generalize Plain.bput b = Q at *
  generalize Plain.bput (a ++ b) = X at *
  go_wp2_with fail
  refine HPa.out.mono ?_
  rintro e w4 ⟨v4, rfl, ho4, d4⟩
  obtain ⟨A6, c6, rfl, hl6, hm6, -, hL6⟩ := own_form ho4
  have c4 := c3.trans (d4.mono c3.size)
  have HL6 := Lib.hid hL6
  clear ho4 hL6 HPa
  go_wp2_with fail
  refine (HPb.out w4 c4).mono ?_
  rintro e w5 ⟨v5, rfl, ho5, d5⟩
  obtain ⟨A7, c7, rfl, hl7, hm7, -, hL7⟩ := own_form ho5
  have c5 := c4.trans (d5.mono c4.size)
  have HL6' := Lib.hid (HL6.out.below d5)
  have HL7 := Lib.hid hL7
  clear ho5 hL7 HPb HL6
  obtain ⟨pl, hpl⟩ : ∃ pl, P.length = pl := ⟨_, rfl⟩
  obtain ⟨ql, hql⟩ : ∃ ql, Q.length = ql := ⟨_, rfl⟩
  obtain ⟨xl, hxl⟩ : ∃ xl, X.length = xl := ⟨_, rfl⟩
  rw [hpl] at hl6 HPOS HLE
  rw [hql] at hl7 HPOSb HLE
  rw [hxl] at HLE
  rw [hpl, hql]
  have HPL := Lib.hid hpl
  have HQL := Lib.hid hql
  have HXL := Lib.hid hxl
  clear hpl hql hxl
  by_cases hp0 : 0 < pl
  rotate_left
  · obtain rfl : pl = 0 := by omega
    go_wp2
    go_ret
    exact ⟨rfl, c5⟩
  have hpe : ((pl : Int) == 0) = false := beq_eq_false_iff_ne.2 (by omega)
  by_cases hq0 : 0 < ql
  rotate_left
  · obtain rfl : ql = 0 := by omega
    go_wp2
    go_ret
    exact ⟨rfl, c5⟩
  have hqe : ((ql : Int) == 0) = false := beq_eq_false_iff_ne.2 (by omega)
  have hIa := HPOS.out.1 hp0
  have hIb := HPOSb.out.1 hq0
  have hin := HIN.out hIa hIb
  have hap := HAP.out hIa hIb
  have HLE2 := Lib.hid (HLE.out hIa hIb)
  have HIN2 := Lib.hid hin
  have HAP2 := Lib.hid hap
  clear HPOS HPOSb HIN HAP HLE hin hap hIa hIb
  go_wp2_with (at_builtin; refine wpList_appS rfl _ _ rfl w5.heap.size i0 hi hz0 hz1 hz2 (.slice (some ⟨w5.heap.size, 0, none⟩) 0 0) 0 [] rfl ?a1 A na ca (flat a) rfl ?a2 ?a3 (flat_one a) (by omega) ?a5 ?a6)
  case a1 =>
    have := World.ownsRow_lit (base := w5.heap.size) (e := 39) (size := 7) w5 #[] 0 (Nat.le_refl _) (by unfold maxLen; omega) rfl
    simpa using this
  case a2 => rw [flat_length, HN.out]
  case a3 => exact (HA.out.below c5).keep (by simp) fun p hp => World.cell?_alloc_lt _ _ p hp
  case a5 => simp
  case a6 =>
    intro v6 w6 ho6 hg6
    have b6 : Below w5.heap.size w5 w6 := ((Below.refl _ _).alloc (Nat.le_refl _) _).grown hg6 (by simp) (fun g hg => by simp [Value.ownBlock] at hg; omega)
    have c6w := c5.trans (b6.mono c5.size)
    have HO6 := Lib.hid ho6
    clear ho6 hg6
    go_wp2_with (at_builtin; refine wpList_appS rfl _ _ rfl w5.heap.size i0 hi hz0 hz1 hz2 v6 na (flat a) rfl ?b1 B nb cb (flat b) rfl ?b2 ?b3 (flat_one b) (by omega) ?b5 ?b6)
    case b1 => exact HO6.out
    case b2 => rw [flat_length, HNB.out]
    case b3 => exact HB.out.below c6w
    case b5 => exact b6.size
    case b6 =>
      intro v7 w7 ho7 hg7
      have b7 : Below w5.heap.size w5 w7 := b6.grown hg7 b6.size (fun g hg => (HO6.out.lt g hg).1)
      have c7w := c5.trans (b7.mono c5.size)
      rw [← flat_append] at ho7
      have hgv : GivesS w5 w7 (a ++ b) v7 := GivesS.own (B := w5.heap.size) (by rw [List.length_append, HN.out, HNB.out]; exact ho7) b7
      obtain ⟨Ax, cx, rfl, hlx, hmx, hLx, -⟩ := hgv
      rw [List.length_append, HN.out, HNB.out] at hlx ⊢
      have HPX := Lib.hid (HPx.out w7 c7w Ax cx hLx)
      clear ho7 hg7 hLx HO6 HPx
      go_wp2_with fail
      refine HPX.out.mono ?_
      rintro e w8 ⟨v8, rfl, ho8, d8⟩
      obtain ⟨A8, c8, rfl, hl8, hm8, -, -⟩ := own_form ho8
      rw [HXL.out] at hl8 ⊢
      have c8w := c7w.trans (d8.mono c7w.size)
      have b8 := b7.trans (d8.mono b7.size)
      have CVP := Lib.hid (fun (W : World) (h : Below w8.heap.size w8 W) => conv_some (c := c6) ((HL6'.out.below b8).below h) HPL.out)
      have CVQ := Lib.hid (fun (W : World) (h : Below w8.heap.size w8 W) => conv_some (c := c7) ((HL7.out.below b8).below h) HQL.out)
      have HSM := Lib.hid (fun (W : World) (h : Below w8.heap.size w8 W) => same_any A B na nb ca cb a b W HN.out HNB.out hl hlb HM.out HMB.out ((HA.out.below c8w).below h) ((HB.out.below c8w).below h))
      have EQT := Lib.hid (fun (W : World) => eq_texts W P Q)
      obtain ⟨E, hE⟩ : ∃ E, decide (a = b) = E := ⟨_, rfl⟩
      have hE2 : decide (P = Q) = E := by rw [← hE]; congr 1; exact propext HIN2.out
      rw [hE] at HSM
      rw [hE2] at EQT
      have EQB := Lib.hid (fun (W : World) => show (binOp .eql 4 (.bool E) (.bool E)).run Tryd.prog W = .ok (.bool true) W by cases E <;> go_simp)
      have ADD := Lib.hid (fun (W : World) => show (binOp .add 3 (.int .i64 (na : Int)) (.int .i64 (nb : Int))).run Tryd.prog W = .ok (.int .i64 ((na : Int) + (nb : Int))) W by go_simp; rw [IntKind.wrap_i64]; omega)
      have hbd : Below w8.heap.size w8 w8.drew := (Below.refl _ _).drew
      clear hE hE2 HIN2 ho8 HPX
      by_cases h256 : 256 < na + nb
      · have hx0 : xl = 0 := by
          have hz := HZ.out (by rw [HAP2.out]; simp; omega)
          rw [← HXL.out, hz]; rfl
        subst hx0
        have GT := Lib.hid (fun (W : World) => show (binOp .gtr 3 (.int .i64 ((na : Int) + (nb : Int))) (.int .i64 256)).run Tryd.prog W = .ok (.bool true) W by go_simp; omega)
        go_wp2
        refine wp_soft (by kernel_rfl) 87 [(36, [5]), (37, [36]), (38, [6, 37]), (39, [38, 37]), (40, [7, 37]), (41, [40, 37]), (42, [39, 41, 37]), (43, [0, 37]), (44, [1, 37]), (45, [43, 44, 37]), (46, [42, 45, 37]), (47, [37, 46]), (48, [47]), (49, [0, 48]), (50, [49, 48]), (51, [1, 48]), (52, [51, 48]), (53, [50, 52, 48]), (54, [53, 48]), (55, [54, 48]), (56, [8, 55]), (57, [56, 55]), (58, [57, 55]), (59, [55, 58, 48]), (60, [59, 48]), (61, [8, 60]), (62, [61, 60]), (63, [6, 60]), (64, [63, 60]), (65, [62, 64, 60]), (66, [65, 60]), (67, [8, 66]), (68, [67, 66]), (69, [7, 66]), (70, [69, 66]), (71, [68, 70, 66]), (72, [66, 71, 60]), (73, [72, 60]), (74, [1, 73]), (75, [74, 73]), (76, [75, 73]), (77, [76, 73]), (78, [8, 77]), (79, [78, 77]), (80, [6, 77]), (81, [80, 77]), (82, [79, 81, 77]), (83, [77, 82, 73]), (84, [73, 83, 60]), (85, [60, 84, 48]), (86, [48, 85]), (4, [86])]
          [Fact.is (.bool true), Fact.is (.bool true), Fact.is (.slice A6 pl c6), Fact.is (.string (str P)), Fact.is (.slice A7 ql c7), Fact.is (.string (str Q)), Fact.is (.bool E), Fact.is (.slice A na ca), Fact.is (.slice B nb cb), Fact.is (.bool E), Fact.is (.bool true), Fact.is (.bool true), Fact.is (.bool true), Fact.is (.slice A na ca), Fact.is (.int .i64 na), Fact.is (.slice B nb cb), Fact.is (.int .i64 nb), Fact.is (.int .i64 (na + nb : Int)), Fact.is (.bool true), Fact.is (.bool true), Fact.is (.slice A8 0 c8), Fact.is (.int .i64 0), Fact.is (.bool true), Fact.is (.bool true), Fact.is (.bool true), Fact.is (undef), Fact.is (undef), Fact.is (undef), Fact.is (undef), Fact.is (undef), Fact.is (undef), Fact.is (undef), Fact.is (undef), Fact.is (undef), Fact.is (undef), Fact.is (undef), Fact.is (undef), Fact.is (undef), Fact.is (undef), Fact.is (undef), Fact.is (undef), Fact.is (undef), Fact.is (undef), Fact.is (undef), Fact.is (undef), Fact.is (undef), Fact.is (undef), Fact.is (undef), Fact.is (undef), Fact.is (.bool true), Fact.is (.bool true), Fact.is (.bool true)]
          (by kernel_rfl) rfl rfl ⟨?s0, ?s1, ?s2, ?s3, ?s4, ?s5, ?s6, ?s7, ?s8, ?s9, ?s10, ?s11, ?s12, ?s13, ?s14, ?s15, ?s16, ?s17, ?s18, ?s19, ?s20, ?s21, ?s22, ?s23, ?s24, ?s25, ?s26, ?s27, ?s28, ?s29, ?s30, ?s31, ?s32, ?s33, ?s34, ?s35, ?s36, ?s37, ?s38, ?s39, ?s40, ?s41, ?s42, ?s43, ?s44, ?s45, ?s46, ?s47, ?s48, ?s49, ?s50, ?s51, trivial⟩ ?fin
        case s0 =>
          intro ρ W hb hc hf hr
          obtain ⟨r5, -⟩ := hr
          have e5 : ρ (.tmp 5) = .bool true := r5
          clear r5
          refine under_none rfl ?_
          exact ⟨e5, Below.refl _ _⟩
        case s1 =>
          intro ρ W hb hc hf hr
          obtain ⟨r36, -⟩ := hr
          have e36 : ρ (.tmp 36) = .bool true := r36
          clear r36
          refine under_none rfl ?_
          exact ⟨e36, Below.refl _ _⟩
        case s2 =>
          intro ρ W hb hc hf hr
          obtain ⟨r6, r37, -⟩ := hr
          have e6 : ρ (.tmp 6) = .slice A6 pl c6 := r6
          clear r6
          have e37 : ρ (.tmp 37) = .bool true := r37
          clear r37
          refine ⟨37, rfl, .inl ⟨e37, ?_⟩⟩
          exact ⟨e6, Below.refl _ _⟩
        case s3 =>
          intro ρ W hb hc hf hr
          obtain ⟨r38, r37, -⟩ := hr
          have e38 : ρ (.tmp 38) = .slice A6 pl c6 := r38
          clear r38
          have e37 : ρ (.tmp 37) = .bool true := r37
          clear r37
          refine ⟨37, rfl, .inl ⟨e37, ?_⟩⟩
          exact soft_conv e38 (CVP.out W (hbd.trans (hb.mono (by simp)))) rfl
        case s4 =>
          intro ρ W hb hc hf hr
          obtain ⟨r7, r37, -⟩ := hr
          have e7 : ρ (.tmp 7) = .slice A7 ql c7 := r7
          clear r7
          have e37 : ρ (.tmp 37) = .bool true := r37
          clear r37
          refine ⟨37, rfl, .inl ⟨e37, ?_⟩⟩
          exact ⟨e7, Below.refl _ _⟩
        case s5 =>
          intro ρ W hb hc hf hr
          obtain ⟨r40, r37, -⟩ := hr
          have e40 : ρ (.tmp 40) = .slice A7 ql c7 := r40
          clear r40
          have e37 : ρ (.tmp 37) = .bool true := r37
          clear r37
          refine ⟨37, rfl, .inl ⟨e37, ?_⟩⟩
          exact soft_conv e40 (CVQ.out W (hbd.trans (hb.mono (by simp)))) rfl
        case s6 =>
          intro ρ W hb hc hf hr
          obtain ⟨r39, r41, r37, -⟩ := hr
          have e39 : ρ (.tmp 39) = .string (str P) := r39
          clear r39
          have e41 : ρ (.tmp 41) = .string (str Q) := r41
          clear r41
          have e37 : ρ (.tmp 37) = .bool true := r37
          clear r37
          refine ⟨37, rfl, .inl ⟨e37, ?_⟩⟩
          exact soft_bin e39 e41 rfl rfl (EQT.out W)
        case s7 =>
          intro ρ W hb hc hf hr
          obtain ⟨r0, r37, -⟩ := hr
          have e0 : ρ (.tmp 0) = .slice A na ca := r0
          clear r0
          have e37 : ρ (.tmp 37) = .bool true := r37
          clear r37
          refine ⟨37, rfl, .inl ⟨e37, ?_⟩⟩
          exact ⟨e0, Below.refl _ _⟩
        case s8 =>
          intro ρ W hb hc hf hr
          obtain ⟨r1, r37, -⟩ := hr
          have e1 : ρ (.tmp 1) = .slice B nb cb := r1
          clear r1
          have e37 : ρ (.tmp 37) = .bool true := r37
          clear r37
          refine ⟨37, rfl, .inl ⟨e37, ?_⟩⟩
          exact ⟨e1, Below.refl _ _⟩
        case s9 =>
          intro ρ W hb hc hf hr
          obtain ⟨r43, r44, r37, -⟩ := hr
          have e43 : ρ (.tmp 43) = .slice A na ca := r43
          clear r43
          have e44 : ρ (.tmp 44) = .slice B nb cb := r44
          clear r44
          have e37 : ρ (.tmp 37) = .bool true := r37
          clear r37
          refine ⟨37, rfl, .inl ⟨e37, ?_⟩⟩
          exact soft_call2 hf e43 e44 (HSM.out W (hbd.trans (hb.mono (by simp)))) rfl (by kernel_rfl) below_is
        case s10 =>
          intro ρ W hb hc hf hr
          obtain ⟨r42, r45, r37, -⟩ := hr
          have e42 : ρ (.tmp 42) = .bool E := r42
          clear r42
          have e45 : ρ (.tmp 45) = .bool E := r45
          clear r45
          have e37 : ρ (.tmp 37) = .bool true := r37
          clear r37
          refine ⟨37, rfl, .inl ⟨e37, ?_⟩⟩
          exact soft_bin e42 e45 rfl rfl (EQB.out W)
        case s11 =>
          intro ρ W hb hc hf hr
          obtain ⟨r37, r46, -⟩ := hr
          have e37 : ρ (.tmp 37) = .bool true := r37
          clear r37
          have e46 : ρ (.tmp 46) = .bool true := r46
          clear r46
          refine under_none rfl ?_
          simp [execOp, e37, e46, hc, go_sem, softUpon, Fact.is, Below.refl]
        case s12 =>
          intro ρ W hb hc hf hr
          obtain ⟨r47, -⟩ := hr
          have e47 : ρ (.tmp 47) = .bool true := r47
          clear r47
          refine under_none rfl ?_
          exact ⟨e47, Below.refl _ _⟩
        case s13 =>
          intro ρ W hb hc hf hr
          obtain ⟨r0, r48, -⟩ := hr
          have e0 : ρ (.tmp 0) = .slice A na ca := r0
          clear r0
          have e48 : ρ (.tmp 48) = .bool true := r48
          clear r48
          refine ⟨48, rfl, .inl ⟨e48, ?_⟩⟩
          exact ⟨e0, Below.refl _ _⟩
        case s14 =>
          intro ρ W hb hc hf hr
          obtain ⟨r49, r48, -⟩ := hr
          have e49 : ρ (.tmp 49) = .slice A na ca := r49
          clear r49
          have e48 : ρ (.tmp 48) = .bool true := r48
          clear r48
          refine ⟨48, rfl, .inl ⟨e48, ?_⟩⟩
          simp [e49, go_sem, softUpon, Fact.is, Below.refl]
        case s15 =>
          intro ρ W hb hc hf hr
          obtain ⟨r1, r48, -⟩ := hr
          have e1 : ρ (.tmp 1) = .slice B nb cb := r1
          clear r1
          have e48 : ρ (.tmp 48) = .bool true := r48
          clear r48
          refine ⟨48, rfl, .inl ⟨e48, ?_⟩⟩
          exact ⟨e1, Below.refl _ _⟩
        case s16 =>
          intro ρ W hb hc hf hr
          obtain ⟨r51, r48, -⟩ := hr
          have e51 : ρ (.tmp 51) = .slice B nb cb := r51
          clear r51
          have e48 : ρ (.tmp 48) = .bool true := r48
          clear r48
          refine ⟨48, rfl, .inl ⟨e48, ?_⟩⟩
          simp [e51, go_sem, softUpon, Fact.is, Below.refl]
        case s17 =>
          intro ρ W hb hc hf hr
          obtain ⟨r50, r52, r48, -⟩ := hr
          have e50 : ρ (.tmp 50) = .int .i64 na := r50
          clear r50
          have e52 : ρ (.tmp 52) = .int .i64 nb := r52
          clear r52
          have e48 : ρ (.tmp 48) = .bool true := r48
          clear r48
          refine ⟨48, rfl, .inl ⟨e48, ?_⟩⟩
          exact soft_bin e50 e52 rfl rfl (ADD.out W)
        case s18 =>
          intro ρ W hb hc hf hr
          obtain ⟨r53, r48, -⟩ := hr
          have e53 : ρ (.tmp 53) = .int .i64 (na + nb : Int) := r53
          clear r53
          have e48 : ρ (.tmp 48) = .bool true := r48
          clear r48
          refine ⟨48, rfl, .inl ⟨e48, ?_⟩⟩
          exact soft_bin e53 (hc _) rfl rfl (GT.out W)
        case s19 =>
          intro ρ W hb hc hf hr
          obtain ⟨r54, r48, -⟩ := hr
          have e54 : ρ (.tmp 54) = .bool true := r54
          clear r54
          have e48 : ρ (.tmp 48) = .bool true := r48
          clear r48
          refine ⟨48, rfl, .inl ⟨e48, ?_⟩⟩
          exact ⟨e54, Below.refl _ _⟩
        case s20 =>
          intro ρ W hb hc hf hr
          obtain ⟨r8, r55, -⟩ := hr
          have e8 : ρ (.tmp 8) = .slice A8 0 c8 := r8
          clear r8
          have e55 : ρ (.tmp 55) = .bool true := r55
          clear r55
          refine ⟨55, rfl, .inl ⟨e55, ?_⟩⟩
          exact ⟨e8, Below.refl _ _⟩
        case s21 =>
          intro ρ W hb hc hf hr
          obtain ⟨r56, r55, -⟩ := hr
          have e56 : ρ (.tmp 56) = .slice A8 0 c8 := r56
          clear r56
          have e55 : ρ (.tmp 55) = .bool true := r55
          clear r55
          refine ⟨55, rfl, .inl ⟨e55, ?_⟩⟩
          simp [e56, go_sem, softUpon, Fact.is, Below.refl]
        case s22 =>
          intro ρ W hb hc hf hr
          obtain ⟨r57, r55, -⟩ := hr
          have e57 : ρ (.tmp 57) = .int .i64 0 := r57
          clear r57
          have e55 : ρ (.tmp 55) = .bool true := r55
          clear r55
          refine ⟨55, rfl, .inl ⟨e55, ?_⟩⟩
          simp [execOp, e57, hc, go_sem, softUpon, Fact.is, Below.refl]
        case s23 =>
          intro ρ W hb hc hf hr
          obtain ⟨r55, r58, r48, -⟩ := hr
          have e55 : ρ (.tmp 55) = .bool true := r55
          clear r55
          have e58 : ρ (.tmp 58) = .bool true := r58
          clear r58
          have e48 : ρ (.tmp 48) = .bool true := r48
          clear r48
          refine ⟨48, rfl, .inl ⟨e48, ?_⟩⟩
          simp [execOp, e55, e58, hc, go_sem, softUpon, Fact.is, Below.refl]
        case s24 =>
          intro ρ W hb hc hf hr
          obtain ⟨r59, r48, -⟩ := hr
          have e59 : ρ (.tmp 59) = .bool true := r59
          clear r59
          have e48 : ρ (.tmp 48) = .bool true := r48
          clear r48
          refine ⟨48, rfl, .inl ⟨e48, ?_⟩⟩
          exact ⟨e59, Below.refl _ _⟩
        case s25 =>
          intro ρ W hb hc hf hr
          obtain ⟨r8, r60, -⟩ := hr
          have e8 : ρ (.tmp 8) = .slice A8 0 c8 := r8
          clear r8
          have e60 : ρ (.tmp 60) = .bool true := r60
          clear r60
          exact ⟨60, rfl, .inr (.inl ⟨e60, rfl⟩)⟩
        case s26 =>
          intro ρ W hb hc hf hr
          obtain ⟨r61, r60, -⟩ := hr
          have e61 : ρ (.tmp 61) = undef := r61
          clear r61
          have e60 : ρ (.tmp 60) = .bool true := r60
          clear r60
          exact ⟨60, rfl, .inr (.inl ⟨e60, rfl⟩)⟩
        case s27 =>
          intro ρ W hb hc hf hr
          obtain ⟨r6, r60, -⟩ := hr
          have e6 : ρ (.tmp 6) = .slice A6 pl c6 := r6
          clear r6
          have e60 : ρ (.tmp 60) = .bool true := r60
          clear r60
          exact ⟨60, rfl, .inr (.inl ⟨e60, rfl⟩)⟩
        case s28 =>
          intro ρ W hb hc hf hr
          obtain ⟨r63, r60, -⟩ := hr
          have e63 : ρ (.tmp 63) = undef := r63
          clear r63
          have e60 : ρ (.tmp 60) = .bool true := r60
          clear r60
          exact ⟨60, rfl, .inr (.inl ⟨e60, rfl⟩)⟩
        case s29 =>
          intro ρ W hb hc hf hr
          obtain ⟨r62, r64, r60, -⟩ := hr
          have e62 : ρ (.tmp 62) = undef := r62
          clear r62
          have e64 : ρ (.tmp 64) = undef := r64
          clear r64
          have e60 : ρ (.tmp 60) = .bool true := r60
          clear r60
          exact ⟨60, rfl, .inr (.inl ⟨e60, rfl⟩)⟩
        case s30 =>
          intro ρ W hb hc hf hr
          obtain ⟨r65, r60, -⟩ := hr
          have e65 : ρ (.tmp 65) = undef := r65
          clear r65
          have e60 : ρ (.tmp 60) = .bool true := r60
          clear r60
          exact ⟨60, rfl, .inr (.inl ⟨e60, rfl⟩)⟩
        case s31 =>
          intro ρ W hb hc hf hr
          obtain ⟨r8, r66, -⟩ := hr
          have e8 : ρ (.tmp 8) = .slice A8 0 c8 := r8
          clear r8
          have e66 : ρ (.tmp 66) = undef := r66
          clear r66
          exact ⟨66, rfl, .inr (.inr ⟨e66, rfl⟩)⟩
        case s32 =>
          intro ρ W hb hc hf hr
          obtain ⟨r67, r66, -⟩ := hr
          have e67 : ρ (.tmp 67) = undef := r67
          clear r67
          have e66 : ρ (.tmp 66) = undef := r66
          clear r66
          exact ⟨66, rfl, .inr (.inr ⟨e66, rfl⟩)⟩
        case s33 =>
          intro ρ W hb hc hf hr
          obtain ⟨r7, r66, -⟩ := hr
          have e7 : ρ (.tmp 7) = .slice A7 ql c7 := r7
          clear r7
          have e66 : ρ (.tmp 66) = undef := r66
          clear r66
          exact ⟨66, rfl, .inr (.inr ⟨e66, rfl⟩)⟩
        case s34 =>
          intro ρ W hb hc hf hr
          obtain ⟨r69, r66, -⟩ := hr
          have e69 : ρ (.tmp 69) = undef := r69
          clear r69
          have e66 : ρ (.tmp 66) = undef := r66
          clear r66
          exact ⟨66, rfl, .inr (.inr ⟨e66, rfl⟩)⟩
        case s35 =>
          intro ρ W hb hc hf hr
          obtain ⟨r68, r70, r66, -⟩ := hr
          have e68 : ρ (.tmp 68) = undef := r68
          clear r68
          have e70 : ρ (.tmp 70) = undef := r70
          clear r70
          have e66 : ρ (.tmp 66) = undef := r66
          clear r66
          exact ⟨66, rfl, .inr (.inr ⟨e66, rfl⟩)⟩
        case s36 =>
          intro ρ W hb hc hf hr
          obtain ⟨r66, r71, r60, -⟩ := hr
          have e66 : ρ (.tmp 66) = undef := r66
          clear r66
          have e71 : ρ (.tmp 71) = undef := r71
          clear r71
          have e60 : ρ (.tmp 60) = .bool true := r60
          clear r60
          exact ⟨60, rfl, .inr (.inl ⟨e60, rfl⟩)⟩
        case s37 =>
          intro ρ W hb hc hf hr
          obtain ⟨r72, r60, -⟩ := hr
          have e72 : ρ (.tmp 72) = undef := r72
          clear r72
          have e60 : ρ (.tmp 60) = .bool true := r60
          clear r60
          exact ⟨60, rfl, .inr (.inl ⟨e60, rfl⟩)⟩
        case s38 =>
          intro ρ W hb hc hf hr
          obtain ⟨r1, r73, -⟩ := hr
          have e1 : ρ (.tmp 1) = .slice B nb cb := r1
          clear r1
          have e73 : ρ (.tmp 73) = undef := r73
          clear r73
          exact ⟨73, rfl, .inr (.inr ⟨e73, rfl⟩)⟩
        case s39 =>
          intro ρ W hb hc hf hr
          obtain ⟨r74, r73, -⟩ := hr
          have e74 : ρ (.tmp 74) = undef := r74
          clear r74
          have e73 : ρ (.tmp 73) = undef := r73
          clear r73
          exact ⟨73, rfl, .inr (.inr ⟨e73, rfl⟩)⟩
        case s40 =>
          intro ρ W hb hc hf hr
          obtain ⟨r75, r73, -⟩ := hr
          have e75 : ρ (.tmp 75) = undef := r75
          clear r75
          have e73 : ρ (.tmp 73) = undef := r73
          clear r73
          exact ⟨73, rfl, .inr (.inr ⟨e73, rfl⟩)⟩
        case s41 =>
          intro ρ W hb hc hf hr
          obtain ⟨r76, r73, -⟩ := hr
          have e76 : ρ (.tmp 76) = undef := r76
          clear r76
          have e73 : ρ (.tmp 73) = undef := r73
          clear r73
          exact ⟨73, rfl, .inr (.inr ⟨e73, rfl⟩)⟩
        case s42 =>
          intro ρ W hb hc hf hr
          obtain ⟨r8, r77, -⟩ := hr
          have e8 : ρ (.tmp 8) = .slice A8 0 c8 := r8
          clear r8
          have e77 : ρ (.tmp 77) = undef := r77
          clear r77
          exact ⟨77, rfl, .inr (.inr ⟨e77, rfl⟩)⟩
        case s43 =>
          intro ρ W hb hc hf hr
          obtain ⟨r78, r77, -⟩ := hr
          have e78 : ρ (.tmp 78) = undef := r78
          clear r78
          have e77 : ρ (.tmp 77) = undef := r77
          clear r77
          exact ⟨77, rfl, .inr (.inr ⟨e77, rfl⟩)⟩
        case s44 =>
          intro ρ W hb hc hf hr
          obtain ⟨r6, r77, -⟩ := hr
          have e6 : ρ (.tmp 6) = .slice A6 pl c6 := r6
          clear r6
          have e77 : ρ (.tmp 77) = undef := r77
          clear r77
          exact ⟨77, rfl, .inr (.inr ⟨e77, rfl⟩)⟩
        case s45 =>
          intro ρ W hb hc hf hr
          obtain ⟨r80, r77, -⟩ := hr
          have e80 : ρ (.tmp 80) = undef := r80
          clear r80
          have e77 : ρ (.tmp 77) = undef := r77
          clear r77
          exact ⟨77, rfl, .inr (.inr ⟨e77, rfl⟩)⟩
        case s46 =>
          intro ρ W hb hc hf hr
          obtain ⟨r79, r81, r77, -⟩ := hr
          have e79 : ρ (.tmp 79) = undef := r79
          clear r79
          have e81 : ρ (.tmp 81) = undef := r81
          clear r81
          have e77 : ρ (.tmp 77) = undef := r77
          clear r77
          exact ⟨77, rfl, .inr (.inr ⟨e77, rfl⟩)⟩
        case s47 =>
          intro ρ W hb hc hf hr
          obtain ⟨r77, r82, r73, -⟩ := hr
          have e77 : ρ (.tmp 77) = undef := r77
          clear r77
          have e82 : ρ (.tmp 82) = undef := r82
          clear r82
          have e73 : ρ (.tmp 73) = undef := r73
          clear r73
          exact ⟨73, rfl, .inr (.inr ⟨e73, rfl⟩)⟩
        case s48 =>
          intro ρ W hb hc hf hr
          obtain ⟨r73, r83, r60, -⟩ := hr
          have e73 : ρ (.tmp 73) = undef := r73
          clear r73
          have e83 : ρ (.tmp 83) = undef := r83
          clear r83
          have e60 : ρ (.tmp 60) = .bool true := r60
          clear r60
          exact ⟨60, rfl, .inr (.inl ⟨e60, rfl⟩)⟩
        case s49 =>
          intro ρ W hb hc hf hr
          obtain ⟨r60, r84, r48, -⟩ := hr
          have e60 : ρ (.tmp 60) = .bool true := r60
          clear r60
          have e84 : ρ (.tmp 84) = undef := r84
          clear r84
          have e48 : ρ (.tmp 48) = .bool true := r48
          clear r48
          refine ⟨48, rfl, .inl ⟨e48, ?_⟩⟩
          simp [execOp, e60, hc, go_sem, softUpon, Fact.is, Below.refl]
        case s50 =>
          intro ρ W hb hc hf hr
          obtain ⟨r48, r85, -⟩ := hr
          have e48 : ρ (.tmp 48) = .bool true := r48
          clear r48
          have e85 : ρ (.tmp 85) = .bool true := r85
          clear r85
          refine under_none rfl ?_
          simp [execOp, e48, e85, hc, go_sem, softUpon, Fact.is, Below.refl]
        case s51 =>
          intro ρ W hb hc hf hr
          obtain ⟨r86, -⟩ := hr
          have e86 : ρ (.tmp 86) = .bool true := r86
          clear r86
          refine under_none rfl ?_
          exact ⟨e86, Below.refl _ _⟩
        case fin =>
          intro a u4 hb hd hk
          have h4 : a.tmps.getD 4 undef = .bool true := hk 4
          clear hk
          go_wp2
          refine bodyPost_ret (results_tmp rfl _ _ _) hd ?_
          exact ⟨by rw [h4], c8w.trans ((hbd.trans (hb.mono (by simp))).mono c8w.size)⟩
      · obtain ⟨hx1, hx2, hx3⟩ := HLE2.out (by omega)
        have GT := Lib.hid (fun (W : World) => show (binOp .gtr 3 (.int .i64 ((na : Int) + (nb : Int))) (.int .i64 256)).run Tryd.prog W = .ok (.bool false) W by go_simp; omega)
        have GE1 := Lib.hid (fun (W : World) => show (binOp .geq 3 (.int .i64 (xl : Int)) (.int .i64 (pl : Int))).run Tryd.prog W = .ok (.bool true) W by go_simp)
        have GE2 := Lib.hid (fun (W : World) => show (binOp .geq 3 (.int .i64 (xl : Int)) (.int .i64 (ql : Int))).run Tryd.prog W = .ok (.bool true) W by go_simp)
        by_cases hb0 : nb = 0
        · have EQZ := Lib.hid (fun (W : World) => show (binOp .eql 3 (.int .i64 (nb : Int)) (.int .i64 0)).run Tryd.prog W = .ok (.bool true) W by rw [hb0]; go_simp)
          clear hb0
          go_wp2
          refine wp_soft (by kernel_rfl) 87 [(36, [5]), (37, [36]), (38, [6, 37]), (39, [38, 37]), (40, [7, 37]), (41, [40, 37]), (42, [39, 41, 37]), (43, [0, 37]), (44, [1, 37]), (45, [43, 44, 37]), (46, [42, 45, 37]), (47, [37, 46]), (48, [47]), (49, [0, 48]), (50, [49, 48]), (51, [1, 48]), (52, [51, 48]), (53, [50, 52, 48]), (54, [53, 48]), (55, [54, 48]), (56, [8, 55]), (57, [56, 55]), (58, [57, 55]), (59, [55, 58, 48]), (60, [59, 48]), (61, [8, 60]), (62, [61, 60]), (63, [6, 60]), (64, [63, 60]), (65, [62, 64, 60]), (66, [65, 60]), (67, [8, 66]), (68, [67, 66]), (69, [7, 66]), (70, [69, 66]), (71, [68, 70, 66]), (72, [66, 71, 60]), (73, [72, 60]), (74, [1, 73]), (75, [74, 73]), (76, [75, 73]), (77, [76, 73]), (78, [8, 77]), (79, [78, 77]), (80, [6, 77]), (81, [80, 77]), (82, [79, 81, 77]), (83, [77, 82, 73]), (84, [73, 83, 60]), (85, [60, 84, 48]), (86, [48, 85]), (4, [86])]
            [Fact.is (.bool true), Fact.is (.bool true), Fact.is (.slice A6 pl c6), Fact.is (.string (str P)), Fact.is (.slice A7 ql c7), Fact.is (.string (str Q)), Fact.is (.bool E), Fact.is (.slice A na ca), Fact.is (.slice B nb cb), Fact.is (.bool E), Fact.is (.bool true), Fact.is (.bool true), Fact.is (.bool true), Fact.is (.slice A na ca), Fact.is (.int .i64 na), Fact.is (.slice B nb cb), Fact.is (.int .i64 nb), Fact.is (.int .i64 (na + nb : Int)), Fact.is (.bool false), Fact.is (.bool false), Fact.is (undef), Fact.is (undef), Fact.is (undef), Fact.is (.bool false), Fact.is (.bool false), Fact.is (.slice A8 xl c8), Fact.is (.int .i64 xl), Fact.is (.slice A6 pl c6), Fact.is (.int .i64 pl), Fact.is (.bool true), Fact.is (.bool true), Fact.is (.slice A8 xl c8), Fact.is (.int .i64 xl), Fact.is (.slice A7 ql c7), Fact.is (.int .i64 ql), Fact.is (.bool true), Fact.is (.bool true), Fact.is (.bool true), Fact.is (.slice B nb cb), Fact.is (.int .i64 nb), Fact.is (.bool true), Fact.is (.bool true), Fact.is (undef), Fact.is (undef), Fact.is (undef), Fact.is (undef), Fact.is (undef), Fact.is (.bool true), Fact.is (.bool true), Fact.is (.bool true), Fact.is (.bool true), Fact.is (.bool true)]
            (by kernel_rfl) rfl rfl ⟨?s0, ?s1, ?s2, ?s3, ?s4, ?s5, ?s6, ?s7, ?s8, ?s9, ?s10, ?s11, ?s12, ?s13, ?s14, ?s15, ?s16, ?s17, ?s18, ?s19, ?s20, ?s21, ?s22, ?s23, ?s24, ?s25, ?s26, ?s27, ?s28, ?s29, ?s30, ?s31, ?s32, ?s33, ?s34, ?s35, ?s36, ?s37, ?s38, ?s39, ?s40, ?s41, ?s42, ?s43, ?s44, ?s45, ?s46, ?s47, ?s48, ?s49, ?s50, ?s51, trivial⟩ ?fin
          case s0 =>
            intro ρ W hb hc hf hr
            obtain ⟨r5, -⟩ := hr
            have e5 : ρ (.tmp 5) = .bool true := r5
            clear r5
            refine under_none rfl ?_
            exact ⟨e5, Below.refl _ _⟩
          case s1 =>
            intro ρ W hb hc hf hr
            obtain ⟨r36, -⟩ := hr
            have e36 : ρ (.tmp 36) = .bool true := r36
            clear r36
            refine under_none rfl ?_
            exact ⟨e36, Below.refl _ _⟩
          case s2 =>
            intro ρ W hb hc hf hr
            obtain ⟨r6, r37, -⟩ := hr
            have e6 : ρ (.tmp 6) = .slice A6 pl c6 := r6
            clear r6
            have e37 : ρ (.tmp 37) = .bool true := r37
            clear r37
            refine ⟨37, rfl, .inl ⟨e37, ?_⟩⟩
            exact ⟨e6, Below.refl _ _⟩
          case s3 =>
            intro ρ W hb hc hf hr
            obtain ⟨r38, r37, -⟩ := hr
            have e38 : ρ (.tmp 38) = .slice A6 pl c6 := r38
            clear r38
            have e37 : ρ (.tmp 37) = .bool true := r37
            clear r37
            refine ⟨37, rfl, .inl ⟨e37, ?_⟩⟩
            exact soft_conv e38 (CVP.out W (hbd.trans (hb.mono (by simp)))) rfl
          case s4 =>
            intro ρ W hb hc hf hr
            obtain ⟨r7, r37, -⟩ := hr
            have e7 : ρ (.tmp 7) = .slice A7 ql c7 := r7
            clear r7
            have e37 : ρ (.tmp 37) = .bool true := r37
            clear r37
            refine ⟨37, rfl, .inl ⟨e37, ?_⟩⟩
            exact ⟨e7, Below.refl _ _⟩
          case s5 =>
            intro ρ W hb hc hf hr
            obtain ⟨r40, r37, -⟩ := hr
            have e40 : ρ (.tmp 40) = .slice A7 ql c7 := r40
            clear r40
            have e37 : ρ (.tmp 37) = .bool true := r37
            clear r37
            refine ⟨37, rfl, .inl ⟨e37, ?_⟩⟩
            exact soft_conv e40 (CVQ.out W (hbd.trans (hb.mono (by simp)))) rfl
          case s6 =>
            intro ρ W hb hc hf hr
            obtain ⟨r39, r41, r37, -⟩ := hr
            have e39 : ρ (.tmp 39) = .string (str P) := r39
            clear r39
            have e41 : ρ (.tmp 41) = .string (str Q) := r41
            clear r41
            have e37 : ρ (.tmp 37) = .bool true := r37
            clear r37
            refine ⟨37, rfl, .inl ⟨e37, ?_⟩⟩
            exact soft_bin e39 e41 rfl rfl (EQT.out W)
          case s7 =>
            intro ρ W hb hc hf hr
            obtain ⟨r0, r37, -⟩ := hr
            have e0 : ρ (.tmp 0) = .slice A na ca := r0
            clear r0
            have e37 : ρ (.tmp 37) = .bool true := r37
            clear r37
            refine ⟨37, rfl, .inl ⟨e37, ?_⟩⟩
            exact ⟨e0, Below.refl _ _⟩
          case s8 =>
            intro ρ W hb hc hf hr
            obtain ⟨r1, r37, -⟩ := hr
            have e1 : ρ (.tmp 1) = .slice B nb cb := r1
            clear r1
            have e37 : ρ (.tmp 37) = .bool true := r37
            clear r37
            refine ⟨37, rfl, .inl ⟨e37, ?_⟩⟩
            exact ⟨e1, Below.refl _ _⟩
          case s9 =>
            intro ρ W hb hc hf hr
            obtain ⟨r43, r44, r37, -⟩ := hr
            have e43 : ρ (.tmp 43) = .slice A na ca := r43
            clear r43
            have e44 : ρ (.tmp 44) = .slice B nb cb := r44
            clear r44
            have e37 : ρ (.tmp 37) = .bool true := r37
            clear r37
            refine ⟨37, rfl, .inl ⟨e37, ?_⟩⟩
            exact soft_call2 hf e43 e44 (HSM.out W (hbd.trans (hb.mono (by simp)))) rfl (by kernel_rfl) below_is
          case s10 =>
            intro ρ W hb hc hf hr
            obtain ⟨r42, r45, r37, -⟩ := hr
            have e42 : ρ (.tmp 42) = .bool E := r42
            clear r42
            have e45 : ρ (.tmp 45) = .bool E := r45
            clear r45
            have e37 : ρ (.tmp 37) = .bool true := r37
            clear r37
            refine ⟨37, rfl, .inl ⟨e37, ?_⟩⟩
            exact soft_bin e42 e45 rfl rfl (EQB.out W)
          case s11 =>
            intro ρ W hb hc hf hr
            obtain ⟨r37, r46, -⟩ := hr
            have e37 : ρ (.tmp 37) = .bool true := r37
            clear r37
            have e46 : ρ (.tmp 46) = .bool true := r46
            clear r46
            refine under_none rfl ?_
            simp [execOp, e37, e46, hc, go_sem, softUpon, Fact.is, Below.refl]
          case s12 =>
            intro ρ W hb hc hf hr
            obtain ⟨r47, -⟩ := hr
            have e47 : ρ (.tmp 47) = .bool true := r47
            clear r47
            refine under_none rfl ?_
            exact ⟨e47, Below.refl _ _⟩
          case s13 =>
            intro ρ W hb hc hf hr
            obtain ⟨r0, r48, -⟩ := hr
            have e0 : ρ (.tmp 0) = .slice A na ca := r0
            clear r0
            have e48 : ρ (.tmp 48) = .bool true := r48
            clear r48
            refine ⟨48, rfl, .inl ⟨e48, ?_⟩⟩
            exact ⟨e0, Below.refl _ _⟩
          case s14 =>
            intro ρ W hb hc hf hr
            obtain ⟨r49, r48, -⟩ := hr
            have e49 : ρ (.tmp 49) = .slice A na ca := r49
            clear r49
            have e48 : ρ (.tmp 48) = .bool true := r48
            clear r48
            refine ⟨48, rfl, .inl ⟨e48, ?_⟩⟩
            simp [e49, go_sem, softUpon, Fact.is, Below.refl]
          case s15 =>
            intro ρ W hb hc hf hr
            obtain ⟨r1, r48, -⟩ := hr
            have e1 : ρ (.tmp 1) = .slice B nb cb := r1
            clear r1
            have e48 : ρ (.tmp 48) = .bool true := r48
            clear r48
            refine ⟨48, rfl, .inl ⟨e48, ?_⟩⟩
            exact ⟨e1, Below.refl _ _⟩
          case s16 =>
            intro ρ W hb hc hf hr
            obtain ⟨r51, r48, -⟩ := hr
            have e51 : ρ (.tmp 51) = .slice B nb cb := r51
            clear r51
            have e48 : ρ (.tmp 48) = .bool true := r48
            clear r48
            refine ⟨48, rfl, .inl ⟨e48, ?_⟩⟩
            simp [e51, go_sem, softUpon, Fact.is, Below.refl]
          case s17 =>
            intro ρ W hb hc hf hr
            obtain ⟨r50, r52, r48, -⟩ := hr
            have e50 : ρ (.tmp 50) = .int .i64 na := r50
            clear r50
            have e52 : ρ (.tmp 52) = .int .i64 nb := r52
            clear r52
            have e48 : ρ (.tmp 48) = .bool true := r48
            clear r48
            refine ⟨48, rfl, .inl ⟨e48, ?_⟩⟩
            exact soft_bin e50 e52 rfl rfl (ADD.out W)
          case s18 =>
            intro ρ W hb hc hf hr
            obtain ⟨r53, r48, -⟩ := hr
            have e53 : ρ (.tmp 53) = .int .i64 (na + nb : Int) := r53
            clear r53
            have e48 : ρ (.tmp 48) = .bool true := r48
            clear r48
            refine ⟨48, rfl, .inl ⟨e48, ?_⟩⟩
            exact soft_bin e53 (hc _) rfl rfl (GT.out W)
          case s19 =>
            intro ρ W hb hc hf hr
            obtain ⟨r54, r48, -⟩ := hr
            have e54 : ρ (.tmp 54) = .bool false := r54
            clear r54
            have e48 : ρ (.tmp 48) = .bool true := r48
            clear r48
            refine ⟨48, rfl, .inl ⟨e48, ?_⟩⟩
            exact ⟨e54, Below.refl _ _⟩
          case s20 =>
            intro ρ W hb hc hf hr
            obtain ⟨r8, r55, -⟩ := hr
            have e8 : ρ (.tmp 8) = .slice A8 xl c8 := r8
            clear r8
            have e55 : ρ (.tmp 55) = .bool false := r55
            clear r55
            exact ⟨55, rfl, .inr (.inl ⟨e55, rfl⟩)⟩
          case s21 =>
            intro ρ W hb hc hf hr
            obtain ⟨r56, r55, -⟩ := hr
            have e56 : ρ (.tmp 56) = undef := r56
            clear r56
            have e55 : ρ (.tmp 55) = .bool false := r55
            clear r55
            exact ⟨55, rfl, .inr (.inl ⟨e55, rfl⟩)⟩
          case s22 =>
            intro ρ W hb hc hf hr
            obtain ⟨r57, r55, -⟩ := hr
            have e57 : ρ (.tmp 57) = undef := r57
            clear r57
            have e55 : ρ (.tmp 55) = .bool false := r55
            clear r55
            exact ⟨55, rfl, .inr (.inl ⟨e55, rfl⟩)⟩
          case s23 =>
            intro ρ W hb hc hf hr
            obtain ⟨r55, r58, r48, -⟩ := hr
            have e55 : ρ (.tmp 55) = .bool false := r55
            clear r55
            have e58 : ρ (.tmp 58) = undef := r58
            clear r58
            have e48 : ρ (.tmp 48) = .bool true := r48
            clear r48
            refine ⟨48, rfl, .inl ⟨e48, ?_⟩⟩
            simp [execOp, e55, hc, go_sem, softUpon, Fact.is, Below.refl]
          case s24 =>
            intro ρ W hb hc hf hr
            obtain ⟨r59, r48, -⟩ := hr
            have e59 : ρ (.tmp 59) = .bool false := r59
            clear r59
            have e48 : ρ (.tmp 48) = .bool true := r48
            clear r48
            refine ⟨48, rfl, .inl ⟨e48, ?_⟩⟩
            exact ⟨e59, Below.refl _ _⟩
          case s25 =>
            intro ρ W hb hc hf hr
            obtain ⟨r8, r60, -⟩ := hr
            have e8 : ρ (.tmp 8) = .slice A8 xl c8 := r8
            clear r8
            have e60 : ρ (.tmp 60) = .bool false := r60
            clear r60
            refine ⟨60, rfl, .inl ⟨e60, ?_⟩⟩
            exact ⟨e8, Below.refl _ _⟩
          case s26 =>
            intro ρ W hb hc hf hr
            obtain ⟨r61, r60, -⟩ := hr
            have e61 : ρ (.tmp 61) = .slice A8 xl c8 := r61
            clear r61
            have e60 : ρ (.tmp 60) = .bool false := r60
            clear r60
            refine ⟨60, rfl, .inl ⟨e60, ?_⟩⟩
            simp [e61, go_sem, softUpon, Fact.is, Below.refl]
          case s27 =>
            intro ρ W hb hc hf hr
            obtain ⟨r6, r60, -⟩ := hr
            have e6 : ρ (.tmp 6) = .slice A6 pl c6 := r6
            clear r6
            have e60 : ρ (.tmp 60) = .bool false := r60
            clear r60
            refine ⟨60, rfl, .inl ⟨e60, ?_⟩⟩
            exact ⟨e6, Below.refl _ _⟩
          case s28 =>
            intro ρ W hb hc hf hr
            obtain ⟨r63, r60, -⟩ := hr
            have e63 : ρ (.tmp 63) = .slice A6 pl c6 := r63
            clear r63
            have e60 : ρ (.tmp 60) = .bool false := r60
            clear r60
            refine ⟨60, rfl, .inl ⟨e60, ?_⟩⟩
            simp [e63, go_sem, softUpon, Fact.is, Below.refl]
          case s29 =>
            intro ρ W hb hc hf hr
            obtain ⟨r62, r64, r60, -⟩ := hr
            have e62 : ρ (.tmp 62) = .int .i64 xl := r62
            clear r62
            have e64 : ρ (.tmp 64) = .int .i64 pl := r64
            clear r64
            have e60 : ρ (.tmp 60) = .bool false := r60
            clear r60
            refine ⟨60, rfl, .inl ⟨e60, ?_⟩⟩
            exact soft_bin e62 e64 rfl rfl (GE1.out W)
          case s30 =>
            intro ρ W hb hc hf hr
            obtain ⟨r65, r60, -⟩ := hr
            have e65 : ρ (.tmp 65) = .bool true := r65
            clear r65
            have e60 : ρ (.tmp 60) = .bool false := r60
            clear r60
            refine ⟨60, rfl, .inl ⟨e60, ?_⟩⟩
            exact ⟨e65, Below.refl _ _⟩
          case s31 =>
            intro ρ W hb hc hf hr
            obtain ⟨r8, r66, -⟩ := hr
            have e8 : ρ (.tmp 8) = .slice A8 xl c8 := r8
            clear r8
            have e66 : ρ (.tmp 66) = .bool true := r66
            clear r66
            refine ⟨66, rfl, .inl ⟨e66, ?_⟩⟩
            exact ⟨e8, Below.refl _ _⟩
          case s32 =>
            intro ρ W hb hc hf hr
            obtain ⟨r67, r66, -⟩ := hr
            have e67 : ρ (.tmp 67) = .slice A8 xl c8 := r67
            clear r67
            have e66 : ρ (.tmp 66) = .bool true := r66
            clear r66
            refine ⟨66, rfl, .inl ⟨e66, ?_⟩⟩
            simp [e67, go_sem, softUpon, Fact.is, Below.refl]
          case s33 =>
            intro ρ W hb hc hf hr
            obtain ⟨r7, r66, -⟩ := hr
            have e7 : ρ (.tmp 7) = .slice A7 ql c7 := r7
            clear r7
            have e66 : ρ (.tmp 66) = .bool true := r66
            clear r66
            refine ⟨66, rfl, .inl ⟨e66, ?_⟩⟩
            exact ⟨e7, Below.refl _ _⟩
          case s34 =>
            intro ρ W hb hc hf hr
            obtain ⟨r69, r66, -⟩ := hr
            have e69 : ρ (.tmp 69) = .slice A7 ql c7 := r69
            clear r69
            have e66 : ρ (.tmp 66) = .bool true := r66
            clear r66
            refine ⟨66, rfl, .inl ⟨e66, ?_⟩⟩
            simp [e69, go_sem, softUpon, Fact.is, Below.refl]
          case s35 =>
            intro ρ W hb hc hf hr
            obtain ⟨r68, r70, r66, -⟩ := hr
            have e68 : ρ (.tmp 68) = .int .i64 xl := r68
            clear r68
            have e70 : ρ (.tmp 70) = .int .i64 ql := r70
            clear r70
            have e66 : ρ (.tmp 66) = .bool true := r66
            clear r66
            refine ⟨66, rfl, .inl ⟨e66, ?_⟩⟩
            exact soft_bin e68 e70 rfl rfl (GE2.out W)
          case s36 =>
            intro ρ W hb hc hf hr
            obtain ⟨r66, r71, r60, -⟩ := hr
            have e66 : ρ (.tmp 66) = .bool true := r66
            clear r66
            have e71 : ρ (.tmp 71) = .bool true := r71
            clear r71
            have e60 : ρ (.tmp 60) = .bool false := r60
            clear r60
            refine ⟨60, rfl, .inl ⟨e60, ?_⟩⟩
            simp [execOp, e66, e71, hc, go_sem, softUpon, Fact.is, Below.refl]
          case s37 =>
            intro ρ W hb hc hf hr
            obtain ⟨r72, r60, -⟩ := hr
            have e72 : ρ (.tmp 72) = .bool true := r72
            clear r72
            have e60 : ρ (.tmp 60) = .bool false := r60
            clear r60
            refine ⟨60, rfl, .inl ⟨e60, ?_⟩⟩
            exact ⟨e72, Below.refl _ _⟩
          case s38 =>
            intro ρ W hb hc hf hr
            obtain ⟨r1, r73, -⟩ := hr
            have e1 : ρ (.tmp 1) = .slice B nb cb := r1
            clear r1
            have e73 : ρ (.tmp 73) = .bool true := r73
            clear r73
            refine ⟨73, rfl, .inl ⟨e73, ?_⟩⟩
            exact ⟨e1, Below.refl _ _⟩
          case s39 =>
            intro ρ W hb hc hf hr
            obtain ⟨r74, r73, -⟩ := hr
            have e74 : ρ (.tmp 74) = .slice B nb cb := r74
            clear r74
            have e73 : ρ (.tmp 73) = .bool true := r73
            clear r73
            refine ⟨73, rfl, .inl ⟨e73, ?_⟩⟩
            simp [e74, go_sem, softUpon, Fact.is, Below.refl]
          case s40 =>
            intro ρ W hb hc hf hr
            obtain ⟨r75, r73, -⟩ := hr
            have e75 : ρ (.tmp 75) = .int .i64 nb := r75
            clear r75
            have e73 : ρ (.tmp 73) = .bool true := r73
            clear r73
            refine ⟨73, rfl, .inl ⟨e73, ?_⟩⟩
            exact soft_bin e75 (hc _) rfl rfl (EQZ.out W)
          case s41 =>
            intro ρ W hb hc hf hr
            obtain ⟨r76, r73, -⟩ := hr
            have e76 : ρ (.tmp 76) = .bool true := r76
            clear r76
            have e73 : ρ (.tmp 73) = .bool true := r73
            clear r73
            refine ⟨73, rfl, .inl ⟨e73, ?_⟩⟩
            exact ⟨e76, Below.refl _ _⟩
          case s42 =>
            intro ρ W hb hc hf hr
            obtain ⟨r8, r77, -⟩ := hr
            have e8 : ρ (.tmp 8) = .slice A8 xl c8 := r8
            clear r8
            have e77 : ρ (.tmp 77) = .bool true := r77
            clear r77
            exact ⟨77, rfl, .inr (.inl ⟨e77, rfl⟩)⟩
          case s43 =>
            intro ρ W hb hc hf hr
            obtain ⟨r78, r77, -⟩ := hr
            have e78 : ρ (.tmp 78) = undef := r78
            clear r78
            have e77 : ρ (.tmp 77) = .bool true := r77
            clear r77
            exact ⟨77, rfl, .inr (.inl ⟨e77, rfl⟩)⟩
          case s44 =>
            intro ρ W hb hc hf hr
            obtain ⟨r6, r77, -⟩ := hr
            have e6 : ρ (.tmp 6) = .slice A6 pl c6 := r6
            clear r6
            have e77 : ρ (.tmp 77) = .bool true := r77
            clear r77
            exact ⟨77, rfl, .inr (.inl ⟨e77, rfl⟩)⟩
          case s45 =>
            intro ρ W hb hc hf hr
            obtain ⟨r80, r77, -⟩ := hr
            have e80 : ρ (.tmp 80) = undef := r80
            clear r80
            have e77 : ρ (.tmp 77) = .bool true := r77
            clear r77
            exact ⟨77, rfl, .inr (.inl ⟨e77, rfl⟩)⟩
          case s46 =>
            intro ρ W hb hc hf hr
            obtain ⟨r79, r81, r77, -⟩ := hr
            have e79 : ρ (.tmp 79) = undef := r79
            clear r79
            have e81 : ρ (.tmp 81) = undef := r81
            clear r81
            have e77 : ρ (.tmp 77) = .bool true := r77
            clear r77
            exact ⟨77, rfl, .inr (.inl ⟨e77, rfl⟩)⟩
          case s47 =>
            intro ρ W hb hc hf hr
            obtain ⟨r77, r82, r73, -⟩ := hr
            have e77 : ρ (.tmp 77) = .bool true := r77
            clear r77
            have e82 : ρ (.tmp 82) = undef := r82
            clear r82
            have e73 : ρ (.tmp 73) = .bool true := r73
            clear r73
            refine ⟨73, rfl, .inl ⟨e73, ?_⟩⟩
            simp [execOp, e77, hc, go_sem, softUpon, Fact.is, Below.refl]
          case s48 =>
            intro ρ W hb hc hf hr
            obtain ⟨r73, r83, r60, -⟩ := hr
            have e73 : ρ (.tmp 73) = .bool true := r73
            clear r73
            have e83 : ρ (.tmp 83) = .bool true := r83
            clear r83
            have e60 : ρ (.tmp 60) = .bool false := r60
            clear r60
            refine ⟨60, rfl, .inl ⟨e60, ?_⟩⟩
            simp [execOp, e73, e83, hc, go_sem, softUpon, Fact.is, Below.refl]
          case s49 =>
            intro ρ W hb hc hf hr
            obtain ⟨r60, r84, r48, -⟩ := hr
            have e60 : ρ (.tmp 60) = .bool false := r60
            clear r60
            have e84 : ρ (.tmp 84) = .bool true := r84
            clear r84
            have e48 : ρ (.tmp 48) = .bool true := r48
            clear r48
            refine ⟨48, rfl, .inl ⟨e48, ?_⟩⟩
            simp [execOp, e60, e84, hc, go_sem, softUpon, Fact.is, Below.refl]
          case s50 =>
            intro ρ W hb hc hf hr
            obtain ⟨r48, r85, -⟩ := hr
            have e48 : ρ (.tmp 48) = .bool true := r48
            clear r48
            have e85 : ρ (.tmp 85) = .bool true := r85
            clear r85
            refine under_none rfl ?_
            simp [execOp, e48, e85, hc, go_sem, softUpon, Fact.is, Below.refl]
          case s51 =>
            intro ρ W hb hc hf hr
            obtain ⟨r86, -⟩ := hr
            have e86 : ρ (.tmp 86) = .bool true := r86
            clear r86
            refine under_none rfl ?_
            exact ⟨e86, Below.refl _ _⟩
          case fin =>
            intro a u4 hb hd hk
            have h4 : a.tmps.getD 4 undef = .bool true := hk 4
            clear hk
            go_wp2
            refine bodyPost_ret (results_tmp rfl _ _ _) hd ?_
            exact ⟨by rw [h4], c8w.trans ((hbd.trans (hb.mono (by simp))).mono c8w.size)⟩
        · have EQZ := Lib.hid (fun (W : World) => show (binOp .eql 3 (.int .i64 (nb : Int)) (.int .i64 0)).run Tryd.prog W = .ok (.bool false) W by go_simp)
          have hx4 := hx3 (by omega)
          clear hb0
          have GT2 := Lib.hid (fun (W : World) => show (binOp .gtr 3 (.int .i64 (xl : Int)) (.int .i64 (pl : Int))).run Tryd.prog W = .ok (.bool true) W by go_simp)
          go_wp2
          refine wp_soft (by kernel_rfl) 87 [(36, [5]), (37, [36]), (38, [6, 37]), (39, [38, 37]), (40, [7, 37]), (41, [40, 37]), (42, [39, 41, 37]), (43, [0, 37]), (44, [1, 37]), (45, [43, 44, 37]), (46, [42, 45, 37]), (47, [37, 46]), (48, [47]), (49, [0, 48]), (50, [49, 48]), (51, [1, 48]), (52, [51, 48]), (53, [50, 52, 48]), (54, [53, 48]), (55, [54, 48]), (56, [8, 55]), (57, [56, 55]), (58, [57, 55]), (59, [55, 58, 48]), (60, [59, 48]), (61, [8, 60]), (62, [61, 60]), (63, [6, 60]), (64, [63, 60]), (65, [62, 64, 60]), (66, [65, 60]), (67, [8, 66]), (68, [67, 66]), (69, [7, 66]), (70, [69, 66]), (71, [68, 70, 66]), (72, [66, 71, 60]), (73, [72, 60]), (74, [1, 73]), (75, [74, 73]), (76, [75, 73]), (77, [76, 73]), (78, [8, 77]), (79, [78, 77]), (80, [6, 77]), (81, [80, 77]), (82, [79, 81, 77]), (83, [77, 82, 73]), (84, [73, 83, 60]), (85, [60, 84, 48]), (86, [48, 85]), (4, [86])]
            [Fact.is (.bool true), Fact.is (.bool true), Fact.is (.slice A6 pl c6), Fact.is (.string (str P)), Fact.is (.slice A7 ql c7), Fact.is (.string (str Q)), Fact.is (.bool E), Fact.is (.slice A na ca), Fact.is (.slice B nb cb), Fact.is (.bool E), Fact.is (.bool true), Fact.is (.bool true), Fact.is (.bool true), Fact.is (.slice A na ca), Fact.is (.int .i64 na), Fact.is (.slice B nb cb), Fact.is (.int .i64 nb), Fact.is (.int .i64 (na + nb : Int)), Fact.is (.bool false), Fact.is (.bool false), Fact.is (undef), Fact.is (undef), Fact.is (undef), Fact.is (.bool false), Fact.is (.bool false), Fact.is (.slice A8 xl c8), Fact.is (.int .i64 xl), Fact.is (.slice A6 pl c6), Fact.is (.int .i64 pl), Fact.is (.bool true), Fact.is (.bool true), Fact.is (.slice A8 xl c8), Fact.is (.int .i64 xl), Fact.is (.slice A7 ql c7), Fact.is (.int .i64 ql), Fact.is (.bool true), Fact.is (.bool true), Fact.is (.bool true), Fact.is (.slice B nb cb), Fact.is (.int .i64 nb), Fact.is (.bool false), Fact.is (.bool false), Fact.is (.slice A8 xl c8), Fact.is (.int .i64 xl), Fact.is (.slice A6 pl c6), Fact.is (.int .i64 pl), Fact.is (.bool true), Fact.is (.bool true), Fact.is (.bool true), Fact.is (.bool true), Fact.is (.bool true), Fact.is (.bool true)]
            (by kernel_rfl) rfl rfl ⟨?s0, ?s1, ?s2, ?s3, ?s4, ?s5, ?s6, ?s7, ?s8, ?s9, ?s10, ?s11, ?s12, ?s13, ?s14, ?s15, ?s16, ?s17, ?s18, ?s19, ?s20, ?s21, ?s22, ?s23, ?s24, ?s25, ?s26, ?s27, ?s28, ?s29, ?s30, ?s31, ?s32, ?s33, ?s34, ?s35, ?s36, ?s37, ?s38, ?s39, ?s40, ?s41, ?s42, ?s43, ?s44, ?s45, ?s46, ?s47, ?s48, ?s49, ?s50, ?s51, trivial⟩ ?fin
          case s0 =>
            intro ρ W hb hc hf hr
            obtain ⟨r5, -⟩ := hr
            have e5 : ρ (.tmp 5) = .bool true := r5
            clear r5
            refine under_none rfl ?_
            exact ⟨e5, Below.refl _ _⟩
          case s1 =>
            intro ρ W hb hc hf hr
            obtain ⟨r36, -⟩ := hr
            have e36 : ρ (.tmp 36) = .bool true := r36
            clear r36
            refine under_none rfl ?_
            exact ⟨e36, Below.refl _ _⟩
          case s2 =>
            intro ρ W hb hc hf hr
            obtain ⟨r6, r37, -⟩ := hr
            have e6 : ρ (.tmp 6) = .slice A6 pl c6 := r6
            clear r6
            have e37 : ρ (.tmp 37) = .bool true := r37
            clear r37
            refine ⟨37, rfl, .inl ⟨e37, ?_⟩⟩
            exact ⟨e6, Below.refl _ _⟩
          case s3 =>
            intro ρ W hb hc hf hr
            obtain ⟨r38, r37, -⟩ := hr
            have e38 : ρ (.tmp 38) = .slice A6 pl c6 := r38
            clear r38
            have e37 : ρ (.tmp 37) = .bool true := r37
            clear r37
            refine ⟨37, rfl, .inl ⟨e37, ?_⟩⟩
            exact soft_conv e38 (CVP.out W (hbd.trans (hb.mono (by simp)))) rfl
          case s4 =>
            intro ρ W hb hc hf hr
            obtain ⟨r7, r37, -⟩ := hr
            have e7 : ρ (.tmp 7) = .slice A7 ql c7 := r7
            clear r7
            have e37 : ρ (.tmp 37) = .bool true := r37
            clear r37
            refine ⟨37, rfl, .inl ⟨e37, ?_⟩⟩
            exact ⟨e7, Below.refl _ _⟩
          case s5 =>
            intro ρ W hb hc hf hr
            obtain ⟨r40, r37, -⟩ := hr
            have e40 : ρ (.tmp 40) = .slice A7 ql c7 := r40
            clear r40
            have e37 : ρ (.tmp 37) = .bool true := r37
            clear r37
            refine ⟨37, rfl, .inl ⟨e37, ?_⟩⟩
            exact soft_conv e40 (CVQ.out W (hbd.trans (hb.mono (by simp)))) rfl
          case s6 =>
            intro ρ W hb hc hf hr
            obtain ⟨r39, r41, r37, -⟩ := hr
            have e39 : ρ (.tmp 39) = .string (str P) := r39
            clear r39
            have e41 : ρ (.tmp 41) = .string (str Q) := r41
            clear r41
            have e37 : ρ (.tmp 37) = .bool true := r37
            clear r37
            refine ⟨37, rfl, .inl ⟨e37, ?_⟩⟩
            exact soft_bin e39 e41 rfl rfl (EQT.out W)
          case s7 =>
            intro ρ W hb hc hf hr
            obtain ⟨r0, r37, -⟩ := hr
            have e0 : ρ (.tmp 0) = .slice A na ca := r0
            clear r0
            have e37 : ρ (.tmp 37) = .bool true := r37
            clear r37
            refine ⟨37, rfl, .inl ⟨e37, ?_⟩⟩
            exact ⟨e0, Below.refl _ _⟩
          case s8 =>
            intro ρ W hb hc hf hr
            obtain ⟨r1, r37, -⟩ := hr
            have e1 : ρ (.tmp 1) = .slice B nb cb := r1
            clear r1
            have e37 : ρ (.tmp 37) = .bool true := r37
            clear r37
            refine ⟨37, rfl, .inl ⟨e37, ?_⟩⟩
            exact ⟨e1, Below.refl _ _⟩
          case s9 =>
            intro ρ W hb hc hf hr
            obtain ⟨r43, r44, r37, -⟩ := hr
            have e43 : ρ (.tmp 43) = .slice A na ca := r43
            clear r43
            have e44 : ρ (.tmp 44) = .slice B nb cb := r44
            clear r44
            have e37 : ρ (.tmp 37) = .bool true := r37
            clear r37
            refine ⟨37, rfl, .inl ⟨e37, ?_⟩⟩
            exact soft_call2 hf e43 e44 (HSM.out W (hbd.trans (hb.mono (by simp)))) rfl (by kernel_rfl) below_is
          case s10 =>
            intro ρ W hb hc hf hr
            obtain ⟨r42, r45, r37, -⟩ := hr
            have e42 : ρ (.tmp 42) = .bool E := r42
            clear r42
            have e45 : ρ (.tmp 45) = .bool E := r45
            clear r45
            have e37 : ρ (.tmp 37) = .bool true := r37
            clear r37
            refine ⟨37, rfl, .inl ⟨e37, ?_⟩⟩
            exact soft_bin e42 e45 rfl rfl (EQB.out W)
          case s11 =>
            intro ρ W hb hc hf hr
            obtain ⟨r37, r46, -⟩ := hr
            have e37 : ρ (.tmp 37) = .bool true := r37
            clear r37
            have e46 : ρ (.tmp 46) = .bool true := r46
            clear r46
            refine under_none rfl ?_
            simp [execOp, e37, e46, hc, go_sem, softUpon, Fact.is, Below.refl]
          case s12 =>
            intro ρ W hb hc hf hr
            obtain ⟨r47, -⟩ := hr
            have e47 : ρ (.tmp 47) = .bool true := r47
            clear r47
            refine under_none rfl ?_
            exact ⟨e47, Below.refl _ _⟩
          case s13 =>
            intro ρ W hb hc hf hr
            obtain ⟨r0, r48, -⟩ := hr
            have e0 : ρ (.tmp 0) = .slice A na ca := r0
            clear r0
            have e48 : ρ (.tmp 48) = .bool true := r48
            clear r48
            refine ⟨48, rfl, .inl ⟨e48, ?_⟩⟩
            exact ⟨e0, Below.refl _ _⟩
          case s14 =>
            intro ρ W hb hc hf hr
            obtain ⟨r49, r48, -⟩ := hr
            have e49 : ρ (.tmp 49) = .slice A na ca := r49
            clear r49
            have e48 : ρ (.tmp 48) = .bool true := r48
            clear r48
            refine ⟨48, rfl, .inl ⟨e48, ?_⟩⟩
            simp [e49, go_sem, softUpon, Fact.is, Below.refl]
          case s15 =>
            intro ρ W hb hc hf hr
            obtain ⟨r1, r48, -⟩ := hr
            have e1 : ρ (.tmp 1) = .slice B nb cb := r1
            clear r1
            have e48 : ρ (.tmp 48) = .bool true := r48
            clear r48
            refine ⟨48, rfl, .inl ⟨e48, ?_⟩⟩
            exact ⟨e1, Below.refl _ _⟩
          case s16 =>
            intro ρ W hb hc hf hr
            obtain ⟨r51, r48, -⟩ := hr
            have e51 : ρ (.tmp 51) = .slice B nb cb := r51
            clear r51
            have e48 : ρ (.tmp 48) = .bool true := r48
            clear r48
            refine ⟨48, rfl, .inl ⟨e48, ?_⟩⟩
            simp [e51, go_sem, softUpon, Fact.is, Below.refl]
          case s17 =>
            intro ρ W hb hc hf hr
            obtain ⟨r50, r52, r48, -⟩ := hr
            have e50 : ρ (.tmp 50) = .int .i64 na := r50
            clear r50
            have e52 : ρ (.tmp 52) = .int .i64 nb := r52
            clear r52
            have e48 : ρ (.tmp 48) = .bool true := r48
            clear r48
            refine ⟨48, rfl, .inl ⟨e48, ?_⟩⟩
            exact soft_bin e50 e52 rfl rfl (ADD.out W)
          case s18 =>
            intro ρ W hb hc hf hr
            obtain ⟨r53, r48, -⟩ := hr
            have e53 : ρ (.tmp 53) = .int .i64 (na + nb : Int) := r53
            clear r53
            have e48 : ρ (.tmp 48) = .bool true := r48
            clear r48
            refine ⟨48, rfl, .inl ⟨e48, ?_⟩⟩
            exact soft_bin e53 (hc _) rfl rfl (GT.out W)
          case s19 =>
            intro ρ W hb hc hf hr
            obtain ⟨r54, r48, -⟩ := hr
            have e54 : ρ (.tmp 54) = .bool false := r54
            clear r54
            have e48 : ρ (.tmp 48) = .bool true := r48
            clear r48
            refine ⟨48, rfl, .inl ⟨e48, ?_⟩⟩
            exact ⟨e54, Below.refl _ _⟩
          case s20 =>
            intro ρ W hb hc hf hr
            obtain ⟨r8, r55, -⟩ := hr
            have e8 : ρ (.tmp 8) = .slice A8 xl c8 := r8
            clear r8
            have e55 : ρ (.tmp 55) = .bool false := r55
            clear r55
            exact ⟨55, rfl, .inr (.inl ⟨e55, rfl⟩)⟩
          case s21 =>
            intro ρ W hb hc hf hr
            obtain ⟨r56, r55, -⟩ := hr
            have e56 : ρ (.tmp 56) = undef := r56
            clear r56
            have e55 : ρ (.tmp 55) = .bool false := r55
            clear r55
            exact ⟨55, rfl, .inr (.inl ⟨e55, rfl⟩)⟩
          case s22 =>
            intro ρ W hb hc hf hr
            obtain ⟨r57, r55, -⟩ := hr
            have e57 : ρ (.tmp 57) = undef := r57
            clear r57
            have e55 : ρ (.tmp 55) = .bool false := r55
            clear r55
            exact ⟨55, rfl, .inr (.inl ⟨e55, rfl⟩)⟩
          case s23 =>
            intro ρ W hb hc hf hr
            obtain ⟨r55, r58, r48, -⟩ := hr
            have e55 : ρ (.tmp 55) = .bool false := r55
            clear r55
            have e58 : ρ (.tmp 58) = undef := r58
            clear r58
            have e48 : ρ (.tmp 48) = .bool true := r48
            clear r48
            refine ⟨48, rfl, .inl ⟨e48, ?_⟩⟩
            simp [execOp, e55, hc, go_sem, softUpon, Fact.is, Below.refl]
          case s24 =>
            intro ρ W hb hc hf hr
            obtain ⟨r59, r48, -⟩ := hr
            have e59 : ρ (.tmp 59) = .bool false := r59
            clear r59
            have e48 : ρ (.tmp 48) = .bool true := r48
            clear r48
            refine ⟨48, rfl, .inl ⟨e48, ?_⟩⟩
            exact ⟨e59, Below.refl _ _⟩
          case s25 =>
            intro ρ W hb hc hf hr
            obtain ⟨r8, r60, -⟩ := hr
            have e8 : ρ (.tmp 8) = .slice A8 xl c8 := r8
            clear r8
            have e60 : ρ (.tmp 60) = .bool false := r60
            clear r60
            refine ⟨60, rfl, .inl ⟨e60, ?_⟩⟩
            exact ⟨e8, Below.refl _ _⟩
          case s26 =>
            intro ρ W hb hc hf hr
            obtain ⟨r61, r60, -⟩ := hr
            have e61 : ρ (.tmp 61) = .slice A8 xl c8 := r61
            clear r61
            have e60 : ρ (.tmp 60) = .bool false := r60
            clear r60
            refine ⟨60, rfl, .inl ⟨e60, ?_⟩⟩
            simp [e61, go_sem, softUpon, Fact.is, Below.refl]
          case s27 =>
            intro ρ W hb hc hf hr
            obtain ⟨r6, r60, -⟩ := hr
            have e6 : ρ (.tmp 6) = .slice A6 pl c6 := r6
            clear r6
            have e60 : ρ (.tmp 60) = .bool false := r60
            clear r60
            refine ⟨60, rfl, .inl ⟨e60, ?_⟩⟩
            exact ⟨e6, Below.refl _ _⟩
          case s28 =>
            intro ρ W hb hc hf hr
            obtain ⟨r63, r60, -⟩ := hr
            have e63 : ρ (.tmp 63) = .slice A6 pl c6 := r63
            clear r63
            have e60 : ρ (.tmp 60) = .bool false := r60
            clear r60
            refine ⟨60, rfl, .inl ⟨e60, ?_⟩⟩
            simp [e63, go_sem, softUpon, Fact.is, Below.refl]
          case s29 =>
            intro ρ W hb hc hf hr
            obtain ⟨r62, r64, r60, -⟩ := hr
            have e62 : ρ (.tmp 62) = .int .i64 xl := r62
            clear r62
            have e64 : ρ (.tmp 64) = .int .i64 pl := r64
            clear r64
            have e60 : ρ (.tmp 60) = .bool false := r60
            clear r60
            refine ⟨60, rfl, .inl ⟨e60, ?_⟩⟩
            exact soft_bin e62 e64 rfl rfl (GE1.out W)
          case s30 =>
            intro ρ W hb hc hf hr
            obtain ⟨r65, r60, -⟩ := hr
            have e65 : ρ (.tmp 65) = .bool true := r65
            clear r65
            have e60 : ρ (.tmp 60) = .bool false := r60
            clear r60
            refine ⟨60, rfl, .inl ⟨e60, ?_⟩⟩
            exact ⟨e65, Below.refl _ _⟩
          case s31 =>
            intro ρ W hb hc hf hr
            obtain ⟨r8, r66, -⟩ := hr
            have e8 : ρ (.tmp 8) = .slice A8 xl c8 := r8
            clear r8
            have e66 : ρ (.tmp 66) = .bool true := r66
            clear r66
            refine ⟨66, rfl, .inl ⟨e66, ?_⟩⟩
            exact ⟨e8, Below.refl _ _⟩
          case s32 =>
            intro ρ W hb hc hf hr
            obtain ⟨r67, r66, -⟩ := hr
            have e67 : ρ (.tmp 67) = .slice A8 xl c8 := r67
            clear r67
            have e66 : ρ (.tmp 66) = .bool true := r66
            clear r66
            refine ⟨66, rfl, .inl ⟨e66, ?_⟩⟩
            simp [e67, go_sem, softUpon, Fact.is, Below.refl]
          case s33 =>
            intro ρ W hb hc hf hr
            obtain ⟨r7, r66, -⟩ := hr
            have e7 : ρ (.tmp 7) = .slice A7 ql c7 := r7
            clear r7
            have e66 : ρ (.tmp 66) = .bool true := r66
            clear r66
            refine ⟨66, rfl, .inl ⟨e66, ?_⟩⟩
            exact ⟨e7, Below.refl _ _⟩
          case s34 =>
            intro ρ W hb hc hf hr
            obtain ⟨r69, r66, -⟩ := hr
            have e69 : ρ (.tmp 69) = .slice A7 ql c7 := r69
            clear r69
            have e66 : ρ (.tmp 66) = .bool true := r66
            clear r66
            refine ⟨66, rfl, .inl ⟨e66, ?_⟩⟩
            simp [e69, go_sem, softUpon, Fact.is, Below.refl]
          case s35 =>
            intro ρ W hb hc hf hr
            obtain ⟨r68, r70, r66, -⟩ := hr
            have e68 : ρ (.tmp 68) = .int .i64 xl := r68
            clear r68
            have e70 : ρ (.tmp 70) = .int .i64 ql := r70
            clear r70
            have e66 : ρ (.tmp 66) = .bool true := r66
            clear r66
            refine ⟨66, rfl, .inl ⟨e66, ?_⟩⟩
            exact soft_bin e68 e70 rfl rfl (GE2.out W)
          case s36 =>
            intro ρ W hb hc hf hr
            obtain ⟨r66, r71, r60, -⟩ := hr
            have e66 : ρ (.tmp 66) = .bool true := r66
            clear r66
            have e71 : ρ (.tmp 71) = .bool true := r71
            clear r71
            have e60 : ρ (.tmp 60) = .bool false := r60
            clear r60
            refine ⟨60, rfl, .inl ⟨e60, ?_⟩⟩
            simp [execOp, e66, e71, hc, go_sem, softUpon, Fact.is, Below.refl]
          case s37 =>
            intro ρ W hb hc hf hr
            obtain ⟨r72, r60, -⟩ := hr
            have e72 : ρ (.tmp 72) = .bool true := r72
            clear r72
            have e60 : ρ (.tmp 60) = .bool false := r60
            clear r60
            refine ⟨60, rfl, .inl ⟨e60, ?_⟩⟩
            exact ⟨e72, Below.refl _ _⟩
          case s38 =>
            intro ρ W hb hc hf hr
            obtain ⟨r1, r73, -⟩ := hr
            have e1 : ρ (.tmp 1) = .slice B nb cb := r1
            clear r1
            have e73 : ρ (.tmp 73) = .bool true := r73
            clear r73
            refine ⟨73, rfl, .inl ⟨e73, ?_⟩⟩
            exact ⟨e1, Below.refl _ _⟩
          case s39 =>
            intro ρ W hb hc hf hr
            obtain ⟨r74, r73, -⟩ := hr
            have e74 : ρ (.tmp 74) = .slice B nb cb := r74
            clear r74
            have e73 : ρ (.tmp 73) = .bool true := r73
            clear r73
            refine ⟨73, rfl, .inl ⟨e73, ?_⟩⟩
            simp [e74, go_sem, softUpon, Fact.is, Below.refl]
          case s40 =>
            intro ρ W hb hc hf hr
            obtain ⟨r75, r73, -⟩ := hr
            have e75 : ρ (.tmp 75) = .int .i64 nb := r75
            clear r75
            have e73 : ρ (.tmp 73) = .bool true := r73
            clear r73
            refine ⟨73, rfl, .inl ⟨e73, ?_⟩⟩
            exact soft_bin e75 (hc _) rfl rfl (EQZ.out W)
          case s41 =>
            intro ρ W hb hc hf hr
            obtain ⟨r76, r73, -⟩ := hr
            have e76 : ρ (.tmp 76) = .bool false := r76
            clear r76
            have e73 : ρ (.tmp 73) = .bool true := r73
            clear r73
            refine ⟨73, rfl, .inl ⟨e73, ?_⟩⟩
            exact ⟨e76, Below.refl _ _⟩
          case s42 =>
            intro ρ W hb hc hf hr
            obtain ⟨r8, r77, -⟩ := hr
            have e8 : ρ (.tmp 8) = .slice A8 xl c8 := r8
            clear r8
            have e77 : ρ (.tmp 77) = .bool false := r77
            clear r77
            refine ⟨77, rfl, .inl ⟨e77, ?_⟩⟩
            exact ⟨e8, Below.refl _ _⟩
          case s43 =>
            intro ρ W hb hc hf hr
            obtain ⟨r78, r77, -⟩ := hr
            have e78 : ρ (.tmp 78) = .slice A8 xl c8 := r78
            clear r78
            have e77 : ρ (.tmp 77) = .bool false := r77
            clear r77
            refine ⟨77, rfl, .inl ⟨e77, ?_⟩⟩
            simp [e78, go_sem, softUpon, Fact.is, Below.refl]
          case s44 =>
            intro ρ W hb hc hf hr
            obtain ⟨r6, r77, -⟩ := hr
            have e6 : ρ (.tmp 6) = .slice A6 pl c6 := r6
            clear r6
            have e77 : ρ (.tmp 77) = .bool false := r77
            clear r77
            refine ⟨77, rfl, .inl ⟨e77, ?_⟩⟩
            exact ⟨e6, Below.refl _ _⟩
          case s45 =>
            intro ρ W hb hc hf hr
            obtain ⟨r80, r77, -⟩ := hr
            have e80 : ρ (.tmp 80) = .slice A6 pl c6 := r80
            clear r80
            have e77 : ρ (.tmp 77) = .bool false := r77
            clear r77
            refine ⟨77, rfl, .inl ⟨e77, ?_⟩⟩
            simp [e80, go_sem, softUpon, Fact.is, Below.refl]
          case s46 =>
            intro ρ W hb hc hf hr
            obtain ⟨r79, r81, r77, -⟩ := hr
            have e79 : ρ (.tmp 79) = .int .i64 xl := r79
            clear r79
            have e81 : ρ (.tmp 81) = .int .i64 pl := r81
            clear r81
            have e77 : ρ (.tmp 77) = .bool false := r77
            clear r77
            refine ⟨77, rfl, .inl ⟨e77, ?_⟩⟩
            exact soft_bin e79 e81 rfl rfl (GT2.out W)
          case s47 =>
            intro ρ W hb hc hf hr
            obtain ⟨r77, r82, r73, -⟩ := hr
            have e77 : ρ (.tmp 77) = .bool false := r77
            clear r77
            have e82 : ρ (.tmp 82) = .bool true := r82
            clear r82
            have e73 : ρ (.tmp 73) = .bool true := r73
            clear r73
            refine ⟨73, rfl, .inl ⟨e73, ?_⟩⟩
            simp [execOp, e77, e82, hc, go_sem, softUpon, Fact.is, Below.refl]
          case s48 =>
            intro ρ W hb hc hf hr
            obtain ⟨r73, r83, r60, -⟩ := hr
            have e73 : ρ (.tmp 73) = .bool true := r73
            clear r73
            have e83 : ρ (.tmp 83) = .bool true := r83
            clear r83
            have e60 : ρ (.tmp 60) = .bool false := r60
            clear r60
            refine ⟨60, rfl, .inl ⟨e60, ?_⟩⟩
            simp [execOp, e73, e83, hc, go_sem, softUpon, Fact.is, Below.refl]
          case s49 =>
            intro ρ W hb hc hf hr
            obtain ⟨r60, r84, r48, -⟩ := hr
            have e60 : ρ (.tmp 60) = .bool false := r60
            clear r60
            have e84 : ρ (.tmp 84) = .bool true := r84
            clear r84
            have e48 : ρ (.tmp 48) = .bool true := r48
            clear r48
            refine ⟨48, rfl, .inl ⟨e48, ?_⟩⟩
            simp [execOp, e60, e84, hc, go_sem, softUpon, Fact.is, Below.refl]
          case s50 =>
            intro ρ W hb hc hf hr
            obtain ⟨r48, r85, -⟩ := hr
            have e48 : ρ (.tmp 48) = .bool true := r48
            clear r48
            have e85 : ρ (.tmp 85) = .bool true := r85
            clear r85
            refine under_none rfl ?_
            simp [execOp, e48, e85, hc, go_sem, softUpon, Fact.is, Below.refl]
          case s51 =>
            intro ρ W hb hc hf hr
            obtain ⟨r86, -⟩ := hr
            have e86 : ρ (.tmp 86) = .bool true := r86
            clear r86
            refine under_none rfl ?_
            exact ⟨e86, Below.refl _ _⟩
          case fin =>
            intro a u4 hb hd hk
            have h4 : a.tmps.getD 4 undef = .bool true := hk 4
            clear hk
            go_wp2
            refine bodyPost_ret (results_tmp rfl _ _ _) hd ?_
            exact ⟨by rw [h4], c8w.trans ((hbd.trans (hb.mono (by simp))).mono c8w.size)⟩


set_option maxRecDepth 100000 in
theorem lifted (os : Os) (started : os.Started) (H : Type) (enc : TypeId × Value → H) :
    ReturnsInHanded {} Tryd.checked os 8 .any (fun w args => (Rows.batchUnlikeSpec.pre enc Tryd.prog Tryd.f8 [] false w args ∧ laidMetH Tryd.prog laidBoth w) ∧ sizedMet enc Tryd.prog Tryd.f8 (OpenSpec.ofChange Rows.batchUnlikeSpec) false w args) (Rows.batchUnlikeSpec.post enc Tryd.prog Tryd.f8 false true false false) := by
  refine returnsInHanded_of_change_and (C := Tryd.checked) (X := fun w _ => laidMetH Tryd.prog laidBoth w) (fun _ _ _ hh h => h.of_heap hh) own started (by kernel_rfl) Tryd.func8
    (ChangeSpec.witness_at (enc := enc) (C := Tryd.checked) (os := os) (X := fun w _ => laidMetH Tryd.prog laidBoth w) false (bothWorld os) #[.slice none 0 0, .slice none 0 0] 8 rfl (by kernel_rfl) (by kernel_rfl) (by kernel_rfl) (by kernel_rfl) (by kernel_rfl) (bothWorld_met os _)) ?_
  intro W base args ds gs before hval0 hW _ _ hL _
  have hval : ∀ (j : Nat) t v, Tryd.f8.params[j]? = some t → args[j]? = some v → Value.okWide Tryd.prog W .any base t v := hval0
  have hfin := fun W' => law_post (enc := enc) (P := Tryd.prog) (f := Tryd.f8) (s := Rows.batchUnlikeSpec) (tb := 4) (W := W) (W' := W') (args := args) (ds := ds) (gs := gs) (before := before) laidOut rfl (by kernel_rfl) Tryd.underlying4 (by kernel_rfl) (fun xs h => by rw [Tryd.params8] at h; match xs, h with | [_, _], _ => rfl) hW
  have hlt : ∀ x ∈ before, x.block < W.heap.size := fun x hx => hW.lt x hx
  obtain ⟨p, q, hA0, hV, rfl, hfz, hnd⟩ := hW
  have hA : DataW.TrodAll enc Tryd.prog W 0 (fun _ => true) true Tryd.f8.params.toList args.toList ds p := hA0
  rw [Tryd.params8] at hA hval
  obtain ⟨v0, vs0, d0, ds0, p0, q0, hargs, rfl, rfl, h0, r0⟩ := trodAll_cons hA
  obtain ⟨v1, vs1, d1, ds1, p1, q1, rfl, rfl, rfl, h1, r1⟩ := trodAll_cons r0
  obtain ⟨rfl, rfl, rfl⟩ := trodAll_nil r1
  obtain rfl : args = #[v0, v1] := by cases args; simp_all
  obtain ⟨A0, cap0, l0, rfl, hl0, hm0, hB0, hS0⟩ := open_spans (hval 0 22 v0 rfl rfl) h0 (fun x hx => hlt x (by simp [hx]))
  obtain ⟨A1, cap1, l1, rfl, hl1, hm1, hB1, hS1⟩ := open_spans (hval 1 22 v1 rfl rfl) h1 (fun x hx => hlt x (by simp [hx]))
  refine (walk W (of_both hL) A0 cap0 l0 hl0 hm0 hB0 hS0 A1 cap1 l1 hl1 hm1 hB1 hS1).mono fun e W' ⟨he, hg⟩ => ?_
  subst he
  exact ⟨_, rfl, hfin W' hg⟩

theorem proved : Rows.BatchUnlikeSaid :=
  OpenClaim.holds_of_wide 8 Tryd.f8 rfl rfl rfl rfl rfl rfl rfl ⟨rfl, rfl, rfl, rfl, rfl⟩ rfl rfl rfl rfl rfl (by kernel_rfl) Tryd.func8 (by kernel_rfl)
    (of_decide_eq_true (by kernel_rfl)) (by unfold Func.isWrapper; first | (rw [if_pos (by decide +kernel)]; kernel_rfl) | (rw [if_neg (by decide +kernel)]; exact ⟨rfl, rfl⟩))
    (fun os started H enc _ => lifted os started H enc)

set_option maxRecDepth 100000 in
theorem card : Rows.BatchUnlikeCardSaid :=
  Claim7.holds_tied_plain_at .later [] kindsBoth true _ true
    proved (fun _ h => by cases h) (by kernel_rfl) (fun _ h => by cases h) batchUnlike_row_tie rfl ⟨rfl, rfl⟩ (by kernel_rfl) rfl
    (fun f fn hf hfn => by
      obtain rfl : f = 8 := Option.some.inj ((show Tryd.prog.funcNamed "turntable/turntablelaw04.BatchUnlike" = some 8 by kernel_rfl).symm.trans hf) |>.symm
      obtain rfl : fn = Tryd.f8 := (Option.some.inj (Tryd.func8.symm.trans hfn)).symm
      exact ⟨by kernel_rfl, fun j t ht => by
        rw [Tryd.params8] at ht
        have hm : t ∈ [22] := by simpa using Array.mem_of_getElem? ht
        have hall : ([22].all fun u => !Tryd.prog.wantsStandIn u) = true := by kernel_rfl
        exact (show Tryd.prog.wantsStandIn t = false by simpa using List.all_eq_true.1 hall t hm)⟩)
    (by kernel_rfl)
#print axioms card
end Go.Proofs.YtimelckjbofhbaaDoor.batchUnlike
