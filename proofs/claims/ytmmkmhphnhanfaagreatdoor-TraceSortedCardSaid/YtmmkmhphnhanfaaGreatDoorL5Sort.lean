/-
  P5.3, TraceSorted: for all spans and every turn the law returns true: spans in any order are sorted to the same ones, each once, in order. No condition; what the row lists is tied to the program's text.
-/
import Derived.Test.YtmmkmhphnhanfaaGreatDoorTrHd
import Derived.Test.YtmmkmhphnhanfaaGreatDoorSoftA
namespace Go.Proofs.YtmmkmhphnhanfaaGreatDoor.traceSorted
open Go.ChangeShapes Go.WideShapes Go.ChangeAt Go.RowKit
set_option maxRecDepth 100000

/-- the spans backwards, from a place on -/
def rot (l : List Plain.Sp) (r : Nat) : List Plain.Sp := (l.take r).reverse ++ (l.drop r).reverse
theorem rot_perm (l : List Plain.Sp) (r : Nat) : (rot l r).Perm l := by
  have h := (List.reverse_perm (l.take r)).append (List.reverse_perm (l.drop r))
  rwa [List.take_append_drop] at h
theorem rot_len (l : List Plain.Sp) (r : Nat) : (rot l r).length = l.length := (rot_perm l r).length_eq
theorem at_rot (n j X : Nat) (hj : j < n) : (n - 1 - j + X) % n = if j < X % n then X % n - 1 - j else X % n + (n - 1 - j) := by
  have h1 : X % n < n := Nat.mod_lt _ (by omega)
  rw [Nat.add_mod, Nat.mod_eq_of_lt (show n - 1 - j < n by omega)]
  split
  · have e : n - 1 - j + X % n = (X % n - 1 - j) + n := by omega
    rw [e, Nat.add_mod_right, Nat.mod_eq_of_lt (by omega)]
  · rw [Nat.mod_eq_of_lt (by omega)]; omega
theorem rot_at (l : List Plain.Sp) (X j : Nat) (hj : j < l.length) (hq : (l.length - 1 - j + X) % l.length < l.length) : (rot l (X % l.length))[j]'(by rw [rot_len]; exact hj) = l[(l.length - 1 - j + X) % l.length] := by
  have h1 : X % l.length < l.length := Nat.mod_lt _ (by omega)
  have h2 := at_rot l.length j X hj
  apply Option.some.inj
  rw [← List.getElem?_eq_getElem, ← List.getElem?_eq_getElem, h2]
  generalize X % l.length = r at *
  unfold rot
  by_cases h : j < r
  · rw [if_pos h, List.getElem?_append_left (by simp; omega), List.getElem?_reverse (by simp; omega), List.getElem?_take, if_pos (by simp; omega)]
    congr 1
    simp
    omega
  · rw [if_neg h, List.getElem?_append_right (by simp; omega), List.getElem?_reverse (by simp; omega), List.getElem?_drop]
    congr 1
    simp
    omega
theorem once {l : List Plain.Sp} (h : Plain.Free l) {x : Plain.Sp} (hx : x ∈ l) : l.count x = 1 := by
  have hn : l.Nodup := by
    have := h.2.2.2.2
    rw [List.nodup_iff_pairwise_ne, List.pairwise_map] at this
    rw [List.nodup_iff_pairwise_ne]
    exact this.imp fun h e => h (by rw [e])
  rw [hn.count, if_pos hx]
/-- what the sorted ones are -/
theorem sorted (l s : List Plain.Sp) (hs : Plain.ts l = s) : ∀ j (h : j < s.length), l.count s[j] = 1 ∧ ∀ (_ : 0 < j), Plain.lt (s[j - 1]'(by omega)) s[j] = true := by
  intro j h
  cases hb : Plain.isT (Plain.srt l) with
  | false => rw [Plain.ts_no hb] at hs; subst hs; simp at h
  | true =>
    have e := Plain.ts_yes hb
    have hF := (Plain.isT_srt l).1 hb
    have hI := ((Plain.isT_iff _).1 hb).2
    rw [hs] at e
    refine ⟨once hF ?_, fun h0 => ?_⟩
    · have : s[j] ∈ Plain.srt l := by rw [← e]; exact List.getElem_mem h
      exact (Plain.srt_perm l).mem_iff.1 this
    · rw [← e] at hI
      exact List.pairwise_iff_getElem.1 hI (j - 1) j (by omega) h (by omega)

set_option maxHeartbeats 16000000 in
theorem walk (w : World) (hT : Handle w) (A : Option Addr) (cap : Nat) (l : List Plain.Sp) (hl : l.length ≤ cap) (hm : cap ≤ maxLen) (hA : Lies w A (flat l)) (hS : ∀ x ∈ l, x.sv.length ≤ maxLen ∧ x.nm.length ≤ maxLen) (x1 : Int) (hx1 : 0 ≤ x1 ∧ x1 ≤ 255) :
    Calls Tryz.prog 5 #[.slice A l.length cap, .int .u8 x1] w fun e w' => e = .returned (.bool true) ∧ Below w.heap.size w w' := by
  have HA := Lib.hid hA
  have HH := Lib.hid (show ∀ u, Below w.heap.size w u → Handle u from fun u h => hT.below hT.lt h)
  have HT := Lib.hid hT
  have HS := Lib.hid (show Fine l from hS)
  obtain ⟨n, hn⟩ : ∃ n, l.length = n := ⟨_, rfl⟩
  rw [hn] at hl ⊢
  have HN := Lib.hid hn
  have HM := Lib.hid hm
  unfold maxLen at hm
  clear hA hT hS hn
  go_enter Tryz.func5, Tryz.ntmps5
  go_wp2_with fail
  refine (head_any w HT.out).mono ?_
  rintro e w1 ⟨rfl, c1⟩
  go_wp2_with fail
  refine (great_any A n cap l w1 HN.out hl HM.out (HA.out.below c1)).mono ?_
  rintro e w2 ⟨g, rfl, hg, d2⟩
  have c2 := c1.trans (d2.mono c1.size)
  rcases g with _ | _
  rotate_left
  · go_wp2
    go_ret
    exact ⟨rfl, c2⟩
  have h300 := hg rfl
  clear hg
  by_cases h0 : n = 0
  · subst h0
    go_wp2
    go_ret
    exact ⟨rfl, c2⟩
  obtain ⟨X, rfl⟩ := Int.eq_ofNat_of_zero_le hx1.1
  have hX : X ≤ 255 := by omega
  clear hx1
  have hne : ((n : Int) == 0) = false := beq_eq_false_iff_ne.2 (by omega)
  obtain ⟨i0, hi, hz0, hz1, hz2⟩ := info_parts infoSp
  obtain ⟨O, hO⟩ : ∃ O, rot l (X % n) = O := ⟨_, rfl⟩
  have HOL := Lib.hid (show O.length = n by rw [← hO, rot_len, HN.out])
  have HOP := Lib.hid (show O.Perm l by rw [← hO]; exact rot_perm l _)
  have HOA := Lib.hid (show ∀ j (hj : j < n) (hq : (n - 1 - j + X) % n < l.length) (ho : j < O.length), O[j] = l[(n - 1 - j + X) % n] by
    subst hO
    have hn := HN.out
    subst hn
    intro j hj hq ho
    exact rot_at l X j hj hq)
  have HFO := Lib.hid (show Fine O from fun x hx => HS.out x (HOP.out.mem_iff.1 hx))
  clear hO
  go_wp2
  go_loopw [6, 7] (fun v i wr => ∃ j : Nat, i = .int .i64 j ∧ j ≤ n ∧ wr.ownsRow w2.heap.size 40 7 v j (flat (O.take j)) ∧ Below w2.heap.size w2 wr) (fun _ i _ => n - (intOf i).toNat)
  case atStart => exact ⟨0, rfl, Nat.zero_le _, by rw [List.take_zero]; exact World.ownsRow_nil _ _ _ _, Below.refl _ _⟩
  case round =>
    obtain ⟨j, rfl, hj, hown, hbr⟩ := hrel
    have HO := Lib.hid hown
    clear hown
    have cr := c2.trans (hbr.mono c2.size)
    by_cases hlt : j < n
    · obtain ⟨q, hq⟩ : ∃ q, (n - 1 - j + X) % n = q := ⟨_, rfl⟩
      have hqn : q < n := by rw [← hq]; exact Nat.mod_lt _ (by omega)
      have hql : q < l.length := by rw [HN.out]; exact hqn
      have hjo : j < O.length := by rw [HOL.out]; exact hlt
      have HX := Lib.hid (show O.take (j + 1) = O.take j ++ [l[q]] by
        subst hq
        rw [List.take_succ_eq_append_getElem hjo, HOA.out j hlt hql hjo])
      have ek : ((n : Int) - 1 - (j : Int) + (X : Int)) % (n : Int) = (q : Int) := by
        have e : (n : Int) - 1 - (j : Int) + (X : Int) = ((n - 1 - j + X : Nat) : Int) := by omega
        rw [e, ← hq]; simp
      obtain ⟨ad, rfl, -, hc⟩ := at_span HA.out q hql
      obtain ⟨x0, x1, x2, x3, x4, x5, x6⟩ := hc wr cr
      have HFL := Lib.hid (show flat (O.take j) ++ [.int .i64 l[q].t, .int .i64 l[q].i, .int .i64 l[q].p, .int .i64 l[q].s, .int .i64 l[q].d, .string (str l[q].sv), .string (str l[q].nm)] = flat (O.take (j + 1)) by rw [HX.out, flat_append]; rfl)
      clear hc HX
      generalize l[q] = x at *
      obtain ⟨xt, xi, xp, xs, xd, xv, xn⟩ := x
      simp only at x0 x1 x2 x3 x4 x5 x6 HFL
      generalize str xv = XV at *
      generalize str xn = XN at *
      have hszr := hbr.size
      go_wp2_with (at_builtin; refine wpList_appK rfl _ _ 22 rfl w2.heap.size 40 i0 (.agg #[.int .i64 0, .int .i64 0, .int .i64 0, .int .i64 0, .int .i64 0, .string ⟨#[]⟩, .string ⟨#[]⟩]) 7 72 Tryz.underlying22 hi hz0 hz1 hz2 rfl (by decide) _ j (flat (O.take j)) rfl ?b1 (some ⟨wr.heap.size, 0, none⟩) 1 1 [.int .i64 xt, .int .i64 xi, .int .i64 xp, .int .i64 xs, .int .i64 xd, .string XV, .string XN] rfl rfl ?b2 ?b3 ?b4 ?b5 ?b6 ?b7)
      case b1 => exact HO.out.alloc _
      case b2 => exact lies_made wr _ _ _ _ rfl rfl
      case b3 => simp [Value.oneCell']
      case b4 => unfold maxLen; omega
      case b5 => omega
      case b6 => simp; omega
      case b7 =>
        intro v5 w5 hown5 hgrow _
        have f5 : Below w2.heap.size w2 w5 := (hbr.alloc hbr.size _).grown hgrow (by simp; omega) (fun g hg => (HO.out.lt g hg).1)
        rw [HFL.out] at hown5
        have HO5 := Lib.hid hown5
        clear hown5 hgrow x0 x1 x2 x3 x4 x5 x6
        go_wp2
        go_roundw
        case rel => exact ⟨j + 1, by go_num, by omega, HO5.out, f5⟩
        case measure => simp [intOf]; omega
    · obtain rfl : j = n := by omega
      have ho : wr.ownsRow w2.heap.size 40 7 u6 O.length (flat O) := by
        rw [HOL.out]
        have := HO.out
        rwa [List.take_of_length_le (by rw [HOL.out]; omega)] at this
      obtain ⟨A7, cap7, rfl, hl7, hm7, hL7, -⟩ := GivesS.own (w := wr) (w' := wr) (l := O) ho (Below.refl _ _)
      rw [HOL.out] at hl7 ⊢
      have HL7 := Lib.hid hL7
      have HSO := Lib.hid (tsort_any A j cap l wr HN.out (Nat.le_trans hl HM.out) (HA.out.below cr) HS.out)
      have HSP := Lib.hid (fun (u : World) (d : Below wr.heap.size wr u) => tsort_any A7 j cap7 O u HOL.out (Nat.le_trans hl7 hm7) (HL7.out.below d) HFO.out)
      rw [(Plain.ts_perm HOP.out).1, (Plain.ts_perm HOP.out).2] at HSP
      have HF1 := Lib.hid (fine_ts l)
      have HIT := Lib.hid (show Plain.isT (Plain.srt l) = true → Plain.isT (Plain.ts l) = true ∧ (Plain.ts l).length = j from fun h => ⟨Plain.ts_isT h, by rw [Plain.ts_yes h, (Plain.srt_perm l).length_eq, HN.out]⟩)
      have htl := Plain.ts_len l
      obtain ⟨R, hR⟩ : ∃ R, Plain.isT (Plain.srt l) = R := ⟨_, rfl⟩
      rw [hR] at HSO HSP HIT
      obtain ⟨s, hs⟩ : ∃ s, Plain.ts l = s := ⟨_, rfl⟩
      have HSD := Lib.hid (sorted l s hs)
      rw [hs] at HSO HSP HF1 HIT htl
      obtain ⟨m3, hm3⟩ : ∃ m3, s.length = m3 := ⟨_, rfl⟩
      have HSL := Lib.hid hm3
      rw [hm3] at htl HIT
      clear hR hs ho hL7 HO HOP HOA hm3
      go_wp2_with fail
      refine HSO.out.mono ?_
      rintro e w3 ⟨v3, rfl, A3, cap3, rfl, hl3, hm3, hL3, d3⟩
      have c3 := cr.trans (d3.mono cr.size)
      have HL3 := Lib.hid hL3
      rw [HSL.out] at hl3 ⊢
      clear hL3 HSO
      go_wp2_with fail
      refine (HSP.out w3 d3).mono ?_
      rintro e w4 ⟨v4, rfl, A4, cap4, rfl, hl4, hm4, hL4, d4⟩
      have c4 := c3.trans (d4.mono c3.size)
      have HL4 := Lib.hid hL4
      rw [HSL.out] at hl4 ⊢
      have HSM := Lib.hid (same_any A3 A4 m3 m3 cap3 cap4 s s w4 HSL.out HSL.out hl3 hl4 hm3 hm4 (HL3.out.below d4) HL4.out)
      rw [decide_eq_true rfl] at HSM
      clear hL4 HSP
      have hRR : (R != R) = false := by simp
      go_wp2_with fail
      refine HSM.out.mono ?_
      rintro e w5 ⟨rfl, d5⟩
      have c5 := c4.trans (d5.mono c4.size)
      have HL5 := Lib.hid ((HL3.out.below d4).below d5)
      clear HSM HL3 HL4 hRR
      have hm3' := hm3
      unfold maxLen at hm3'
      go_wp2
      go_loopw [12] (fun i wr => ∃ k : Nat, i = .int .i64 k ∧ k ≤ m3 ∧ Below w5.heap.size w5 wr) (fun i _ => m3 - (intOf i).toNat)
      case atStart => exact ⟨0, rfl, Nat.zero_le _, Below.refl _ _⟩
      case round =>
        obtain ⟨k, rfl, hk, hbk⟩ := hrel
        by_cases hkm : k < m3
        · have hks : k < s.length := by rw [HSL.out]; exact hkm
          obtain ⟨sd, rfl, -, hcs⟩ := at_span HL5.out k hks
          obtain ⟨hone, hless⟩ := HSD.out k hks
          have HONE := Lib.hid hone
          have HZ := Lib.hid (show 0 < k → ∃ z : Plain.Sp, Plain.lt z s[k] = true ∧ ∀ W, Below w5.heap.size w5 W → (Instr.loadAt 40 (.pointer (some (Addr.add sd ((k - 1) * 7))))).run Tryz.prog W = .ok (.agg #[.int .i64 z.t, .int .i64 z.i, .int .i64 z.p, .int .i64 z.s, .int .i64 z.d, .string (str z.sv), .string (str z.nm)]) W from fun h0 => by
            obtain ⟨sd', e, -, hcz⟩ := at_span HL5.out (k - 1) (by omega)
            obtain rfl : sd = sd' := by injection e
            exact ⟨_, hless h0, fun W h => have q := hcz W h; load_span_at q.1 q.2.1 q.2.2.1 q.2.2.2.1 q.2.2.2.2.1 q.2.2.2.2.2.1 q.2.2.2.2.2.2⟩)
          have HCS := Lib.hid hcs
          clear hcs hless hone
          generalize s[k] = y at *
          go_wp2
          go_loopw [13, 14] (fun v i wr => ∃ r : Nat, v = .int .i64 ((List.count y (l.take r) : Nat) : Int) ∧ i = .int .i64 r ∧ r ≤ j ∧ Below w5.heap.size w5 wr) (fun _ i _ => j - (intOf i).toNat)
          case atStart => exact ⟨0, by simp, rfl, Nat.zero_le _, hbk⟩
          case round =>
            obtain ⟨r, rfl, rfl, hr, hbi⟩ := hrel
            by_cases hrj : r < j
            · have hrl : r < l.length := by rw [HN.out]; exact hrj
              obtain ⟨ad, rfl, -, hca⟩ := at_span HA.out r hrl
              obtain ⟨x0, x1, x2, x3, x4, x5, x6⟩ := hca wr (c5.trans (hbi.mono c5.size))
              obtain ⟨y0, y1, y2, y3, y4, y5, y6⟩ := HCS.out wr hbi
              have hne := fun W => eq_sp W l[r] y
              have hcl : List.count y (l.take r) ≤ 300 := Nat.le_trans List.count_le_length (by rw [List.length_take]; omega)
              have HC1 := Lib.hid (show List.count y (l.take (r + 1)) = List.count y (l.take r) + if decide (l[r] = y) then 1 else 0 by
                rw [List.take_succ_eq_append_getElem hrl, List.count_append, List.count_singleton]
                simp)
              clear hca
              generalize l[r] = x at *
              obtain ⟨D, hD⟩ : ∃ D, decide (x = y) = D := ⟨_, rfl⟩
              rw [hD] at hne HC1
              generalize List.count y (l.take r) = C at *
              clear hD HONE HZ HCS
              have HC2 := Lib.hid (show ∀ r', List.count y (l.take r') = List.count y (l.take r') from fun _ => rfl)
              clear HC2
              obtain ⟨C', hC'⟩ : ∃ C', List.count y (l.take (r + 1)) = C' := ⟨_, rfl⟩
              have HC' := Lib.hid hC'
              rw [hC'] at HC1
              clear hC'
              obtain ⟨xt, xi, xp, xs, xd, xv, xn⟩ := x
              obtain ⟨yt, yi, yp, ys, yd, yv, yn⟩ := y
              simp only at x0 x1 x2 x3 x4 x5 x6 y0 y1 y2 y3 y4 y5 y6 hne
              generalize str xv = XV at x5 hne
              generalize str xn = XN at x6 hne
              generalize str yv = YV at y5 hne
              generalize str yn = YN at y6 hne
              rcases D with _ | _
              · go_wp2
                go_quiet (fail)
                go_wp2
                go_roundw
                case rel => exact ⟨r + 1, by rw [HC'.out, HC1.out]; simp, by go_num, by omega, below_many hbi _⟩
                case measure => simp [intOf]; omega
              · go_wp2
                go_quiet (fail)
                go_wp2
                go_roundw
                case rel => exact ⟨r + 1, by rw [HC'.out, HC1.out]; go_num, by go_num, by omega, below_many hbi _⟩
                case measure => simp [intOf]; omega
            · obtain rfl : r = j := by omega
              have hct : List.count y (l.take r) = 1 := by rw [List.take_of_length_le (by rw [HN.out]; omega)]; exact HONE.out
              rw [hct]
              clear hct
              have hbd : Below wr.heap.size wr wr.drew := (Below.refl _ _).drew
              have NE1 := Lib.hid (fun (W : World) => show (binOp .neq 3 (.int .i64 1) (.int .i64 1)).run Tryz.prog W = .ok (.bool false) W by go_simp)
              by_cases hk0 : k = 0
              · have GT0 := Lib.hid (fun (W : World) => gtr_int W (k : Int) 0 false (by simp; omega))
                clear hk0
                go_wp2
                refine wp_softS (by kernel_rfl) 124 [(89, [13]), (90, [89]), (91, [90]), (92, [12, 91]), (93, [92, 91]), (94, [93, 91]), (95, [8, 94]), (96, [12, 94]), (97, [96, 94]), (98, [95, 97, 94]), (99, [98, 94]), (100, [8, 94]), (101, [12, 94]), (102, [100, 101, 94]), (103, [102, 94]), (104, [99, 103, 94]), (105, [104, 94]), (106, [94, 105, 91]), (107, [91, 106])]
                  [Fact.is (.int .i64 1), Fact.is (.bool false), Fact.is (.bool false), Fact.is (.int .i64 (k : Int)), Fact.is (.bool false), Fact.is (.bool false), Fact.is (undef), Fact.is (undef), Fact.is (undef), Fact.is (undef), Fact.is (undef), Fact.is (undef), Fact.is (undef), Fact.is (undef), Fact.is (undef), Fact.is (undef), Fact.is (undef), Fact.is (.bool false), Fact.is (.bool false)]
                  (by kernel_rfl) rfl rfl ⟨?s0, ?s1, ?s2, ?s3, ?s4, ?s5, ?s6, ?s7, ?s8, ?s9, ?s10, ?s11, ?s12, ?s13, ?s14, ?s15, ?s16, ?s17, ?s18, trivial⟩ ?fin
                case s0 =>
                  intro ρ W hb hc hf hr
                  obtain ⟨r13, -⟩ := hr
                  have e13 : ρ (.tmp 13) = .int .i64 1 := r13
                  clear r13
                  refine under_none rfl ?_
                  exact ⟨e13, Below.refl _ _⟩
                case s1 =>
                  intro ρ W hb hc hf hr
                  obtain ⟨r89, -⟩ := hr
                  have e89 : ρ (.tmp 89) = .int .i64 1 := r89
                  clear r89
                  refine under_none rfl ?_
                  exact soft_bin e89 (hc _) rfl rfl (NE1.out W)
                case s2 =>
                  intro ρ W hb hc hf hr
                  obtain ⟨r90, -⟩ := hr
                  have e90 : ρ (.tmp 90) = .bool false := r90
                  clear r90
                  refine under_none rfl ?_
                  exact ⟨e90, Below.refl _ _⟩
                case s3 =>
                  intro ρ W hb hc hf hr
                  obtain ⟨r12, r91, -⟩ := hr
                  have e12 : ρ (.tmp 12) = .int .i64 (k : Int) := r12
                  clear r12
                  have e91 : ρ (.tmp 91) = .bool false := r91
                  clear r91
                  refine ⟨91, rfl, .inl ⟨e91, ?_⟩⟩
                  exact ⟨e12, Below.refl _ _⟩
                case s4 =>
                  intro ρ W hb hc hf hr
                  obtain ⟨r92, r91, -⟩ := hr
                  have e92 : ρ (.tmp 92) = .int .i64 (k : Int) := r92
                  clear r92
                  have e91 : ρ (.tmp 91) = .bool false := r91
                  clear r91
                  refine ⟨91, rfl, .inl ⟨e91, ?_⟩⟩
                  exact soft_bin e92 (hc _) rfl rfl (GT0.out W)
                case s5 =>
                  intro ρ W hb hc hf hr
                  obtain ⟨r93, r91, -⟩ := hr
                  have e93 : ρ (.tmp 93) = .bool false := r93
                  clear r93
                  have e91 : ρ (.tmp 91) = .bool false := r91
                  clear r91
                  refine ⟨91, rfl, .inl ⟨e91, ?_⟩⟩
                  exact ⟨e93, Below.refl _ _⟩
                case s6 =>
                  intro ρ W hb hc hf hr
                  obtain ⟨r8, r94, -⟩ := hr
                  have e8 : ρ (.tmp 8) = .slice (some sd) m3 cap3 := r8
                  clear r8
                  have e94 : ρ (.tmp 94) = .bool false := r94
                  clear r94
                  exact ⟨94, rfl, .inr (.inl ⟨e94, rfl⟩)⟩
                case s7 =>
                  intro ρ W hb hc hf hr
                  obtain ⟨r12, r94, -⟩ := hr
                  have e12 : ρ (.tmp 12) = .int .i64 (k : Int) := r12
                  clear r12
                  have e94 : ρ (.tmp 94) = .bool false := r94
                  clear r94
                  exact ⟨94, rfl, .inr (.inl ⟨e94, rfl⟩)⟩
                case s8 =>
                  intro ρ W hb hc hf hr
                  obtain ⟨r96, r94, -⟩ := hr
                  have e96 : ρ (.tmp 96) = undef := r96
                  clear r96
                  have e94 : ρ (.tmp 94) = .bool false := r94
                  clear r94
                  exact ⟨94, rfl, .inr (.inl ⟨e94, rfl⟩)⟩
                case s9 =>
                  intro ρ W hb hc hf hr
                  obtain ⟨r95, r97, r94, -⟩ := hr
                  have e95 : ρ (.tmp 95) = undef := r95
                  clear r95
                  have e97 : ρ (.tmp 97) = undef := r97
                  clear r97
                  have e94 : ρ (.tmp 94) = .bool false := r94
                  clear r94
                  exact ⟨94, rfl, .inr (.inl ⟨e94, rfl⟩)⟩
                case s10 =>
                  intro ρ W hb hc hf hr
                  obtain ⟨r98, r94, -⟩ := hr
                  have e98 : ρ (.tmp 98) = undef := r98
                  clear r98
                  have e94 : ρ (.tmp 94) = .bool false := r94
                  clear r94
                  exact ⟨94, rfl, .inr (.inl ⟨e94, rfl⟩)⟩
                case s11 =>
                  intro ρ W hb hc hf hr
                  obtain ⟨r8, r94, -⟩ := hr
                  have e8 : ρ (.tmp 8) = .slice (some sd) m3 cap3 := r8
                  clear r8
                  have e94 : ρ (.tmp 94) = .bool false := r94
                  clear r94
                  exact ⟨94, rfl, .inr (.inl ⟨e94, rfl⟩)⟩
                case s12 =>
                  intro ρ W hb hc hf hr
                  obtain ⟨r12, r94, -⟩ := hr
                  have e12 : ρ (.tmp 12) = .int .i64 (k : Int) := r12
                  clear r12
                  have e94 : ρ (.tmp 94) = .bool false := r94
                  clear r94
                  exact ⟨94, rfl, .inr (.inl ⟨e94, rfl⟩)⟩
                case s13 =>
                  intro ρ W hb hc hf hr
                  obtain ⟨r100, r101, r94, -⟩ := hr
                  have e100 : ρ (.tmp 100) = undef := r100
                  clear r100
                  have e101 : ρ (.tmp 101) = undef := r101
                  clear r101
                  have e94 : ρ (.tmp 94) = .bool false := r94
                  clear r94
                  exact ⟨94, rfl, .inr (.inl ⟨e94, rfl⟩)⟩
                case s14 =>
                  intro ρ W hb hc hf hr
                  obtain ⟨r102, r94, -⟩ := hr
                  have e102 : ρ (.tmp 102) = undef := r102
                  clear r102
                  have e94 : ρ (.tmp 94) = .bool false := r94
                  clear r94
                  exact ⟨94, rfl, .inr (.inl ⟨e94, rfl⟩)⟩
                case s15 =>
                  intro ρ W hb hc hf hr
                  obtain ⟨r99, r103, r94, -⟩ := hr
                  have e99 : ρ (.tmp 99) = undef := r99
                  clear r99
                  have e103 : ρ (.tmp 103) = undef := r103
                  clear r103
                  have e94 : ρ (.tmp 94) = .bool false := r94
                  clear r94
                  exact ⟨94, rfl, .inr (.inl ⟨e94, rfl⟩)⟩
                case s16 =>
                  intro ρ W hb hc hf hr
                  obtain ⟨r104, r94, -⟩ := hr
                  have e104 : ρ (.tmp 104) = undef := r104
                  clear r104
                  have e94 : ρ (.tmp 94) = .bool false := r94
                  clear r94
                  exact ⟨94, rfl, .inr (.inl ⟨e94, rfl⟩)⟩
                case s17 =>
                  intro ρ W hb hc hf hr
                  obtain ⟨r94, r105, r91, -⟩ := hr
                  have e94 : ρ (.tmp 94) = .bool false := r94
                  clear r94
                  have e105 : ρ (.tmp 105) = undef := r105
                  clear r105
                  have e91 : ρ (.tmp 91) = .bool false := r91
                  clear r91
                  refine ⟨91, rfl, .inl ⟨e91, ?_⟩⟩
                  simp [execOp, e94, hc, go_sem, softUpon, Fact.is, Below.refl]
                case s18 =>
                  intro ρ W hb hc hf hr
                  obtain ⟨r91, r106, -⟩ := hr
                  have e91 : ρ (.tmp 91) = .bool false := r91
                  clear r91
                  have e106 : ρ (.tmp 106) = .bool false := r106
                  clear r106
                  refine under_none rfl ?_
                  simp [execOp, e91, e106, go_sem, softUpon, Fact.is, Below.refl]
                case fin =>
                  intro a w1 hb hd hsz hk
                  have ea := act_puts hd hsz rfl hk
                  have k89 : a.tmps.getD 89 undef = .int .i64 1 := hk 89
                  have k90 : a.tmps.getD 90 undef = .bool false := hk 90
                  have k91 : a.tmps.getD 91 undef = .bool false := hk 91
                  have k92 : a.tmps.getD 92 undef = .int .i64 (k : Int) := hk 92
                  have k93 : a.tmps.getD 93 undef = .bool false := hk 93
                  have k94 : a.tmps.getD 94 undef = .bool false := hk 94
                  have k95 : a.tmps.getD 95 undef = undef := hk 95
                  have k96 : a.tmps.getD 96 undef = undef := hk 96
                  have k97 : a.tmps.getD 97 undef = undef := hk 97
                  have k98 : a.tmps.getD 98 undef = undef := hk 98
                  have k99 : a.tmps.getD 99 undef = undef := hk 99
                  have k100 : a.tmps.getD 100 undef = undef := hk 100
                  have k101 : a.tmps.getD 101 undef = undef := hk 101
                  have k102 : a.tmps.getD 102 undef = undef := hk 102
                  have k103 : a.tmps.getD 103 undef = undef := hk 103
                  have k104 : a.tmps.getD 104 undef = undef := hk 104
                  have k105 : a.tmps.getD 105 undef = undef := hk 105
                  have k106 : a.tmps.getD 106 undef = .bool false := hk 106
                  have k107 : a.tmps.getD 107 undef = .bool false := hk 107
                  clear hk hd hsz
                  simp only [List.map_cons, List.map_nil, List.foldl_cons, List.foldl_nil, k89, k90, k91, k92, k93, k94, k95, k96, k97, k98, k99, k100, k101, k102, k103, k104, k105, k106, k107] at ea
                  clear k89 k90 k91 k92 k93 k94 k95 k96 k97 k98 k99 k100 k101 k102 k103 k104 k105 k106 k107
                  simp only [Act.put, List.setIfInBounds_toArray, List.set_cons_succ, List.set_cons_zero] at ea
                  subst ea
                  have dV := hbd.trans (hb.mono (by simp))
                  go_wp2
                  go_roundw
                  case rel => exact ⟨k + 1, by go_num, by omega, hbi.trans (dV.mono hbi.size)⟩
                  case measure => simp [intOf]; omega
              · have GT0 := Lib.hid (fun (W : World) => gtr_int W (k : Int) 0 true (by simp; omega))
                have SUB1 := Lib.hid (fun (W : World) => sub_one W k (by omega) (by omega))
                obtain ⟨z, hzy, hld⟩ := HZ.out (by omega)
                have LZ := Lib.hid (fun (W : World) (h : Below wr.heap.size wr W) => hld W (hbi.trans (h.mono hbi.size)))
                have LY := Lib.hid (fun (W : World) (h : Below wr.heap.size wr W) => have q := HCS.out W (hbi.trans (h.mono hbi.size)); load_span_at q.1 q.2.1 q.2.2.1 q.2.2.2.1 q.2.2.2.2.1 q.2.2.2.2.2.1 q.2.2.2.2.2.2)
                have HLS := Lib.hid (fun (W : World) => show Calls Tryz.prog 24 #[.agg #[.int .i64 z.t, .int .i64 z.i, .int .i64 z.p, .int .i64 z.s, .int .i64 z.d, .string (str z.sv), .string (str z.nm)], .agg #[.int .i64 y.t, .int .i64 y.i, .int .i64 y.p, .int .i64 y.s, .int .i64 y.d, .string (str y.sv), .string (str y.nm)]] W (fun e w' => e = .returned (.bool true) ∧ Below W.heap.size W w') by
                  have := rless_any z.t z.i z.p z.s z.d (str z.sv) (str z.nm) y.t y.i y.p y.s y.d (str y.sv) (str y.nm) W
                  rwa [show lessN z.s z.i y.s y.i = true from hzy] at this)
                clear hk0 hld hzy
                go_wp2
                refine wp_softS (by kernel_rfl) 124 [(89, [13]), (90, [89]), (91, [90]), (92, [12, 91]), (93, [92, 91]), (94, [93, 91]), (95, [8, 94]), (96, [12, 94]), (97, [96, 94]), (98, [95, 97, 94]), (99, [98, 94]), (100, [8, 94]), (101, [12, 94]), (102, [100, 101, 94]), (103, [102, 94]), (104, [99, 103, 94]), (105, [104, 94]), (106, [94, 105, 91]), (107, [91, 106])]
                  [Fact.is (.int .i64 1), Fact.is (.bool false), Fact.is (.bool false), Fact.is (.int .i64 (k : Int)), Fact.is (.bool true), Fact.is (.bool true), Fact.is (.slice (some sd) m3 cap3), Fact.is (.int .i64 (k : Int)), Fact.is (.int .i64 ((k - 1 : Nat) : Int)), Fact.is (.pointer (some (Addr.add sd ((k - 1) * 7)))), Fact.is (.agg #[.int .i64 z.t, .int .i64 z.i, .int .i64 z.p, .int .i64 z.s, .int .i64 z.d, .string (str z.sv), .string (str z.nm)]), Fact.is (.slice (some sd) m3 cap3), Fact.is (.int .i64 (k : Int)), Fact.is (.pointer (some (Addr.add sd (k * 7)))), Fact.is (.agg #[.int .i64 y.t, .int .i64 y.i, .int .i64 y.p, .int .i64 y.s, .int .i64 y.d, .string (str y.sv), .string (str y.nm)]), Fact.is (.bool true), Fact.is (.bool false), Fact.is (.bool false), Fact.is (.bool false)]
                  (by kernel_rfl) rfl rfl ⟨?s0, ?s1, ?s2, ?s3, ?s4, ?s5, ?s6, ?s7, ?s8, ?s9, ?s10, ?s11, ?s12, ?s13, ?s14, ?s15, ?s16, ?s17, ?s18, trivial⟩ ?fin
                case s0 =>
                  intro ρ W hb hc hf hr
                  obtain ⟨r13, -⟩ := hr
                  have e13 : ρ (.tmp 13) = .int .i64 1 := r13
                  clear r13
                  refine under_none rfl ?_
                  exact ⟨e13, Below.refl _ _⟩
                case s1 =>
                  intro ρ W hb hc hf hr
                  obtain ⟨r89, -⟩ := hr
                  have e89 : ρ (.tmp 89) = .int .i64 1 := r89
                  clear r89
                  refine under_none rfl ?_
                  exact soft_bin e89 (hc _) rfl rfl (NE1.out W)
                case s2 =>
                  intro ρ W hb hc hf hr
                  obtain ⟨r90, -⟩ := hr
                  have e90 : ρ (.tmp 90) = .bool false := r90
                  clear r90
                  refine under_none rfl ?_
                  exact ⟨e90, Below.refl _ _⟩
                case s3 =>
                  intro ρ W hb hc hf hr
                  obtain ⟨r12, r91, -⟩ := hr
                  have e12 : ρ (.tmp 12) = .int .i64 (k : Int) := r12
                  clear r12
                  have e91 : ρ (.tmp 91) = .bool false := r91
                  clear r91
                  refine ⟨91, rfl, .inl ⟨e91, ?_⟩⟩
                  exact ⟨e12, Below.refl _ _⟩
                case s4 =>
                  intro ρ W hb hc hf hr
                  obtain ⟨r92, r91, -⟩ := hr
                  have e92 : ρ (.tmp 92) = .int .i64 (k : Int) := r92
                  clear r92
                  have e91 : ρ (.tmp 91) = .bool false := r91
                  clear r91
                  refine ⟨91, rfl, .inl ⟨e91, ?_⟩⟩
                  exact soft_bin e92 (hc _) rfl rfl (GT0.out W)
                case s5 =>
                  intro ρ W hb hc hf hr
                  obtain ⟨r93, r91, -⟩ := hr
                  have e93 : ρ (.tmp 93) = .bool true := r93
                  clear r93
                  have e91 : ρ (.tmp 91) = .bool false := r91
                  clear r91
                  refine ⟨91, rfl, .inl ⟨e91, ?_⟩⟩
                  exact ⟨e93, Below.refl _ _⟩
                case s6 =>
                  intro ρ W hb hc hf hr
                  obtain ⟨r8, r94, -⟩ := hr
                  have e8 : ρ (.tmp 8) = .slice (some sd) m3 cap3 := r8
                  clear r8
                  have e94 : ρ (.tmp 94) = .bool true := r94
                  clear r94
                  refine ⟨94, rfl, .inl ⟨e94, ?_⟩⟩
                  exact ⟨e8, Below.refl _ _⟩
                case s7 =>
                  intro ρ W hb hc hf hr
                  obtain ⟨r12, r94, -⟩ := hr
                  have e12 : ρ (.tmp 12) = .int .i64 (k : Int) := r12
                  clear r12
                  have e94 : ρ (.tmp 94) = .bool true := r94
                  clear r94
                  refine ⟨94, rfl, .inl ⟨e94, ?_⟩⟩
                  exact ⟨e12, Below.refl _ _⟩
                case s8 =>
                  intro ρ W hb hc hf hr
                  obtain ⟨r96, r94, -⟩ := hr
                  have e96 : ρ (.tmp 96) = .int .i64 (k : Int) := r96
                  clear r96
                  have e94 : ρ (.tmp 94) = .bool true := r94
                  clear r94
                  refine ⟨94, rfl, .inl ⟨e94, ?_⟩⟩
                  exact soft_bin e96 (hc _) rfl rfl (SUB1.out W)
                case s9 =>
                  intro ρ W hb hc hf hr
                  obtain ⟨r95, r97, r94, -⟩ := hr
                  have e95 : ρ (.tmp 95) = .slice (some sd) m3 cap3 := r95
                  clear r95
                  have e97 : ρ (.tmp 97) = .int .i64 ((k - 1 : Nat) : Int) := r97
                  clear r97
                  have e94 : ρ (.tmp 94) = .bool true := r94
                  clear r94
                  refine ⟨94, rfl, .inl ⟨e94, ?_⟩⟩
                  exact soft_index7 e95 e97 (by omega) rfl
                case s10 =>
                  intro ρ W hb hc hf hr
                  obtain ⟨r98, r94, -⟩ := hr
                  have e98 : ρ (.tmp 98) = .pointer (some (Addr.add sd ((k - 1) * 7))) := r98
                  clear r98
                  have e94 : ρ (.tmp 94) = .bool true := r94
                  clear r94
                  refine ⟨94, rfl, .inl ⟨e94, ?_⟩⟩
                  exact soft_load e98 (LZ.out W (hbd.trans (hb.mono (by simp)))) rfl
                case s11 =>
                  intro ρ W hb hc hf hr
                  obtain ⟨r8, r94, -⟩ := hr
                  have e8 : ρ (.tmp 8) = .slice (some sd) m3 cap3 := r8
                  clear r8
                  have e94 : ρ (.tmp 94) = .bool true := r94
                  clear r94
                  refine ⟨94, rfl, .inl ⟨e94, ?_⟩⟩
                  exact ⟨e8, Below.refl _ _⟩
                case s12 =>
                  intro ρ W hb hc hf hr
                  obtain ⟨r12, r94, -⟩ := hr
                  have e12 : ρ (.tmp 12) = .int .i64 (k : Int) := r12
                  clear r12
                  have e94 : ρ (.tmp 94) = .bool true := r94
                  clear r94
                  refine ⟨94, rfl, .inl ⟨e94, ?_⟩⟩
                  exact ⟨e12, Below.refl _ _⟩
                case s13 =>
                  intro ρ W hb hc hf hr
                  obtain ⟨r100, r101, r94, -⟩ := hr
                  have e100 : ρ (.tmp 100) = .slice (some sd) m3 cap3 := r100
                  clear r100
                  have e101 : ρ (.tmp 101) = .int .i64 (k : Int) := r101
                  clear r101
                  have e94 : ρ (.tmp 94) = .bool true := r94
                  clear r94
                  refine ⟨94, rfl, .inl ⟨e94, ?_⟩⟩
                  exact soft_index7 e100 e101 (by omega) rfl
                case s14 =>
                  intro ρ W hb hc hf hr
                  obtain ⟨r102, r94, -⟩ := hr
                  have e102 : ρ (.tmp 102) = .pointer (some (Addr.add sd (k * 7))) := r102
                  clear r102
                  have e94 : ρ (.tmp 94) = .bool true := r94
                  clear r94
                  refine ⟨94, rfl, .inl ⟨e94, ?_⟩⟩
                  exact soft_load e102 (LY.out W (hbd.trans (hb.mono (by simp)))) rfl
                case s15 =>
                  intro ρ W hb hc hf hr
                  obtain ⟨r99, r103, r94, -⟩ := hr
                  have e99 : ρ (.tmp 99) = .agg #[.int .i64 z.t, .int .i64 z.i, .int .i64 z.p, .int .i64 z.s, .int .i64 z.d, .string (str z.sv), .string (str z.nm)] := r99
                  clear r99
                  have e103 : ρ (.tmp 103) = .agg #[.int .i64 y.t, .int .i64 y.i, .int .i64 y.p, .int .i64 y.s, .int .i64 y.d, .string (str y.sv), .string (str y.nm)] := r103
                  clear r103
                  have e94 : ρ (.tmp 94) = .bool true := r94
                  clear r94
                  refine ⟨94, rfl, .inl ⟨e94, ?_⟩⟩
                  exact soft_call2 hf e99 e103 (HLS.out W) rfl (by kernel_rfl) below_is
                case s16 =>
                  intro ρ W hb hc hf hr
                  obtain ⟨r104, r94, -⟩ := hr
                  have e104 : ρ (.tmp 104) = .bool true := r104
                  clear r104
                  have e94 : ρ (.tmp 94) = .bool true := r94
                  clear r94
                  refine ⟨94, rfl, .inl ⟨e94, ?_⟩⟩
                  simp [execOp, e104, go_sem, softUpon, Fact.is, Below.refl]
                case s17 =>
                  intro ρ W hb hc hf hr
                  obtain ⟨r94, r105, r91, -⟩ := hr
                  have e94 : ρ (.tmp 94) = .bool true := r94
                  clear r94
                  have e105 : ρ (.tmp 105) = .bool false := r105
                  clear r105
                  have e91 : ρ (.tmp 91) = .bool false := r91
                  clear r91
                  refine ⟨91, rfl, .inl ⟨e91, ?_⟩⟩
                  simp [execOp, e94, e105, go_sem, softUpon, Fact.is, Below.refl]
                case s18 =>
                  intro ρ W hb hc hf hr
                  obtain ⟨r91, r106, -⟩ := hr
                  have e91 : ρ (.tmp 91) = .bool false := r91
                  clear r91
                  have e106 : ρ (.tmp 106) = .bool false := r106
                  clear r106
                  refine under_none rfl ?_
                  simp [execOp, e91, e106, go_sem, softUpon, Fact.is, Below.refl]
                case fin =>
                  intro a w1 hb hd hsz hk
                  have ea := act_puts hd hsz rfl hk
                  have k89 : a.tmps.getD 89 undef = .int .i64 1 := hk 89
                  have k90 : a.tmps.getD 90 undef = .bool false := hk 90
                  have k91 : a.tmps.getD 91 undef = .bool false := hk 91
                  have k92 : a.tmps.getD 92 undef = .int .i64 (k : Int) := hk 92
                  have k93 : a.tmps.getD 93 undef = .bool true := hk 93
                  have k94 : a.tmps.getD 94 undef = .bool true := hk 94
                  have k95 : a.tmps.getD 95 undef = .slice (some sd) m3 cap3 := hk 95
                  have k96 : a.tmps.getD 96 undef = .int .i64 (k : Int) := hk 96
                  have k97 : a.tmps.getD 97 undef = .int .i64 ((k - 1 : Nat) : Int) := hk 97
                  have k98 : a.tmps.getD 98 undef = .pointer (some (Addr.add sd ((k - 1) * 7))) := hk 98
                  have k99 : a.tmps.getD 99 undef = .agg #[.int .i64 z.t, .int .i64 z.i, .int .i64 z.p, .int .i64 z.s, .int .i64 z.d, .string (str z.sv), .string (str z.nm)] := hk 99
                  have k100 : a.tmps.getD 100 undef = .slice (some sd) m3 cap3 := hk 100
                  have k101 : a.tmps.getD 101 undef = .int .i64 (k : Int) := hk 101
                  have k102 : a.tmps.getD 102 undef = .pointer (some (Addr.add sd (k * 7))) := hk 102
                  have k103 : a.tmps.getD 103 undef = .agg #[.int .i64 y.t, .int .i64 y.i, .int .i64 y.p, .int .i64 y.s, .int .i64 y.d, .string (str y.sv), .string (str y.nm)] := hk 103
                  have k104 : a.tmps.getD 104 undef = .bool true := hk 104
                  have k105 : a.tmps.getD 105 undef = .bool false := hk 105
                  have k106 : a.tmps.getD 106 undef = .bool false := hk 106
                  have k107 : a.tmps.getD 107 undef = .bool false := hk 107
                  clear hk hd hsz
                  simp only [List.map_cons, List.map_nil, List.foldl_cons, List.foldl_nil, k89, k90, k91, k92, k93, k94, k95, k96, k97, k98, k99, k100, k101, k102, k103, k104, k105, k106, k107] at ea
                  clear k89 k90 k91 k92 k93 k94 k95 k96 k97 k98 k99 k100 k101 k102 k103 k104 k105 k106 k107
                  simp only [Act.put, List.setIfInBounds_toArray, List.set_cons_succ, List.set_cons_zero] at ea
                  subst ea
                  have dV := hbd.trans (hb.mono (by simp))
                  go_wp2
                  go_roundw
                  case rel => exact ⟨k + 1, by go_num, by omega, hbi.trans (dV.mono hbi.size)⟩
                  case measure => simp [intOf]; omega
        · obtain rfl : k = m3 := by omega
          have c6 := c5.trans (hbk.mono c5.size)
          rcases R with _ | _
          · go_wp2
            go_ret
            exact ⟨rfl, c6⟩
          · obtain ⟨hT, hlen⟩ := HIT.out rfl
            have HTR := Lib.hid (tright_any A3 k cap3 s wr HSL.out (Nat.le_trans hl3 hm3) (HL5.out.below hbk) HF1.out)
            rw [hT] at HTR
            clear HIT hT
            subst hlen
            go_wp2_with fail
            refine HTR.out.mono ?_
            rintro e w7 ⟨rfl, d7⟩
            go_wp2
            go_ret
            exact ⟨rfl, c6.trans (d7.mono c6.size)⟩


set_option maxRecDepth 100000 in
theorem lifted (os : Os) (started : os.Started) (H : Type) (enc : TypeId × Value → H) :
    ReturnsInHanded {} Tryz.checked os 5 .any (fun w args => (Rows.traceSortedSpec.pre enc Tryz.prog Tryz.f5 [] false w args ∧ laidMetH Tryz.prog laidHere w) ∧ sizedMet enc Tryz.prog Tryz.f5 (OpenSpec.ofChange Rows.traceSortedSpec) false w args) (Rows.traceSortedSpec.post enc Tryz.prog Tryz.f5 false true false false) := by
  refine returnsInHanded_of_change_and (C := Tryz.checked) (X := fun w _ => laidMetH Tryz.prog laidHere w) (fun _ _ _ hh h => h.of_heap hh) own started (by kernel_rfl) Tryz.func5
    (ChangeSpec.witness_at (enc := enc) (C := Tryz.checked) (os := os) (X := fun w _ => laidMetH Tryz.prog laidHere w) false (laidWorld os) #[.slice none 0 0, .int .u8 0] 8 rfl (by kernel_rfl) (by kernel_rfl) (by kernel_rfl) (by kernel_rfl) (by kernel_rfl) (laidWorld_met os _)) ?_
  intro W base args ds gs before hval0 hW _ _ hL _
  have hval : ∀ (j : Nat) t v, Tryz.f5.params[j]? = some t → args[j]? = some v → Value.okWide Tryz.prog W .any base t v := hval0
  have hfin := fun W' => law_post (enc := enc) (P := Tryz.prog) (f := Tryz.f5) (s := Rows.traceSortedSpec) (tb := 4) (W := W) (W' := W') (args := args) (ds := ds) (gs := gs) (before := before) laidOut rfl (by kernel_rfl) Tryz.underlying4 (by kernel_rfl) (fun xs h => by rw [Tryz.params5] at h; match xs, h with | [_, _], _ => rfl) hW
  have hlt : ∀ x ∈ before, x.block < W.heap.size := fun x hx => hW.lt x hx
  obtain ⟨p, q, hA0, hV, rfl, hfz, hnd⟩ := hW
  have hA : DataW.TrodAll enc Tryz.prog W 0 (fun _ => true) true Tryz.f5.params.toList args.toList ds p := hA0
  rw [Tryz.params5] at hA hval
  obtain ⟨v0, vs0, d0, ds0, p0, q0, hargs, rfl, rfl, h0, r0⟩ := trodAll_cons hA
  obtain ⟨v1, vs1, d1, ds1, p1, q1, rfl, rfl, rfl, h1, r1⟩ := trodAll_cons r0
  obtain ⟨rfl, rfl, rfl⟩ := trodAll_nil r1
  obtain rfl : args = #[v0, v1] := by cases args; simp_all
  obtain ⟨A0, cap0, l0, rfl, hl0, hm0, hB0, hS0⟩ := open_spans (hval 0 22 v0 rfl rfl) h0 (fun x hx => hlt x (by simp [hx]))
  obtain ⟨a1, rfl, rfl, rfl, w1⟩ := open_int Tryz.underlying5 (hval 1 5 v1 rfl rfl) h1
  refine (walk W (of_laid hL) A0 cap0 l0 hl0 hm0 hB0 hS0 a1 (bounds_u8 w1)).mono fun e W' ⟨he, hg⟩ => ?_
  subst he
  exact ⟨_, rfl, hfin W' hg⟩

theorem proved : Rows.TraceSortedSaid :=
  OpenClaim.holds_of_wide 5 Tryz.f5 rfl rfl rfl rfl rfl rfl rfl ⟨rfl, rfl, rfl, rfl, rfl⟩ rfl rfl rfl rfl rfl (by kernel_rfl) Tryz.func5 (by kernel_rfl)
    (of_decide_eq_true (by kernel_rfl)) (by unfold Func.isWrapper; first | (rw [if_pos (by decide +kernel)]; kernel_rfl) | (rw [if_neg (by decide +kernel)]; exact ⟨rfl, rfl⟩))
    (fun os started H enc _ => lifted os started H enc)

set_option maxRecDepth 100000 in
theorem card : Rows.TraceSortedCardSaid :=
  Claim7.holds_tied_plain_at .later [] laidKindsHere true _ true
    proved (fun _ h => by cases h) (by kernel_rfl) (fun _ h => by cases h) traceSorted_row_tie rfl ⟨rfl, rfl⟩ (by kernel_rfl) rfl
    (fun f fn hf hfn => by
      obtain rfl : f = 5 := Option.some.inj ((show Tryz.prog.funcNamed "turntable/turntablelaw05.TraceSorted" = some 5 by kernel_rfl).symm.trans hf) |>.symm
      obtain rfl : fn = Tryz.f5 := (Option.some.inj (Tryz.func5.symm.trans hfn)).symm
      exact ⟨by kernel_rfl, fun j t ht => by
        rw [Tryz.params5] at ht
        have hm : t ∈ [22, 5] := by simpa using Array.mem_of_getElem? ht
        have hall : ([22, 5].all fun u => !Tryz.prog.wantsStandIn u) = true := by kernel_rfl
        exact (show Tryz.prog.wantsStandIn t = false by simpa using List.all_eq_true.1 hall t hm)⟩)
    (by kernel_rfl)
#print axioms card
end Go.Proofs.YtmmkmhphnhanfaaGreatDoor.traceSorted
