/-
  turntableref05: what Right answers, of any spans. Nothing is assumed but that the spans lie in memory.
-/
import Derived.Test.YthcchfhkeghkhaaSoftA
import Derived.Test.YthcchfhkeghkhaaRef3
import Derived.Test.YthcchfhkeghkhaaBatC

namespace Go.Proofs.Ythcchfhkeghkhaa
open Go.RowKit
set_option maxRecDepth 100000

theorem ids_step {l : List Plain.Sp} {k : Nat} (hk : k < l.length) (h : ((l.take k).map Plain.Sp.i).Nodup) (h2 : ∀ y ∈ l.take k, y.i ≠ l[k].i) : ((l.take (k + 1)).map Plain.Sp.i).Nodup := by
  rw [List.take_succ_eq_append_getElem hk, List.map_append, List.nodup_append]
  refine ⟨h, by simp, fun a ha b hb => ?_⟩
  obtain ⟨y, hy, rfl⟩ := List.mem_map.1 ha
  simp only [List.map_cons, List.map_nil, List.mem_singleton] at hb
  rw [hb]
  exact h2 y hy
theorem bad_id {l : List Plain.Sp} {r k : Nat} (hr : r < k) (hk : k < l.length) (h : (l[r]'(by omega)).i = l[k].i) : Plain.isT l = false := by
  rw [Bool.eq_false_iff]
  intro h1
  have h2 := ((Plain.isT_iff l).1 h1).1.2.2.2.2
  rw [List.nodup_iff_pairwise_ne, List.pairwise_map, List.pairwise_iff_getElem] at h2
  exact h2 r k (by omega) hk hr h
theorem good_end {l : List Plain.Sp} (h : Good l l.length) (h1 : 1 ≤ l.length) (h2 : l.length ≤ 64) (h3 : (l.map Plain.Sp.i).Nodup) : Plain.isT l = true := by
  rw [good_all h h1 h2]
  exact decide_eq_true h3

set_option maxHeartbeats 8000000 in
theorem rtright_any (A : Option Addr) (n cap : Nat) (l : List Plain.Sp) (w : World) (hn : l.length = n) (hA : Lies w A (flat l)) (hS : Fine l) :
    Calls Try.prog 25 #[.slice A n cap] w fun e w' => e = .returned (.bool (Plain.isT l)) ∧ Below w.heap.size w w' := by
  by_cases h1 : n < 1
  · rw [Plain.isT_empty (by omega)]
    clear hA hS hn
    go_enter Try.func25, Try.ntmps25
    go_wp2
    go_ret
    exact ⟨rfl, Below.refl _ _⟩
  by_cases h2 : 64 < n
  · rw [Plain.isT_long (by omega)]
    clear hA hS hn
    go_enter Try.func25, Try.ntmps25
    go_wp2
    go_ret
    exact ⟨rfl, Below.refl _ _⟩
  have h0l : 0 < l.length := by omega
  obtain ⟨ad, rfl, -, hc0⟩ := at_span hA 0 h0l
  have HN := Lib.hid hn
  have HA := Lib.hid hA
  have HS := Lib.hid hS
  have HC0 := Lib.hid (fun (u : World) (h : Below w.heap.size w u) => (hc0 u h).1)
  have HBT := Lib.hid (fun (k : Nat) (hk : k < l.length) (h : l[k].t ≠ l[0].t) => bad_trace hk (by rw [head_at h0l]; exact h))
  have HST := Lib.hid (fun (k : Nat) (h : Good l k) (hk : k < l.length) (hr : l[k].right = true) (ht : l[k].t = l[0].t) (hl : ∀ j, j + 1 = k → (hj : j < l.length) → Plain.lt l[j] l[k] = true) => good_step h hk hr (by rw [head_at h0l]; exact ht) hl)
  generalize l[0].t = zt at *
  clear hn hA hS hc0 h0l
  go_enter Try.func25, Try.ntmps25
  go_wp2
  go_loopw [3] (fun i wr => ∃ k : Nat, i = .int .i64 k ∧ k ≤ n ∧ Good l k ∧ ((l.take k).map Plain.Sp.i).Nodup ∧ Below w.heap.size w wr) (fun i _ => n - (intOf i).toNat)
  case atStart => exact ⟨0, rfl, Nat.zero_le _, good_zero l, by simp, Below.refl _ _⟩
  case round =>
    obtain ⟨k, rfl, hk, hgood, hnd, hbr⟩ := hrel
    have HG := Lib.hid hgood
    have HND := Lib.hid hnd
    clear hgood hnd
    by_cases hlt : k < n
    · have hkl : k < l.length := by rw [HN.out]; exact hlt
      obtain ⟨ad', had, -, hc⟩ := at_span HA.out k hkl
      obtain rfl : ad = ad' := by injection had
      obtain ⟨hxv, hxn⟩ := HS.out l[k] (List.getElem_mem hkl)
      rw [← str_size] at hxv hxn
      have HPV := Lib.hid (show 0 < k → ∃ y : Plain.Sp, (∀ j, j + 1 = k → ∀ hj : j < l.length, l[j] = y) ∧ (∀ u, Below w.heap.size w u → (Instr.loadAt 45 (.pointer (some (Addr.add ad ((k - 1) * 7))))).run Try.prog u = .ok (.agg #[.int .i64 y.t, .int .i64 y.i, .int .i64 y.p, .int .i64 y.s, .int .i64 y.d, .string (str y.sv), .string (str y.nm)]) u) ∧ (Plain.lt y l[k] = false → Plain.isT l = false) from fun h0 => by
        obtain ⟨j, rfl⟩ : ∃ j, k = j + 1 := ⟨k - 1, by omega⟩
        obtain ⟨ad2, had2, -, hcj⟩ := at_span HA.out j (by omega)
        obtain rfl : ad = ad2 := by injection had2
        refine ⟨l[j], (fun j' e hj => (by have e' : j' = j := (by omega); subst e'; rfl)), fun u hu => ?_, fun h => bad_order hkl h⟩
        obtain ⟨y0, y1, y2, y3, y4, y5, y6⟩ := hcj u hu
        exact load_span_at y0 y1 y2 y3 y4 y5 y6)
      have HIS := Lib.hid (ids_step hkl HND.out)
      have HBI := Lib.hid (fun (r : Nat) (hr : r < k) (hrl : r < l.length) (h : l[r].i = l[k].i) => bad_id hr hkl h)
      have HBT1 := Lib.hid (HBT.out k hkl)
      have HST1 := Lib.hid (HST.out k HG.out hkl)
      have HBR := Lib.hid (bad_right hkl)
      have HR0 := Lib.hid (sp_right l[k])
      have HCX := Lib.hid hc
      clear hc had
      have HXK := Lib.hid (show ∃ x, l[k] = x from ⟨_, rfl⟩)
      obtain ⟨x, hx⟩ := HXK.out
      rw [hx] at hxv hxn HBR HR0
      simp only [hx] at HPV HIS HBI HBT1 HST1 HCX
      clear HXK hx
      have hbd : Below wr.heap.size wr wr.drew := (Below.refl _ _).drew
      have LX := Lib.hid (fun (W : World) (h : Below wr.heap.size wr W) => have q := HCX.out W (hbr.trans (h.mono hbr.size)); load_span_at q.1 q.2.1 q.2.2.1 q.2.2.2.1 q.2.2.2.2.1 q.2.2.2.2.2.1 q.2.2.2.2.2.2)
      have LXT := Lib.hid (fun (W : World) (h : Below wr.heap.size wr W) => load_num_at (HCX.out W (hbr.trans (h.mono hbr.size))).1)
      have LZT := Lib.hid (fun (W : World) (h : Below wr.heap.size wr W) => load_num_at (HC0.out W (hbr.trans (h.mono hbr.size))))
      obtain ⟨R, hRR⟩ : ∃ R, x.right = R := ⟨_, rfl⟩
      rw [hRR] at HBR HR0
      simp only [hRR] at HST1
      have HR := Lib.hid (fun (W : World) => rright_any x.t x.i x.p x.s x.d (str x.sv) (str x.nm) W R hxv hxn HR0.out)
      clear hRR hxv hxn
      rcases R with _ | _
      · have HF := Lib.hid (HBR.out rfl)
        go_wp2
        refine wp_softS (by kernel_rfl) 70 [(19, [0]), (20, [3]), (21, [19, 20]), (22, [21]), (23, [22]), (24, [23]), (25, [24]), (26, [0, 25]), (27, [3, 25]), (28, [26, 27, 25]), (29, [28, 25]), (30, [29, 25]), (31, [0, 25]), (32, [31, 25]), (33, [32, 25]), (34, [33, 25]), (35, [30, 34, 25]), (36, [25, 35]), (37, [36]), (38, [3, 37]), (39, [38, 37]), (40, [39, 37]), (41, [0, 40]), (42, [3, 40]), (43, [42, 40]), (44, [41, 43, 40]), (45, [44, 40]), (46, [0, 40]), (47, [3, 40]), (48, [46, 47, 40]), (49, [48, 40]), (50, [45, 49, 40]), (51, [50, 40]), (52, [40, 51, 37]), (53, [37, 52])]
          [Fact.is (.slice (some ad) n cap), Fact.is (.int .i64 (k : Int)), Fact.is (.pointer (some (Addr.add ad (k * 7)))), Fact.is (.agg #[.int .i64 x.t, .int .i64 x.i, .int .i64 x.p, .int .i64 x.s, .int .i64 x.d, .string (str x.sv), .string (str x.nm)]), Fact.is (.bool false), Fact.is (.bool true), Fact.is (.bool true), Fact.is (undef), Fact.is (undef), Fact.is (undef), Fact.is (undef), Fact.is (undef), Fact.is (undef), Fact.is (undef), Fact.is (undef), Fact.is (undef), Fact.is (undef), Fact.is (.bool true), Fact.is (.bool true), Fact.is (undef), Fact.is (undef), Fact.is (undef), Fact.is (undef), Fact.is (undef), Fact.is (undef), Fact.is (undef), Fact.is (undef), Fact.is (undef), Fact.is (undef), Fact.is (undef), Fact.is (undef), Fact.is (undef), Fact.is (undef), Fact.is (undef), Fact.is (.bool true)]
          (by kernel_rfl) rfl rfl ⟨?s0, ?s1, ?s2, ?s3, ?s4, ?s5, ?s6, ?s7, ?s8, ?s9, ?s10, ?s11, ?s12, ?s13, ?s14, ?s15, ?s16, ?s17, ?s18, ?s19, ?s20, ?s21, ?s22, ?s23, ?s24, ?s25, ?s26, ?s27, ?s28, ?s29, ?s30, ?s31, ?s32, ?s33, ?s34, trivial⟩ ?fin
        case s0 =>
          intro ρ W hb hc hf hr
          obtain ⟨r0, -⟩ := hr
          have e0 : ρ (.tmp 0) = .slice (some ad) n cap := r0
          clear r0
          refine under_none rfl ?_
          exact ⟨e0, Below.refl _ _⟩
        case s1 =>
          intro ρ W hb hc hf hr
          obtain ⟨r3, -⟩ := hr
          have e3 : ρ (.tmp 3) = .int .i64 (k : Int) := r3
          clear r3
          refine under_none rfl ?_
          exact ⟨e3, Below.refl _ _⟩
        case s2 =>
          intro ρ W hb hc hf hr
          obtain ⟨r19, r20, -⟩ := hr
          have e19 : ρ (.tmp 19) = .slice (some ad) n cap := r19
          clear r19
          have e20 : ρ (.tmp 20) = .int .i64 (k : Int) := r20
          clear r20
          refine under_none rfl ?_
          exact soft_index7 e19 e20 (by omega) rfl
        case s3 =>
          intro ρ W hb hc hf hr
          obtain ⟨r21, -⟩ := hr
          have e21 : ρ (.tmp 21) = .pointer (some (Addr.add ad (k * 7))) := r21
          clear r21
          refine under_none rfl ?_
          exact soft_load e21 (LX.out W (hbd.trans (hb.mono (by simp)))) rfl
        case s4 =>
          intro ρ W hb hc hf hr
          obtain ⟨r22, -⟩ := hr
          have e22 : ρ (.tmp 22) = .agg #[.int .i64 x.t, .int .i64 x.i, .int .i64 x.p, .int .i64 x.s, .int .i64 x.d, .string (str x.sv), .string (str x.nm)] := r22
          clear r22
          refine under_none rfl ?_
          exact soft_call1 hf e22 (HR.out W) rfl (by kernel_rfl) below_is
        case s5 =>
          intro ρ W hb hc hf hr
          obtain ⟨r23, -⟩ := hr
          have e23 : ρ (.tmp 23) = .bool false := r23
          clear r23
          refine under_none rfl ?_
          simp [execOp, e23, go_sem, softUpon, Fact.is, Below.refl]
        case s6 =>
          intro ρ W hb hc hf hr
          obtain ⟨r24, -⟩ := hr
          have e24 : ρ (.tmp 24) = .bool true := r24
          clear r24
          refine under_none rfl ?_
          exact ⟨e24, Below.refl _ _⟩
        case s7 =>
          intro ρ W hb hc hf hr
          obtain ⟨r0, r25, -⟩ := hr
          have e0 : ρ (.tmp 0) = .slice (some ad) n cap := r0
          clear r0
          have e25 : ρ (.tmp 25) = .bool true := r25
          clear r25
          exact ⟨25, rfl, .inr (.inl ⟨e25, rfl⟩)⟩
        case s8 =>
          intro ρ W hb hc hf hr
          obtain ⟨r3, r25, -⟩ := hr
          have e3 : ρ (.tmp 3) = .int .i64 (k : Int) := r3
          clear r3
          have e25 : ρ (.tmp 25) = .bool true := r25
          clear r25
          exact ⟨25, rfl, .inr (.inl ⟨e25, rfl⟩)⟩
        case s9 =>
          intro ρ W hb hc hf hr
          obtain ⟨r26, r27, r25, -⟩ := hr
          have e26 : ρ (.tmp 26) = undef := r26
          clear r26
          have e27 : ρ (.tmp 27) = undef := r27
          clear r27
          have e25 : ρ (.tmp 25) = .bool true := r25
          clear r25
          exact ⟨25, rfl, .inr (.inl ⟨e25, rfl⟩)⟩
        case s10 =>
          intro ρ W hb hc hf hr
          obtain ⟨r28, r25, -⟩ := hr
          have e28 : ρ (.tmp 28) = undef := r28
          clear r28
          have e25 : ρ (.tmp 25) = .bool true := r25
          clear r25
          exact ⟨25, rfl, .inr (.inl ⟨e25, rfl⟩)⟩
        case s11 =>
          intro ρ W hb hc hf hr
          obtain ⟨r29, r25, -⟩ := hr
          have e29 : ρ (.tmp 29) = undef := r29
          clear r29
          have e25 : ρ (.tmp 25) = .bool true := r25
          clear r25
          exact ⟨25, rfl, .inr (.inl ⟨e25, rfl⟩)⟩
        case s12 =>
          intro ρ W hb hc hf hr
          obtain ⟨r0, r25, -⟩ := hr
          have e0 : ρ (.tmp 0) = .slice (some ad) n cap := r0
          clear r0
          have e25 : ρ (.tmp 25) = .bool true := r25
          clear r25
          exact ⟨25, rfl, .inr (.inl ⟨e25, rfl⟩)⟩
        case s13 =>
          intro ρ W hb hc hf hr
          obtain ⟨r31, r25, -⟩ := hr
          have e31 : ρ (.tmp 31) = undef := r31
          clear r31
          have e25 : ρ (.tmp 25) = .bool true := r25
          clear r25
          exact ⟨25, rfl, .inr (.inl ⟨e25, rfl⟩)⟩
        case s14 =>
          intro ρ W hb hc hf hr
          obtain ⟨r32, r25, -⟩ := hr
          have e32 : ρ (.tmp 32) = undef := r32
          clear r32
          have e25 : ρ (.tmp 25) = .bool true := r25
          clear r25
          exact ⟨25, rfl, .inr (.inl ⟨e25, rfl⟩)⟩
        case s15 =>
          intro ρ W hb hc hf hr
          obtain ⟨r33, r25, -⟩ := hr
          have e33 : ρ (.tmp 33) = undef := r33
          clear r33
          have e25 : ρ (.tmp 25) = .bool true := r25
          clear r25
          exact ⟨25, rfl, .inr (.inl ⟨e25, rfl⟩)⟩
        case s16 =>
          intro ρ W hb hc hf hr
          obtain ⟨r30, r34, r25, -⟩ := hr
          have e30 : ρ (.tmp 30) = undef := r30
          clear r30
          have e34 : ρ (.tmp 34) = undef := r34
          clear r34
          have e25 : ρ (.tmp 25) = .bool true := r25
          clear r25
          exact ⟨25, rfl, .inr (.inl ⟨e25, rfl⟩)⟩
        case s17 =>
          intro ρ W hb hc hf hr
          obtain ⟨r25, r35, -⟩ := hr
          have e25 : ρ (.tmp 25) = .bool true := r25
          clear r25
          have e35 : ρ (.tmp 35) = undef := r35
          clear r35
          refine under_none rfl ?_
          simp [execOp, e25, hc, go_sem, softUpon, Fact.is, Below.refl]
        case s18 =>
          intro ρ W hb hc hf hr
          obtain ⟨r36, -⟩ := hr
          have e36 : ρ (.tmp 36) = .bool true := r36
          clear r36
          refine under_none rfl ?_
          exact ⟨e36, Below.refl _ _⟩
        case s19 =>
          intro ρ W hb hc hf hr
          obtain ⟨r3, r37, -⟩ := hr
          have e3 : ρ (.tmp 3) = .int .i64 (k : Int) := r3
          clear r3
          have e37 : ρ (.tmp 37) = .bool true := r37
          clear r37
          exact ⟨37, rfl, .inr (.inl ⟨e37, rfl⟩)⟩
        case s20 =>
          intro ρ W hb hc hf hr
          obtain ⟨r38, r37, -⟩ := hr
          have e38 : ρ (.tmp 38) = undef := r38
          clear r38
          have e37 : ρ (.tmp 37) = .bool true := r37
          clear r37
          exact ⟨37, rfl, .inr (.inl ⟨e37, rfl⟩)⟩
        case s21 =>
          intro ρ W hb hc hf hr
          obtain ⟨r39, r37, -⟩ := hr
          have e39 : ρ (.tmp 39) = undef := r39
          clear r39
          have e37 : ρ (.tmp 37) = .bool true := r37
          clear r37
          exact ⟨37, rfl, .inr (.inl ⟨e37, rfl⟩)⟩
        case s22 =>
          intro ρ W hb hc hf hr
          obtain ⟨r0, r40, -⟩ := hr
          have e0 : ρ (.tmp 0) = .slice (some ad) n cap := r0
          clear r0
          have e40 : ρ (.tmp 40) = undef := r40
          clear r40
          exact ⟨40, rfl, .inr (.inr ⟨e40, rfl⟩)⟩
        case s23 =>
          intro ρ W hb hc hf hr
          obtain ⟨r3, r40, -⟩ := hr
          have e3 : ρ (.tmp 3) = .int .i64 (k : Int) := r3
          clear r3
          have e40 : ρ (.tmp 40) = undef := r40
          clear r40
          exact ⟨40, rfl, .inr (.inr ⟨e40, rfl⟩)⟩
        case s24 =>
          intro ρ W hb hc hf hr
          obtain ⟨r42, r40, -⟩ := hr
          have e42 : ρ (.tmp 42) = undef := r42
          clear r42
          have e40 : ρ (.tmp 40) = undef := r40
          clear r40
          exact ⟨40, rfl, .inr (.inr ⟨e40, rfl⟩)⟩
        case s25 =>
          intro ρ W hb hc hf hr
          obtain ⟨r41, r43, r40, -⟩ := hr
          have e41 : ρ (.tmp 41) = undef := r41
          clear r41
          have e43 : ρ (.tmp 43) = undef := r43
          clear r43
          have e40 : ρ (.tmp 40) = undef := r40
          clear r40
          exact ⟨40, rfl, .inr (.inr ⟨e40, rfl⟩)⟩
        case s26 =>
          intro ρ W hb hc hf hr
          obtain ⟨r44, r40, -⟩ := hr
          have e44 : ρ (.tmp 44) = undef := r44
          clear r44
          have e40 : ρ (.tmp 40) = undef := r40
          clear r40
          exact ⟨40, rfl, .inr (.inr ⟨e40, rfl⟩)⟩
        case s27 =>
          intro ρ W hb hc hf hr
          obtain ⟨r0, r40, -⟩ := hr
          have e0 : ρ (.tmp 0) = .slice (some ad) n cap := r0
          clear r0
          have e40 : ρ (.tmp 40) = undef := r40
          clear r40
          exact ⟨40, rfl, .inr (.inr ⟨e40, rfl⟩)⟩
        case s28 =>
          intro ρ W hb hc hf hr
          obtain ⟨r3, r40, -⟩ := hr
          have e3 : ρ (.tmp 3) = .int .i64 (k : Int) := r3
          clear r3
          have e40 : ρ (.tmp 40) = undef := r40
          clear r40
          exact ⟨40, rfl, .inr (.inr ⟨e40, rfl⟩)⟩
        case s29 =>
          intro ρ W hb hc hf hr
          obtain ⟨r46, r47, r40, -⟩ := hr
          have e46 : ρ (.tmp 46) = undef := r46
          clear r46
          have e47 : ρ (.tmp 47) = undef := r47
          clear r47
          have e40 : ρ (.tmp 40) = undef := r40
          clear r40
          exact ⟨40, rfl, .inr (.inr ⟨e40, rfl⟩)⟩
        case s30 =>
          intro ρ W hb hc hf hr
          obtain ⟨r48, r40, -⟩ := hr
          have e48 : ρ (.tmp 48) = undef := r48
          clear r48
          have e40 : ρ (.tmp 40) = undef := r40
          clear r40
          exact ⟨40, rfl, .inr (.inr ⟨e40, rfl⟩)⟩
        case s31 =>
          intro ρ W hb hc hf hr
          obtain ⟨r45, r49, r40, -⟩ := hr
          have e45 : ρ (.tmp 45) = undef := r45
          clear r45
          have e49 : ρ (.tmp 49) = undef := r49
          clear r49
          have e40 : ρ (.tmp 40) = undef := r40
          clear r40
          exact ⟨40, rfl, .inr (.inr ⟨e40, rfl⟩)⟩
        case s32 =>
          intro ρ W hb hc hf hr
          obtain ⟨r50, r40, -⟩ := hr
          have e50 : ρ (.tmp 50) = undef := r50
          clear r50
          have e40 : ρ (.tmp 40) = undef := r40
          clear r40
          exact ⟨40, rfl, .inr (.inr ⟨e40, rfl⟩)⟩
        case s33 =>
          intro ρ W hb hc hf hr
          obtain ⟨r40, r51, r37, -⟩ := hr
          have e40 : ρ (.tmp 40) = undef := r40
          clear r40
          have e51 : ρ (.tmp 51) = undef := r51
          clear r51
          have e37 : ρ (.tmp 37) = .bool true := r37
          clear r37
          exact ⟨37, rfl, .inr (.inl ⟨e37, rfl⟩)⟩
        case s34 =>
          intro ρ W hb hc hf hr
          obtain ⟨r37, r52, -⟩ := hr
          have e37 : ρ (.tmp 37) = .bool true := r37
          clear r37
          have e52 : ρ (.tmp 52) = undef := r52
          clear r52
          refine under_none rfl ?_
          simp [execOp, e37, hc, go_sem, softUpon, Fact.is, Below.refl]
        case fin =>
          intro a w1 hb hd hsz hk
          have ea := act_puts hd hsz rfl hk
          have k19 : a.tmps.getD 19 undef = .slice (some ad) n cap := hk 19
          have k20 : a.tmps.getD 20 undef = .int .i64 (k : Int) := hk 20
          have k21 : a.tmps.getD 21 undef = .pointer (some (Addr.add ad (k * 7))) := hk 21
          have k22 : a.tmps.getD 22 undef = .agg #[.int .i64 x.t, .int .i64 x.i, .int .i64 x.p, .int .i64 x.s, .int .i64 x.d, .string (str x.sv), .string (str x.nm)] := hk 22
          have k23 : a.tmps.getD 23 undef = .bool false := hk 23
          have k24 : a.tmps.getD 24 undef = .bool true := hk 24
          have k25 : a.tmps.getD 25 undef = .bool true := hk 25
          have k26 : a.tmps.getD 26 undef = undef := hk 26
          have k27 : a.tmps.getD 27 undef = undef := hk 27
          have k28 : a.tmps.getD 28 undef = undef := hk 28
          have k29 : a.tmps.getD 29 undef = undef := hk 29
          have k30 : a.tmps.getD 30 undef = undef := hk 30
          have k31 : a.tmps.getD 31 undef = undef := hk 31
          have k32 : a.tmps.getD 32 undef = undef := hk 32
          have k33 : a.tmps.getD 33 undef = undef := hk 33
          have k34 : a.tmps.getD 34 undef = undef := hk 34
          have k35 : a.tmps.getD 35 undef = undef := hk 35
          have k36 : a.tmps.getD 36 undef = .bool true := hk 36
          have k37 : a.tmps.getD 37 undef = .bool true := hk 37
          have k38 : a.tmps.getD 38 undef = undef := hk 38
          have k39 : a.tmps.getD 39 undef = undef := hk 39
          have k40 : a.tmps.getD 40 undef = undef := hk 40
          have k41 : a.tmps.getD 41 undef = undef := hk 41
          have k42 : a.tmps.getD 42 undef = undef := hk 42
          have k43 : a.tmps.getD 43 undef = undef := hk 43
          have k44 : a.tmps.getD 44 undef = undef := hk 44
          have k45 : a.tmps.getD 45 undef = undef := hk 45
          have k46 : a.tmps.getD 46 undef = undef := hk 46
          have k47 : a.tmps.getD 47 undef = undef := hk 47
          have k48 : a.tmps.getD 48 undef = undef := hk 48
          have k49 : a.tmps.getD 49 undef = undef := hk 49
          have k50 : a.tmps.getD 50 undef = undef := hk 50
          have k51 : a.tmps.getD 51 undef = undef := hk 51
          have k52 : a.tmps.getD 52 undef = undef := hk 52
          have k53 : a.tmps.getD 53 undef = .bool true := hk 53
          clear hk hd hsz
          simp only [List.map_cons, List.map_nil, List.foldl_cons, List.foldl_nil, k19, k20, k21, k22, k23, k24, k25, k26, k27, k28, k29, k30, k31, k32, k33, k34, k35, k36, k37, k38, k39, k40, k41, k42, k43, k44, k45, k46, k47, k48, k49, k50, k51, k52, k53] at ea
          clear k19 k20 k21 k22 k23 k24 k25 k26 k27 k28 k29 k30 k31 k32 k33 k34 k35 k36 k37 k38 k39 k40 k41 k42 k43 k44 k45 k46 k47 k48 k49 k50 k51 k52 k53
          simp only [Act.put, List.setIfInBounds_toArray, List.set_cons_succ, List.set_cons_zero] at ea
          subst ea
          go_wp2
          go_ret
          exact ⟨by rw [HF.out]; rfl, hbr.trans ((hbd.trans (hb.mono (by simp))).mono hbr.size)⟩
      by_cases htz : x.t = zt
      rotate_left
      · have HF := Lib.hid (HBT1.out htz)
        have NET := Lib.hid (fun (W : World) => neq_i64 W x.t zt true (by simp [htz]))
        clear htz
        go_wp2
        refine wp_softS (by kernel_rfl) 70 [(19, [0]), (20, [3]), (21, [19, 20]), (22, [21]), (23, [22]), (24, [23]), (25, [24]), (26, [0, 25]), (27, [3, 25]), (28, [26, 27, 25]), (29, [28, 25]), (30, [29, 25]), (31, [0, 25]), (32, [31, 25]), (33, [32, 25]), (34, [33, 25]), (35, [30, 34, 25]), (36, [25, 35]), (37, [36]), (38, [3, 37]), (39, [38, 37]), (40, [39, 37]), (41, [0, 40]), (42, [3, 40]), (43, [42, 40]), (44, [41, 43, 40]), (45, [44, 40]), (46, [0, 40]), (47, [3, 40]), (48, [46, 47, 40]), (49, [48, 40]), (50, [45, 49, 40]), (51, [50, 40]), (52, [40, 51, 37]), (53, [37, 52])]
          [Fact.is (.slice (some ad) n cap), Fact.is (.int .i64 (k : Int)), Fact.is (.pointer (some (Addr.add ad (k * 7)))), Fact.is (.agg #[.int .i64 x.t, .int .i64 x.i, .int .i64 x.p, .int .i64 x.s, .int .i64 x.d, .string (str x.sv), .string (str x.nm)]), Fact.is (.bool true), Fact.is (.bool false), Fact.is (.bool false), Fact.is (.slice (some ad) n cap), Fact.is (.int .i64 (k : Int)), Fact.is (.pointer (some (Addr.add ad (k * 7)))), Fact.is (.pointer (some (Addr.add ad (k * 7)))), Fact.is (.int .i64 x.t), Fact.is (.slice (some ad) n cap), Fact.is (.pointer (some (Addr.add ad (0 * 7)))), Fact.is (.pointer (some (Addr.add ad (0 * 7)))), Fact.is (.int .i64 zt), Fact.is (.bool true), Fact.is (.bool true), Fact.is (.bool true), Fact.is (undef), Fact.is (undef), Fact.is (undef), Fact.is (undef), Fact.is (undef), Fact.is (undef), Fact.is (undef), Fact.is (undef), Fact.is (undef), Fact.is (undef), Fact.is (undef), Fact.is (undef), Fact.is (undef), Fact.is (undef), Fact.is (undef), Fact.is (.bool true)]
          (by kernel_rfl) rfl rfl ⟨?s0, ?s1, ?s2, ?s3, ?s4, ?s5, ?s6, ?s7, ?s8, ?s9, ?s10, ?s11, ?s12, ?s13, ?s14, ?s15, ?s16, ?s17, ?s18, ?s19, ?s20, ?s21, ?s22, ?s23, ?s24, ?s25, ?s26, ?s27, ?s28, ?s29, ?s30, ?s31, ?s32, ?s33, ?s34, trivial⟩ ?fin
        case s0 =>
          intro ρ W hb hc hf hr
          obtain ⟨r0, -⟩ := hr
          have e0 : ρ (.tmp 0) = .slice (some ad) n cap := r0
          clear r0
          refine under_none rfl ?_
          exact ⟨e0, Below.refl _ _⟩
        case s1 =>
          intro ρ W hb hc hf hr
          obtain ⟨r3, -⟩ := hr
          have e3 : ρ (.tmp 3) = .int .i64 (k : Int) := r3
          clear r3
          refine under_none rfl ?_
          exact ⟨e3, Below.refl _ _⟩
        case s2 =>
          intro ρ W hb hc hf hr
          obtain ⟨r19, r20, -⟩ := hr
          have e19 : ρ (.tmp 19) = .slice (some ad) n cap := r19
          clear r19
          have e20 : ρ (.tmp 20) = .int .i64 (k : Int) := r20
          clear r20
          refine under_none rfl ?_
          exact soft_index7 e19 e20 (by omega) rfl
        case s3 =>
          intro ρ W hb hc hf hr
          obtain ⟨r21, -⟩ := hr
          have e21 : ρ (.tmp 21) = .pointer (some (Addr.add ad (k * 7))) := r21
          clear r21
          refine under_none rfl ?_
          exact soft_load e21 (LX.out W (hbd.trans (hb.mono (by simp)))) rfl
        case s4 =>
          intro ρ W hb hc hf hr
          obtain ⟨r22, -⟩ := hr
          have e22 : ρ (.tmp 22) = .agg #[.int .i64 x.t, .int .i64 x.i, .int .i64 x.p, .int .i64 x.s, .int .i64 x.d, .string (str x.sv), .string (str x.nm)] := r22
          clear r22
          refine under_none rfl ?_
          exact soft_call1 hf e22 (HR.out W) rfl (by kernel_rfl) below_is
        case s5 =>
          intro ρ W hb hc hf hr
          obtain ⟨r23, -⟩ := hr
          have e23 : ρ (.tmp 23) = .bool true := r23
          clear r23
          refine under_none rfl ?_
          simp [execOp, e23, go_sem, softUpon, Fact.is, Below.refl]
        case s6 =>
          intro ρ W hb hc hf hr
          obtain ⟨r24, -⟩ := hr
          have e24 : ρ (.tmp 24) = .bool false := r24
          clear r24
          refine under_none rfl ?_
          exact ⟨e24, Below.refl _ _⟩
        case s7 =>
          intro ρ W hb hc hf hr
          obtain ⟨r0, r25, -⟩ := hr
          have e0 : ρ (.tmp 0) = .slice (some ad) n cap := r0
          clear r0
          have e25 : ρ (.tmp 25) = .bool false := r25
          clear r25
          refine ⟨25, rfl, .inl ⟨e25, ?_⟩⟩
          exact ⟨e0, Below.refl _ _⟩
        case s8 =>
          intro ρ W hb hc hf hr
          obtain ⟨r3, r25, -⟩ := hr
          have e3 : ρ (.tmp 3) = .int .i64 (k : Int) := r3
          clear r3
          have e25 : ρ (.tmp 25) = .bool false := r25
          clear r25
          refine ⟨25, rfl, .inl ⟨e25, ?_⟩⟩
          exact ⟨e3, Below.refl _ _⟩
        case s9 =>
          intro ρ W hb hc hf hr
          obtain ⟨r26, r27, r25, -⟩ := hr
          have e26 : ρ (.tmp 26) = .slice (some ad) n cap := r26
          clear r26
          have e27 : ρ (.tmp 27) = .int .i64 (k : Int) := r27
          clear r27
          have e25 : ρ (.tmp 25) = .bool false := r25
          clear r25
          refine ⟨25, rfl, .inl ⟨e25, ?_⟩⟩
          exact soft_index7 e26 e27 (by omega) rfl
        case s10 =>
          intro ρ W hb hc hf hr
          obtain ⟨r28, r25, -⟩ := hr
          have e28 : ρ (.tmp 28) = .pointer (some (Addr.add ad (k * 7))) := r28
          clear r28
          have e25 : ρ (.tmp 25) = .bool false := r25
          clear r25
          refine ⟨25, rfl, .inl ⟨e25, ?_⟩⟩
          exact soft_field e28 rfl (fun W => by go_simp)
        case s11 =>
          intro ρ W hb hc hf hr
          obtain ⟨r29, r25, -⟩ := hr
          have e29 : ρ (.tmp 29) = .pointer (some (Addr.add ad (k * 7))) := r29
          clear r29
          have e25 : ρ (.tmp 25) = .bool false := r25
          clear r25
          refine ⟨25, rfl, .inl ⟨e25, ?_⟩⟩
          exact soft_load e29 (LXT.out W (hbd.trans (hb.mono (by simp)))) rfl
        case s12 =>
          intro ρ W hb hc hf hr
          obtain ⟨r0, r25, -⟩ := hr
          have e0 : ρ (.tmp 0) = .slice (some ad) n cap := r0
          clear r0
          have e25 : ρ (.tmp 25) = .bool false := r25
          clear r25
          refine ⟨25, rfl, .inl ⟨e25, ?_⟩⟩
          exact ⟨e0, Below.refl _ _⟩
        case s13 =>
          intro ρ W hb hc hf hr
          obtain ⟨r31, r25, -⟩ := hr
          have e31 : ρ (.tmp 31) = .slice (some ad) n cap := r31
          clear r31
          have e25 : ρ (.tmp 25) = .bool false := r25
          clear r25
          refine ⟨25, rfl, .inl ⟨e25, ?_⟩⟩
          exact soft_index7 (k := 0) e31 (hc _) (by omega) rfl
        case s14 =>
          intro ρ W hb hc hf hr
          obtain ⟨r32, r25, -⟩ := hr
          have e32 : ρ (.tmp 32) = .pointer (some (Addr.add ad (0 * 7))) := r32
          clear r32
          have e25 : ρ (.tmp 25) = .bool false := r25
          clear r25
          refine ⟨25, rfl, .inl ⟨e25, ?_⟩⟩
          exact soft_field e32 rfl (fun W => by go_simp)
        case s15 =>
          intro ρ W hb hc hf hr
          obtain ⟨r33, r25, -⟩ := hr
          have e33 : ρ (.tmp 33) = .pointer (some (Addr.add ad (0 * 7))) := r33
          clear r33
          have e25 : ρ (.tmp 25) = .bool false := r25
          clear r25
          refine ⟨25, rfl, .inl ⟨e25, ?_⟩⟩
          exact soft_load e33 (LZT.out W (hbd.trans (hb.mono (by simp)))) rfl
        case s16 =>
          intro ρ W hb hc hf hr
          obtain ⟨r30, r34, r25, -⟩ := hr
          have e30 : ρ (.tmp 30) = .int .i64 x.t := r30
          clear r30
          have e34 : ρ (.tmp 34) = .int .i64 zt := r34
          clear r34
          have e25 : ρ (.tmp 25) = .bool false := r25
          clear r25
          refine ⟨25, rfl, .inl ⟨e25, ?_⟩⟩
          exact soft_bin e30 e34 rfl rfl (NET.out W)
        case s17 =>
          intro ρ W hb hc hf hr
          obtain ⟨r25, r35, -⟩ := hr
          have e25 : ρ (.tmp 25) = .bool false := r25
          clear r25
          have e35 : ρ (.tmp 35) = .bool true := r35
          clear r35
          refine under_none rfl ?_
          simp [execOp, e25, e35, go_sem, softUpon, Fact.is, Below.refl]
        case s18 =>
          intro ρ W hb hc hf hr
          obtain ⟨r36, -⟩ := hr
          have e36 : ρ (.tmp 36) = .bool true := r36
          clear r36
          refine under_none rfl ?_
          exact ⟨e36, Below.refl _ _⟩
        case s19 =>
          intro ρ W hb hc hf hr
          obtain ⟨r3, r37, -⟩ := hr
          have e3 : ρ (.tmp 3) = .int .i64 (k : Int) := r3
          clear r3
          have e37 : ρ (.tmp 37) = .bool true := r37
          clear r37
          exact ⟨37, rfl, .inr (.inl ⟨e37, rfl⟩)⟩
        case s20 =>
          intro ρ W hb hc hf hr
          obtain ⟨r38, r37, -⟩ := hr
          have e38 : ρ (.tmp 38) = undef := r38
          clear r38
          have e37 : ρ (.tmp 37) = .bool true := r37
          clear r37
          exact ⟨37, rfl, .inr (.inl ⟨e37, rfl⟩)⟩
        case s21 =>
          intro ρ W hb hc hf hr
          obtain ⟨r39, r37, -⟩ := hr
          have e39 : ρ (.tmp 39) = undef := r39
          clear r39
          have e37 : ρ (.tmp 37) = .bool true := r37
          clear r37
          exact ⟨37, rfl, .inr (.inl ⟨e37, rfl⟩)⟩
        case s22 =>
          intro ρ W hb hc hf hr
          obtain ⟨r0, r40, -⟩ := hr
          have e0 : ρ (.tmp 0) = .slice (some ad) n cap := r0
          clear r0
          have e40 : ρ (.tmp 40) = undef := r40
          clear r40
          exact ⟨40, rfl, .inr (.inr ⟨e40, rfl⟩)⟩
        case s23 =>
          intro ρ W hb hc hf hr
          obtain ⟨r3, r40, -⟩ := hr
          have e3 : ρ (.tmp 3) = .int .i64 (k : Int) := r3
          clear r3
          have e40 : ρ (.tmp 40) = undef := r40
          clear r40
          exact ⟨40, rfl, .inr (.inr ⟨e40, rfl⟩)⟩
        case s24 =>
          intro ρ W hb hc hf hr
          obtain ⟨r42, r40, -⟩ := hr
          have e42 : ρ (.tmp 42) = undef := r42
          clear r42
          have e40 : ρ (.tmp 40) = undef := r40
          clear r40
          exact ⟨40, rfl, .inr (.inr ⟨e40, rfl⟩)⟩
        case s25 =>
          intro ρ W hb hc hf hr
          obtain ⟨r41, r43, r40, -⟩ := hr
          have e41 : ρ (.tmp 41) = undef := r41
          clear r41
          have e43 : ρ (.tmp 43) = undef := r43
          clear r43
          have e40 : ρ (.tmp 40) = undef := r40
          clear r40
          exact ⟨40, rfl, .inr (.inr ⟨e40, rfl⟩)⟩
        case s26 =>
          intro ρ W hb hc hf hr
          obtain ⟨r44, r40, -⟩ := hr
          have e44 : ρ (.tmp 44) = undef := r44
          clear r44
          have e40 : ρ (.tmp 40) = undef := r40
          clear r40
          exact ⟨40, rfl, .inr (.inr ⟨e40, rfl⟩)⟩
        case s27 =>
          intro ρ W hb hc hf hr
          obtain ⟨r0, r40, -⟩ := hr
          have e0 : ρ (.tmp 0) = .slice (some ad) n cap := r0
          clear r0
          have e40 : ρ (.tmp 40) = undef := r40
          clear r40
          exact ⟨40, rfl, .inr (.inr ⟨e40, rfl⟩)⟩
        case s28 =>
          intro ρ W hb hc hf hr
          obtain ⟨r3, r40, -⟩ := hr
          have e3 : ρ (.tmp 3) = .int .i64 (k : Int) := r3
          clear r3
          have e40 : ρ (.tmp 40) = undef := r40
          clear r40
          exact ⟨40, rfl, .inr (.inr ⟨e40, rfl⟩)⟩
        case s29 =>
          intro ρ W hb hc hf hr
          obtain ⟨r46, r47, r40, -⟩ := hr
          have e46 : ρ (.tmp 46) = undef := r46
          clear r46
          have e47 : ρ (.tmp 47) = undef := r47
          clear r47
          have e40 : ρ (.tmp 40) = undef := r40
          clear r40
          exact ⟨40, rfl, .inr (.inr ⟨e40, rfl⟩)⟩
        case s30 =>
          intro ρ W hb hc hf hr
          obtain ⟨r48, r40, -⟩ := hr
          have e48 : ρ (.tmp 48) = undef := r48
          clear r48
          have e40 : ρ (.tmp 40) = undef := r40
          clear r40
          exact ⟨40, rfl, .inr (.inr ⟨e40, rfl⟩)⟩
        case s31 =>
          intro ρ W hb hc hf hr
          obtain ⟨r45, r49, r40, -⟩ := hr
          have e45 : ρ (.tmp 45) = undef := r45
          clear r45
          have e49 : ρ (.tmp 49) = undef := r49
          clear r49
          have e40 : ρ (.tmp 40) = undef := r40
          clear r40
          exact ⟨40, rfl, .inr (.inr ⟨e40, rfl⟩)⟩
        case s32 =>
          intro ρ W hb hc hf hr
          obtain ⟨r50, r40, -⟩ := hr
          have e50 : ρ (.tmp 50) = undef := r50
          clear r50
          have e40 : ρ (.tmp 40) = undef := r40
          clear r40
          exact ⟨40, rfl, .inr (.inr ⟨e40, rfl⟩)⟩
        case s33 =>
          intro ρ W hb hc hf hr
          obtain ⟨r40, r51, r37, -⟩ := hr
          have e40 : ρ (.tmp 40) = undef := r40
          clear r40
          have e51 : ρ (.tmp 51) = undef := r51
          clear r51
          have e37 : ρ (.tmp 37) = .bool true := r37
          clear r37
          exact ⟨37, rfl, .inr (.inl ⟨e37, rfl⟩)⟩
        case s34 =>
          intro ρ W hb hc hf hr
          obtain ⟨r37, r52, -⟩ := hr
          have e37 : ρ (.tmp 37) = .bool true := r37
          clear r37
          have e52 : ρ (.tmp 52) = undef := r52
          clear r52
          refine under_none rfl ?_
          simp [execOp, e37, hc, go_sem, softUpon, Fact.is, Below.refl]
        case fin =>
          intro a w1 hb hd hsz hk
          have ea := act_puts hd hsz rfl hk
          have k19 : a.tmps.getD 19 undef = .slice (some ad) n cap := hk 19
          have k20 : a.tmps.getD 20 undef = .int .i64 (k : Int) := hk 20
          have k21 : a.tmps.getD 21 undef = .pointer (some (Addr.add ad (k * 7))) := hk 21
          have k22 : a.tmps.getD 22 undef = .agg #[.int .i64 x.t, .int .i64 x.i, .int .i64 x.p, .int .i64 x.s, .int .i64 x.d, .string (str x.sv), .string (str x.nm)] := hk 22
          have k23 : a.tmps.getD 23 undef = .bool true := hk 23
          have k24 : a.tmps.getD 24 undef = .bool false := hk 24
          have k25 : a.tmps.getD 25 undef = .bool false := hk 25
          have k26 : a.tmps.getD 26 undef = .slice (some ad) n cap := hk 26
          have k27 : a.tmps.getD 27 undef = .int .i64 (k : Int) := hk 27
          have k28 : a.tmps.getD 28 undef = .pointer (some (Addr.add ad (k * 7))) := hk 28
          have k29 : a.tmps.getD 29 undef = .pointer (some (Addr.add ad (k * 7))) := hk 29
          have k30 : a.tmps.getD 30 undef = .int .i64 x.t := hk 30
          have k31 : a.tmps.getD 31 undef = .slice (some ad) n cap := hk 31
          have k32 : a.tmps.getD 32 undef = .pointer (some (Addr.add ad (0 * 7))) := hk 32
          have k33 : a.tmps.getD 33 undef = .pointer (some (Addr.add ad (0 * 7))) := hk 33
          have k34 : a.tmps.getD 34 undef = .int .i64 zt := hk 34
          have k35 : a.tmps.getD 35 undef = .bool true := hk 35
          have k36 : a.tmps.getD 36 undef = .bool true := hk 36
          have k37 : a.tmps.getD 37 undef = .bool true := hk 37
          have k38 : a.tmps.getD 38 undef = undef := hk 38
          have k39 : a.tmps.getD 39 undef = undef := hk 39
          have k40 : a.tmps.getD 40 undef = undef := hk 40
          have k41 : a.tmps.getD 41 undef = undef := hk 41
          have k42 : a.tmps.getD 42 undef = undef := hk 42
          have k43 : a.tmps.getD 43 undef = undef := hk 43
          have k44 : a.tmps.getD 44 undef = undef := hk 44
          have k45 : a.tmps.getD 45 undef = undef := hk 45
          have k46 : a.tmps.getD 46 undef = undef := hk 46
          have k47 : a.tmps.getD 47 undef = undef := hk 47
          have k48 : a.tmps.getD 48 undef = undef := hk 48
          have k49 : a.tmps.getD 49 undef = undef := hk 49
          have k50 : a.tmps.getD 50 undef = undef := hk 50
          have k51 : a.tmps.getD 51 undef = undef := hk 51
          have k52 : a.tmps.getD 52 undef = undef := hk 52
          have k53 : a.tmps.getD 53 undef = .bool true := hk 53
          clear hk hd hsz
          simp only [List.map_cons, List.map_nil, List.foldl_cons, List.foldl_nil, k19, k20, k21, k22, k23, k24, k25, k26, k27, k28, k29, k30, k31, k32, k33, k34, k35, k36, k37, k38, k39, k40, k41, k42, k43, k44, k45, k46, k47, k48, k49, k50, k51, k52, k53] at ea
          clear k19 k20 k21 k22 k23 k24 k25 k26 k27 k28 k29 k30 k31 k32 k33 k34 k35 k36 k37 k38 k39 k40 k41 k42 k43 k44 k45 k46 k47 k48 k49 k50 k51 k52 k53
          simp only [Act.put, List.setIfInBounds_toArray, List.set_cons_succ, List.set_cons_zero] at ea
          subst ea
          go_wp2
          go_ret
          exact ⟨by rw [HF.out]; rfl, hbr.trans ((hbd.trans (hb.mono (by simp))).mono hbr.size)⟩
      have NET := Lib.hid (fun (W : World) => neq_i64 W x.t zt false (by simp [htz]))
      by_cases hk0 : k = 0
      · subst hk0
        have GT0 := Lib.hid (fun (W : World) => gtr_int W ((0 : Nat) : Int) 0 false (by simp))
        have HGN := Lib.hid (HST1.out rfl htz (fun j hj => by omega))
        have HNN := Lib.hid (HIS.out (by simp))
        clear htz
        go_wp2
        refine wp_softS (by kernel_rfl) 70 [(19, [0]), (20, [3]), (21, [19, 20]), (22, [21]), (23, [22]), (24, [23]), (25, [24]), (26, [0, 25]), (27, [3, 25]), (28, [26, 27, 25]), (29, [28, 25]), (30, [29, 25]), (31, [0, 25]), (32, [31, 25]), (33, [32, 25]), (34, [33, 25]), (35, [30, 34, 25]), (36, [25, 35]), (37, [36]), (38, [3, 37]), (39, [38, 37]), (40, [39, 37]), (41, [0, 40]), (42, [3, 40]), (43, [42, 40]), (44, [41, 43, 40]), (45, [44, 40]), (46, [0, 40]), (47, [3, 40]), (48, [46, 47, 40]), (49, [48, 40]), (50, [45, 49, 40]), (51, [50, 40]), (52, [40, 51, 37]), (53, [37, 52])]
          [Fact.is (.slice (some ad) n cap), Fact.is (.int .i64 ((0 : Nat) : Int)), Fact.is (.pointer (some (Addr.add ad ((0) * 7)))), Fact.is (.agg #[.int .i64 x.t, .int .i64 x.i, .int .i64 x.p, .int .i64 x.s, .int .i64 x.d, .string (str x.sv), .string (str x.nm)]), Fact.is (.bool true), Fact.is (.bool false), Fact.is (.bool false), Fact.is (.slice (some ad) n cap), Fact.is (.int .i64 ((0 : Nat) : Int)), Fact.is (.pointer (some (Addr.add ad ((0) * 7)))), Fact.is (.pointer (some (Addr.add ad ((0) * 7)))), Fact.is (.int .i64 x.t), Fact.is (.slice (some ad) n cap), Fact.is (.pointer (some (Addr.add ad (0 * 7)))), Fact.is (.pointer (some (Addr.add ad (0 * 7)))), Fact.is (.int .i64 zt), Fact.is (.bool false), Fact.is (.bool false), Fact.is (.bool false), Fact.is (.int .i64 ((0 : Nat) : Int)), Fact.is (.bool false), Fact.is (.bool false), Fact.is (undef), Fact.is (undef), Fact.is (undef), Fact.is (undef), Fact.is (undef), Fact.is (undef), Fact.is (undef), Fact.is (undef), Fact.is (undef), Fact.is (undef), Fact.is (undef), Fact.is (.bool false), Fact.is (.bool false)]
          (by kernel_rfl) rfl rfl ⟨?s0, ?s1, ?s2, ?s3, ?s4, ?s5, ?s6, ?s7, ?s8, ?s9, ?s10, ?s11, ?s12, ?s13, ?s14, ?s15, ?s16, ?s17, ?s18, ?s19, ?s20, ?s21, ?s22, ?s23, ?s24, ?s25, ?s26, ?s27, ?s28, ?s29, ?s30, ?s31, ?s32, ?s33, ?s34, trivial⟩ ?fin
        case s0 =>
          intro ρ W hb hc hf hr
          obtain ⟨r0, -⟩ := hr
          have e0 : ρ (.tmp 0) = .slice (some ad) n cap := r0
          clear r0
          refine under_none rfl ?_
          exact ⟨e0, Below.refl _ _⟩
        case s1 =>
          intro ρ W hb hc hf hr
          obtain ⟨r3, -⟩ := hr
          have e3 : ρ (.tmp 3) = .int .i64 ((0 : Nat) : Int) := r3
          clear r3
          refine under_none rfl ?_
          exact ⟨e3, Below.refl _ _⟩
        case s2 =>
          intro ρ W hb hc hf hr
          obtain ⟨r19, r20, -⟩ := hr
          have e19 : ρ (.tmp 19) = .slice (some ad) n cap := r19
          clear r19
          have e20 : ρ (.tmp 20) = .int .i64 ((0 : Nat) : Int) := r20
          clear r20
          refine under_none rfl ?_
          exact soft_index7 e19 e20 (by omega) rfl
        case s3 =>
          intro ρ W hb hc hf hr
          obtain ⟨r21, -⟩ := hr
          have e21 : ρ (.tmp 21) = .pointer (some (Addr.add ad ((0) * 7))) := r21
          clear r21
          refine under_none rfl ?_
          exact soft_load e21 (LX.out W (hbd.trans (hb.mono (by simp)))) rfl
        case s4 =>
          intro ρ W hb hc hf hr
          obtain ⟨r22, -⟩ := hr
          have e22 : ρ (.tmp 22) = .agg #[.int .i64 x.t, .int .i64 x.i, .int .i64 x.p, .int .i64 x.s, .int .i64 x.d, .string (str x.sv), .string (str x.nm)] := r22
          clear r22
          refine under_none rfl ?_
          exact soft_call1 hf e22 (HR.out W) rfl (by kernel_rfl) below_is
        case s5 =>
          intro ρ W hb hc hf hr
          obtain ⟨r23, -⟩ := hr
          have e23 : ρ (.tmp 23) = .bool true := r23
          clear r23
          refine under_none rfl ?_
          simp [execOp, e23, go_sem, softUpon, Fact.is, Below.refl]
        case s6 =>
          intro ρ W hb hc hf hr
          obtain ⟨r24, -⟩ := hr
          have e24 : ρ (.tmp 24) = .bool false := r24
          clear r24
          refine under_none rfl ?_
          exact ⟨e24, Below.refl _ _⟩
        case s7 =>
          intro ρ W hb hc hf hr
          obtain ⟨r0, r25, -⟩ := hr
          have e0 : ρ (.tmp 0) = .slice (some ad) n cap := r0
          clear r0
          have e25 : ρ (.tmp 25) = .bool false := r25
          clear r25
          refine ⟨25, rfl, .inl ⟨e25, ?_⟩⟩
          exact ⟨e0, Below.refl _ _⟩
        case s8 =>
          intro ρ W hb hc hf hr
          obtain ⟨r3, r25, -⟩ := hr
          have e3 : ρ (.tmp 3) = .int .i64 ((0 : Nat) : Int) := r3
          clear r3
          have e25 : ρ (.tmp 25) = .bool false := r25
          clear r25
          refine ⟨25, rfl, .inl ⟨e25, ?_⟩⟩
          exact ⟨e3, Below.refl _ _⟩
        case s9 =>
          intro ρ W hb hc hf hr
          obtain ⟨r26, r27, r25, -⟩ := hr
          have e26 : ρ (.tmp 26) = .slice (some ad) n cap := r26
          clear r26
          have e27 : ρ (.tmp 27) = .int .i64 ((0 : Nat) : Int) := r27
          clear r27
          have e25 : ρ (.tmp 25) = .bool false := r25
          clear r25
          refine ⟨25, rfl, .inl ⟨e25, ?_⟩⟩
          exact soft_index7 e26 e27 (by omega) rfl
        case s10 =>
          intro ρ W hb hc hf hr
          obtain ⟨r28, r25, -⟩ := hr
          have e28 : ρ (.tmp 28) = .pointer (some (Addr.add ad ((0) * 7))) := r28
          clear r28
          have e25 : ρ (.tmp 25) = .bool false := r25
          clear r25
          refine ⟨25, rfl, .inl ⟨e25, ?_⟩⟩
          exact soft_field e28 rfl (fun W => by go_simp)
        case s11 =>
          intro ρ W hb hc hf hr
          obtain ⟨r29, r25, -⟩ := hr
          have e29 : ρ (.tmp 29) = .pointer (some (Addr.add ad ((0) * 7))) := r29
          clear r29
          have e25 : ρ (.tmp 25) = .bool false := r25
          clear r25
          refine ⟨25, rfl, .inl ⟨e25, ?_⟩⟩
          exact soft_load e29 (LXT.out W (hbd.trans (hb.mono (by simp)))) rfl
        case s12 =>
          intro ρ W hb hc hf hr
          obtain ⟨r0, r25, -⟩ := hr
          have e0 : ρ (.tmp 0) = .slice (some ad) n cap := r0
          clear r0
          have e25 : ρ (.tmp 25) = .bool false := r25
          clear r25
          refine ⟨25, rfl, .inl ⟨e25, ?_⟩⟩
          exact ⟨e0, Below.refl _ _⟩
        case s13 =>
          intro ρ W hb hc hf hr
          obtain ⟨r31, r25, -⟩ := hr
          have e31 : ρ (.tmp 31) = .slice (some ad) n cap := r31
          clear r31
          have e25 : ρ (.tmp 25) = .bool false := r25
          clear r25
          refine ⟨25, rfl, .inl ⟨e25, ?_⟩⟩
          exact soft_index7 (k := 0) e31 (hc _) (by omega) rfl
        case s14 =>
          intro ρ W hb hc hf hr
          obtain ⟨r32, r25, -⟩ := hr
          have e32 : ρ (.tmp 32) = .pointer (some (Addr.add ad (0 * 7))) := r32
          clear r32
          have e25 : ρ (.tmp 25) = .bool false := r25
          clear r25
          refine ⟨25, rfl, .inl ⟨e25, ?_⟩⟩
          exact soft_field e32 rfl (fun W => by go_simp)
        case s15 =>
          intro ρ W hb hc hf hr
          obtain ⟨r33, r25, -⟩ := hr
          have e33 : ρ (.tmp 33) = .pointer (some (Addr.add ad (0 * 7))) := r33
          clear r33
          have e25 : ρ (.tmp 25) = .bool false := r25
          clear r25
          refine ⟨25, rfl, .inl ⟨e25, ?_⟩⟩
          exact soft_load e33 (LZT.out W (hbd.trans (hb.mono (by simp)))) rfl
        case s16 =>
          intro ρ W hb hc hf hr
          obtain ⟨r30, r34, r25, -⟩ := hr
          have e30 : ρ (.tmp 30) = .int .i64 x.t := r30
          clear r30
          have e34 : ρ (.tmp 34) = .int .i64 zt := r34
          clear r34
          have e25 : ρ (.tmp 25) = .bool false := r25
          clear r25
          refine ⟨25, rfl, .inl ⟨e25, ?_⟩⟩
          exact soft_bin e30 e34 rfl rfl (NET.out W)
        case s17 =>
          intro ρ W hb hc hf hr
          obtain ⟨r25, r35, -⟩ := hr
          have e25 : ρ (.tmp 25) = .bool false := r25
          clear r25
          have e35 : ρ (.tmp 35) = .bool false := r35
          clear r35
          refine under_none rfl ?_
          simp [execOp, e25, e35, go_sem, softUpon, Fact.is, Below.refl]
        case s18 =>
          intro ρ W hb hc hf hr
          obtain ⟨r36, -⟩ := hr
          have e36 : ρ (.tmp 36) = .bool false := r36
          clear r36
          refine under_none rfl ?_
          exact ⟨e36, Below.refl _ _⟩
        case s19 =>
          intro ρ W hb hc hf hr
          obtain ⟨r3, r37, -⟩ := hr
          have e3 : ρ (.tmp 3) = .int .i64 ((0 : Nat) : Int) := r3
          clear r3
          have e37 : ρ (.tmp 37) = .bool false := r37
          clear r37
          refine ⟨37, rfl, .inl ⟨e37, ?_⟩⟩
          exact ⟨e3, Below.refl _ _⟩
        case s20 =>
          intro ρ W hb hc hf hr
          obtain ⟨r38, r37, -⟩ := hr
          have e38 : ρ (.tmp 38) = .int .i64 ((0 : Nat) : Int) := r38
          clear r38
          have e37 : ρ (.tmp 37) = .bool false := r37
          clear r37
          refine ⟨37, rfl, .inl ⟨e37, ?_⟩⟩
          exact soft_bin e38 (hc _) rfl rfl (GT0.out W)
        case s21 =>
          intro ρ W hb hc hf hr
          obtain ⟨r39, r37, -⟩ := hr
          have e39 : ρ (.tmp 39) = .bool false := r39
          clear r39
          have e37 : ρ (.tmp 37) = .bool false := r37
          clear r37
          refine ⟨37, rfl, .inl ⟨e37, ?_⟩⟩
          exact ⟨e39, Below.refl _ _⟩
        case s22 =>
          intro ρ W hb hc hf hr
          obtain ⟨r0, r40, -⟩ := hr
          have e0 : ρ (.tmp 0) = .slice (some ad) n cap := r0
          clear r0
          have e40 : ρ (.tmp 40) = .bool false := r40
          clear r40
          exact ⟨40, rfl, .inr (.inl ⟨e40, rfl⟩)⟩
        case s23 =>
          intro ρ W hb hc hf hr
          obtain ⟨r3, r40, -⟩ := hr
          have e3 : ρ (.tmp 3) = .int .i64 ((0 : Nat) : Int) := r3
          clear r3
          have e40 : ρ (.tmp 40) = .bool false := r40
          clear r40
          exact ⟨40, rfl, .inr (.inl ⟨e40, rfl⟩)⟩
        case s24 =>
          intro ρ W hb hc hf hr
          obtain ⟨r42, r40, -⟩ := hr
          have e42 : ρ (.tmp 42) = undef := r42
          clear r42
          have e40 : ρ (.tmp 40) = .bool false := r40
          clear r40
          exact ⟨40, rfl, .inr (.inl ⟨e40, rfl⟩)⟩
        case s25 =>
          intro ρ W hb hc hf hr
          obtain ⟨r41, r43, r40, -⟩ := hr
          have e41 : ρ (.tmp 41) = undef := r41
          clear r41
          have e43 : ρ (.tmp 43) = undef := r43
          clear r43
          have e40 : ρ (.tmp 40) = .bool false := r40
          clear r40
          exact ⟨40, rfl, .inr (.inl ⟨e40, rfl⟩)⟩
        case s26 =>
          intro ρ W hb hc hf hr
          obtain ⟨r44, r40, -⟩ := hr
          have e44 : ρ (.tmp 44) = undef := r44
          clear r44
          have e40 : ρ (.tmp 40) = .bool false := r40
          clear r40
          exact ⟨40, rfl, .inr (.inl ⟨e40, rfl⟩)⟩
        case s27 =>
          intro ρ W hb hc hf hr
          obtain ⟨r0, r40, -⟩ := hr
          have e0 : ρ (.tmp 0) = .slice (some ad) n cap := r0
          clear r0
          have e40 : ρ (.tmp 40) = .bool false := r40
          clear r40
          exact ⟨40, rfl, .inr (.inl ⟨e40, rfl⟩)⟩
        case s28 =>
          intro ρ W hb hc hf hr
          obtain ⟨r3, r40, -⟩ := hr
          have e3 : ρ (.tmp 3) = .int .i64 ((0 : Nat) : Int) := r3
          clear r3
          have e40 : ρ (.tmp 40) = .bool false := r40
          clear r40
          exact ⟨40, rfl, .inr (.inl ⟨e40, rfl⟩)⟩
        case s29 =>
          intro ρ W hb hc hf hr
          obtain ⟨r46, r47, r40, -⟩ := hr
          have e46 : ρ (.tmp 46) = undef := r46
          clear r46
          have e47 : ρ (.tmp 47) = undef := r47
          clear r47
          have e40 : ρ (.tmp 40) = .bool false := r40
          clear r40
          exact ⟨40, rfl, .inr (.inl ⟨e40, rfl⟩)⟩
        case s30 =>
          intro ρ W hb hc hf hr
          obtain ⟨r48, r40, -⟩ := hr
          have e48 : ρ (.tmp 48) = undef := r48
          clear r48
          have e40 : ρ (.tmp 40) = .bool false := r40
          clear r40
          exact ⟨40, rfl, .inr (.inl ⟨e40, rfl⟩)⟩
        case s31 =>
          intro ρ W hb hc hf hr
          obtain ⟨r45, r49, r40, -⟩ := hr
          have e45 : ρ (.tmp 45) = undef := r45
          clear r45
          have e49 : ρ (.tmp 49) = undef := r49
          clear r49
          have e40 : ρ (.tmp 40) = .bool false := r40
          clear r40
          exact ⟨40, rfl, .inr (.inl ⟨e40, rfl⟩)⟩
        case s32 =>
          intro ρ W hb hc hf hr
          obtain ⟨r50, r40, -⟩ := hr
          have e50 : ρ (.tmp 50) = undef := r50
          clear r50
          have e40 : ρ (.tmp 40) = .bool false := r40
          clear r40
          exact ⟨40, rfl, .inr (.inl ⟨e40, rfl⟩)⟩
        case s33 =>
          intro ρ W hb hc hf hr
          obtain ⟨r40, r51, r37, -⟩ := hr
          have e40 : ρ (.tmp 40) = .bool false := r40
          clear r40
          have e51 : ρ (.tmp 51) = undef := r51
          clear r51
          have e37 : ρ (.tmp 37) = .bool false := r37
          clear r37
          refine ⟨37, rfl, .inl ⟨e37, ?_⟩⟩
          simp [execOp, e40, hc, go_sem, softUpon, Fact.is, Below.refl]
        case s34 =>
          intro ρ W hb hc hf hr
          obtain ⟨r37, r52, -⟩ := hr
          have e37 : ρ (.tmp 37) = .bool false := r37
          clear r37
          have e52 : ρ (.tmp 52) = .bool false := r52
          clear r52
          refine under_none rfl ?_
          simp [execOp, e37, e52, go_sem, softUpon, Fact.is, Below.refl]
        case fin =>
          intro a w1 hb hd hsz hk
          have ea := act_puts hd hsz rfl hk
          have k19 : a.tmps.getD 19 undef = .slice (some ad) n cap := hk 19
          have k20 : a.tmps.getD 20 undef = .int .i64 ((0 : Nat) : Int) := hk 20
          have k21 : a.tmps.getD 21 undef = .pointer (some (Addr.add ad ((0) * 7))) := hk 21
          have k22 : a.tmps.getD 22 undef = .agg #[.int .i64 x.t, .int .i64 x.i, .int .i64 x.p, .int .i64 x.s, .int .i64 x.d, .string (str x.sv), .string (str x.nm)] := hk 22
          have k23 : a.tmps.getD 23 undef = .bool true := hk 23
          have k24 : a.tmps.getD 24 undef = .bool false := hk 24
          have k25 : a.tmps.getD 25 undef = .bool false := hk 25
          have k26 : a.tmps.getD 26 undef = .slice (some ad) n cap := hk 26
          have k27 : a.tmps.getD 27 undef = .int .i64 ((0 : Nat) : Int) := hk 27
          have k28 : a.tmps.getD 28 undef = .pointer (some (Addr.add ad ((0) * 7))) := hk 28
          have k29 : a.tmps.getD 29 undef = .pointer (some (Addr.add ad ((0) * 7))) := hk 29
          have k30 : a.tmps.getD 30 undef = .int .i64 x.t := hk 30
          have k31 : a.tmps.getD 31 undef = .slice (some ad) n cap := hk 31
          have k32 : a.tmps.getD 32 undef = .pointer (some (Addr.add ad (0 * 7))) := hk 32
          have k33 : a.tmps.getD 33 undef = .pointer (some (Addr.add ad (0 * 7))) := hk 33
          have k34 : a.tmps.getD 34 undef = .int .i64 zt := hk 34
          have k35 : a.tmps.getD 35 undef = .bool false := hk 35
          have k36 : a.tmps.getD 36 undef = .bool false := hk 36
          have k37 : a.tmps.getD 37 undef = .bool false := hk 37
          have k38 : a.tmps.getD 38 undef = .int .i64 ((0 : Nat) : Int) := hk 38
          have k39 : a.tmps.getD 39 undef = .bool false := hk 39
          have k40 : a.tmps.getD 40 undef = .bool false := hk 40
          have k41 : a.tmps.getD 41 undef = undef := hk 41
          have k42 : a.tmps.getD 42 undef = undef := hk 42
          have k43 : a.tmps.getD 43 undef = undef := hk 43
          have k44 : a.tmps.getD 44 undef = undef := hk 44
          have k45 : a.tmps.getD 45 undef = undef := hk 45
          have k46 : a.tmps.getD 46 undef = undef := hk 46
          have k47 : a.tmps.getD 47 undef = undef := hk 47
          have k48 : a.tmps.getD 48 undef = undef := hk 48
          have k49 : a.tmps.getD 49 undef = undef := hk 49
          have k50 : a.tmps.getD 50 undef = undef := hk 50
          have k51 : a.tmps.getD 51 undef = undef := hk 51
          have k52 : a.tmps.getD 52 undef = .bool false := hk 52
          have k53 : a.tmps.getD 53 undef = .bool false := hk 53
          clear hk hd hsz
          simp only [List.map_cons, List.map_nil, List.foldl_cons, List.foldl_nil, k19, k20, k21, k22, k23, k24, k25, k26, k27, k28, k29, k30, k31, k32, k33, k34, k35, k36, k37, k38, k39, k40, k41, k42, k43, k44, k45, k46, k47, k48, k49, k50, k51, k52, k53] at ea
          clear k19 k20 k21 k22 k23 k24 k25 k26 k27 k28 k29 k30 k31 k32 k33 k34 k35 k36 k37 k38 k39 k40 k41 k42 k43 k44 k45 k46 k47 k48 k49 k50 k51 k52 k53
          simp only [Act.put, List.setIfInBounds_toArray, List.set_cons_succ, List.set_cons_zero] at ea
          subst ea
          have dV := hbd.trans (hb.mono (by simp))
          have c1 := hbr.trans (dV.mono hbr.size)
          go_wp2
          go_loopw [4] (fun i wr => i = .int .i64 0 ∧ Below w.heap.size w wr) (fun _ _ => 0)
          case atStart => exact ⟨rfl, c1⟩
          case round =>
            obtain ⟨rfl, hbi⟩ := hrel
            go_wp2
            go_roundw
            case rel => exact ⟨1, by go_num, by omega, HGN.out, HNN.out, hbi⟩
            case measure => simp [intOf]; omega
      · obtain ⟨y, hyj, hld, hbad⟩ := HPV.out (by omega)
        have GT0 := Lib.hid (fun (W : World) => gtr_int W (k : Int) 0 true (by simp; omega))
        have SUB1 := Lib.hid (fun (W : World) => sub_one W k (by omega) (by omega))
        obtain ⟨L, hL⟩ : ∃ L, Plain.lt y x = L := ⟨_, rfl⟩
        have HBO := Lib.hid (show L = false → Plain.isT l = false from fun h => hbad (by rw [hL, h]))
        have HGN := Lib.hid (show L = true → Good l (k + 1) from fun h => HST1.out rfl htz (fun j hj hjl => by rw [hyj j hj hjl, hL, h]))
        have HLL := Lib.hid (show lessN y.s y.i x.s x.i = L from hL)
        have HLS := Lib.hid (fun (W : World) => show Calls Try.prog 37 #[.agg #[.int .i64 y.t, .int .i64 y.i, .int .i64 y.p, .int .i64 y.s, .int .i64 y.d, .string (str y.sv), .string (str y.nm)], .agg #[.int .i64 x.t, .int .i64 x.i, .int .i64 x.p, .int .i64 x.s, .int .i64 x.d, .string (str x.sv), .string (str x.nm)]] W (fun e w' => e = .returned (.bool L) ∧ Below W.heap.size W w') by
          have := rless_any y.t y.i y.p y.s y.d (str y.sv) (str y.nm) x.t x.i x.p x.s x.d (str x.sv) (str x.nm) W
          rwa [HLL.out] at this)
        have LY := Lib.hid (fun (W : World) (h : Below wr.heap.size wr W) => hld W (hbr.trans (h.mono hbr.size)))
        clear hld htz hk0 hbad hL hyj
        go_wp2
        refine wp_softS (by kernel_rfl) 70 [(19, [0]), (20, [3]), (21, [19, 20]), (22, [21]), (23, [22]), (24, [23]), (25, [24]), (26, [0, 25]), (27, [3, 25]), (28, [26, 27, 25]), (29, [28, 25]), (30, [29, 25]), (31, [0, 25]), (32, [31, 25]), (33, [32, 25]), (34, [33, 25]), (35, [30, 34, 25]), (36, [25, 35]), (37, [36]), (38, [3, 37]), (39, [38, 37]), (40, [39, 37]), (41, [0, 40]), (42, [3, 40]), (43, [42, 40]), (44, [41, 43, 40]), (45, [44, 40]), (46, [0, 40]), (47, [3, 40]), (48, [46, 47, 40]), (49, [48, 40]), (50, [45, 49, 40]), (51, [50, 40]), (52, [40, 51, 37]), (53, [37, 52])]
          [Fact.is (.slice (some ad) n cap), Fact.is (.int .i64 (k : Int)), Fact.is (.pointer (some (Addr.add ad (k * 7)))), Fact.is (.agg #[.int .i64 x.t, .int .i64 x.i, .int .i64 x.p, .int .i64 x.s, .int .i64 x.d, .string (str x.sv), .string (str x.nm)]), Fact.is (.bool true), Fact.is (.bool false), Fact.is (.bool false), Fact.is (.slice (some ad) n cap), Fact.is (.int .i64 (k : Int)), Fact.is (.pointer (some (Addr.add ad (k * 7)))), Fact.is (.pointer (some (Addr.add ad (k * 7)))), Fact.is (.int .i64 x.t), Fact.is (.slice (some ad) n cap), Fact.is (.pointer (some (Addr.add ad (0 * 7)))), Fact.is (.pointer (some (Addr.add ad (0 * 7)))), Fact.is (.int .i64 zt), Fact.is (.bool false), Fact.is (.bool false), Fact.is (.bool false), Fact.is (.int .i64 (k : Int)), Fact.is (.bool true), Fact.is (.bool true), Fact.is (.slice (some ad) n cap), Fact.is (.int .i64 (k : Int)), Fact.is (.int .i64 ((k - 1 : Nat) : Int)), Fact.is (.pointer (some (Addr.add ad ((k - 1) * 7)))), Fact.is (.agg #[.int .i64 y.t, .int .i64 y.i, .int .i64 y.p, .int .i64 y.s, .int .i64 y.d, .string (str y.sv), .string (str y.nm)]), Fact.is (.slice (some ad) n cap), Fact.is (.int .i64 (k : Int)), Fact.is (.pointer (some (Addr.add ad (k * 7)))), Fact.is (.agg #[.int .i64 x.t, .int .i64 x.i, .int .i64 x.p, .int .i64 x.s, .int .i64 x.d, .string (str x.sv), .string (str x.nm)]), Fact.is (.bool L), Fact.is (.bool (!L)), Fact.is (.bool (!L)), Fact.is (.bool (!L))]
          (by kernel_rfl) rfl rfl ⟨?s0, ?s1, ?s2, ?s3, ?s4, ?s5, ?s6, ?s7, ?s8, ?s9, ?s10, ?s11, ?s12, ?s13, ?s14, ?s15, ?s16, ?s17, ?s18, ?s19, ?s20, ?s21, ?s22, ?s23, ?s24, ?s25, ?s26, ?s27, ?s28, ?s29, ?s30, ?s31, ?s32, ?s33, ?s34, trivial⟩ ?fin
        case s0 =>
          intro ρ W hb hc hf hr
          obtain ⟨r0, -⟩ := hr
          have e0 : ρ (.tmp 0) = .slice (some ad) n cap := r0
          clear r0
          refine under_none rfl ?_
          exact ⟨e0, Below.refl _ _⟩
        case s1 =>
          intro ρ W hb hc hf hr
          obtain ⟨r3, -⟩ := hr
          have e3 : ρ (.tmp 3) = .int .i64 (k : Int) := r3
          clear r3
          refine under_none rfl ?_
          exact ⟨e3, Below.refl _ _⟩
        case s2 =>
          intro ρ W hb hc hf hr
          obtain ⟨r19, r20, -⟩ := hr
          have e19 : ρ (.tmp 19) = .slice (some ad) n cap := r19
          clear r19
          have e20 : ρ (.tmp 20) = .int .i64 (k : Int) := r20
          clear r20
          refine under_none rfl ?_
          exact soft_index7 e19 e20 (by omega) rfl
        case s3 =>
          intro ρ W hb hc hf hr
          obtain ⟨r21, -⟩ := hr
          have e21 : ρ (.tmp 21) = .pointer (some (Addr.add ad (k * 7))) := r21
          clear r21
          refine under_none rfl ?_
          exact soft_load e21 (LX.out W (hbd.trans (hb.mono (by simp)))) rfl
        case s4 =>
          intro ρ W hb hc hf hr
          obtain ⟨r22, -⟩ := hr
          have e22 : ρ (.tmp 22) = .agg #[.int .i64 x.t, .int .i64 x.i, .int .i64 x.p, .int .i64 x.s, .int .i64 x.d, .string (str x.sv), .string (str x.nm)] := r22
          clear r22
          refine under_none rfl ?_
          exact soft_call1 hf e22 (HR.out W) rfl (by kernel_rfl) below_is
        case s5 =>
          intro ρ W hb hc hf hr
          obtain ⟨r23, -⟩ := hr
          have e23 : ρ (.tmp 23) = .bool true := r23
          clear r23
          refine under_none rfl ?_
          simp [execOp, e23, go_sem, softUpon, Fact.is, Below.refl]
        case s6 =>
          intro ρ W hb hc hf hr
          obtain ⟨r24, -⟩ := hr
          have e24 : ρ (.tmp 24) = .bool false := r24
          clear r24
          refine under_none rfl ?_
          exact ⟨e24, Below.refl _ _⟩
        case s7 =>
          intro ρ W hb hc hf hr
          obtain ⟨r0, r25, -⟩ := hr
          have e0 : ρ (.tmp 0) = .slice (some ad) n cap := r0
          clear r0
          have e25 : ρ (.tmp 25) = .bool false := r25
          clear r25
          refine ⟨25, rfl, .inl ⟨e25, ?_⟩⟩
          exact ⟨e0, Below.refl _ _⟩
        case s8 =>
          intro ρ W hb hc hf hr
          obtain ⟨r3, r25, -⟩ := hr
          have e3 : ρ (.tmp 3) = .int .i64 (k : Int) := r3
          clear r3
          have e25 : ρ (.tmp 25) = .bool false := r25
          clear r25
          refine ⟨25, rfl, .inl ⟨e25, ?_⟩⟩
          exact ⟨e3, Below.refl _ _⟩
        case s9 =>
          intro ρ W hb hc hf hr
          obtain ⟨r26, r27, r25, -⟩ := hr
          have e26 : ρ (.tmp 26) = .slice (some ad) n cap := r26
          clear r26
          have e27 : ρ (.tmp 27) = .int .i64 (k : Int) := r27
          clear r27
          have e25 : ρ (.tmp 25) = .bool false := r25
          clear r25
          refine ⟨25, rfl, .inl ⟨e25, ?_⟩⟩
          exact soft_index7 e26 e27 (by omega) rfl
        case s10 =>
          intro ρ W hb hc hf hr
          obtain ⟨r28, r25, -⟩ := hr
          have e28 : ρ (.tmp 28) = .pointer (some (Addr.add ad (k * 7))) := r28
          clear r28
          have e25 : ρ (.tmp 25) = .bool false := r25
          clear r25
          refine ⟨25, rfl, .inl ⟨e25, ?_⟩⟩
          exact soft_field e28 rfl (fun W => by go_simp)
        case s11 =>
          intro ρ W hb hc hf hr
          obtain ⟨r29, r25, -⟩ := hr
          have e29 : ρ (.tmp 29) = .pointer (some (Addr.add ad (k * 7))) := r29
          clear r29
          have e25 : ρ (.tmp 25) = .bool false := r25
          clear r25
          refine ⟨25, rfl, .inl ⟨e25, ?_⟩⟩
          exact soft_load e29 (LXT.out W (hbd.trans (hb.mono (by simp)))) rfl
        case s12 =>
          intro ρ W hb hc hf hr
          obtain ⟨r0, r25, -⟩ := hr
          have e0 : ρ (.tmp 0) = .slice (some ad) n cap := r0
          clear r0
          have e25 : ρ (.tmp 25) = .bool false := r25
          clear r25
          refine ⟨25, rfl, .inl ⟨e25, ?_⟩⟩
          exact ⟨e0, Below.refl _ _⟩
        case s13 =>
          intro ρ W hb hc hf hr
          obtain ⟨r31, r25, -⟩ := hr
          have e31 : ρ (.tmp 31) = .slice (some ad) n cap := r31
          clear r31
          have e25 : ρ (.tmp 25) = .bool false := r25
          clear r25
          refine ⟨25, rfl, .inl ⟨e25, ?_⟩⟩
          exact soft_index7 (k := 0) e31 (hc _) (by omega) rfl
        case s14 =>
          intro ρ W hb hc hf hr
          obtain ⟨r32, r25, -⟩ := hr
          have e32 : ρ (.tmp 32) = .pointer (some (Addr.add ad (0 * 7))) := r32
          clear r32
          have e25 : ρ (.tmp 25) = .bool false := r25
          clear r25
          refine ⟨25, rfl, .inl ⟨e25, ?_⟩⟩
          exact soft_field e32 rfl (fun W => by go_simp)
        case s15 =>
          intro ρ W hb hc hf hr
          obtain ⟨r33, r25, -⟩ := hr
          have e33 : ρ (.tmp 33) = .pointer (some (Addr.add ad (0 * 7))) := r33
          clear r33
          have e25 : ρ (.tmp 25) = .bool false := r25
          clear r25
          refine ⟨25, rfl, .inl ⟨e25, ?_⟩⟩
          exact soft_load e33 (LZT.out W (hbd.trans (hb.mono (by simp)))) rfl
        case s16 =>
          intro ρ W hb hc hf hr
          obtain ⟨r30, r34, r25, -⟩ := hr
          have e30 : ρ (.tmp 30) = .int .i64 x.t := r30
          clear r30
          have e34 : ρ (.tmp 34) = .int .i64 zt := r34
          clear r34
          have e25 : ρ (.tmp 25) = .bool false := r25
          clear r25
          refine ⟨25, rfl, .inl ⟨e25, ?_⟩⟩
          exact soft_bin e30 e34 rfl rfl (NET.out W)
        case s17 =>
          intro ρ W hb hc hf hr
          obtain ⟨r25, r35, -⟩ := hr
          have e25 : ρ (.tmp 25) = .bool false := r25
          clear r25
          have e35 : ρ (.tmp 35) = .bool false := r35
          clear r35
          refine under_none rfl ?_
          simp [execOp, e25, e35, go_sem, softUpon, Fact.is, Below.refl]
        case s18 =>
          intro ρ W hb hc hf hr
          obtain ⟨r36, -⟩ := hr
          have e36 : ρ (.tmp 36) = .bool false := r36
          clear r36
          refine under_none rfl ?_
          exact ⟨e36, Below.refl _ _⟩
        case s19 =>
          intro ρ W hb hc hf hr
          obtain ⟨r3, r37, -⟩ := hr
          have e3 : ρ (.tmp 3) = .int .i64 (k : Int) := r3
          clear r3
          have e37 : ρ (.tmp 37) = .bool false := r37
          clear r37
          refine ⟨37, rfl, .inl ⟨e37, ?_⟩⟩
          exact ⟨e3, Below.refl _ _⟩
        case s20 =>
          intro ρ W hb hc hf hr
          obtain ⟨r38, r37, -⟩ := hr
          have e38 : ρ (.tmp 38) = .int .i64 (k : Int) := r38
          clear r38
          have e37 : ρ (.tmp 37) = .bool false := r37
          clear r37
          refine ⟨37, rfl, .inl ⟨e37, ?_⟩⟩
          exact soft_bin e38 (hc _) rfl rfl (GT0.out W)
        case s21 =>
          intro ρ W hb hc hf hr
          obtain ⟨r39, r37, -⟩ := hr
          have e39 : ρ (.tmp 39) = .bool true := r39
          clear r39
          have e37 : ρ (.tmp 37) = .bool false := r37
          clear r37
          refine ⟨37, rfl, .inl ⟨e37, ?_⟩⟩
          exact ⟨e39, Below.refl _ _⟩
        case s22 =>
          intro ρ W hb hc hf hr
          obtain ⟨r0, r40, -⟩ := hr
          have e0 : ρ (.tmp 0) = .slice (some ad) n cap := r0
          clear r0
          have e40 : ρ (.tmp 40) = .bool true := r40
          clear r40
          refine ⟨40, rfl, .inl ⟨e40, ?_⟩⟩
          exact ⟨e0, Below.refl _ _⟩
        case s23 =>
          intro ρ W hb hc hf hr
          obtain ⟨r3, r40, -⟩ := hr
          have e3 : ρ (.tmp 3) = .int .i64 (k : Int) := r3
          clear r3
          have e40 : ρ (.tmp 40) = .bool true := r40
          clear r40
          refine ⟨40, rfl, .inl ⟨e40, ?_⟩⟩
          exact ⟨e3, Below.refl _ _⟩
        case s24 =>
          intro ρ W hb hc hf hr
          obtain ⟨r42, r40, -⟩ := hr
          have e42 : ρ (.tmp 42) = .int .i64 (k : Int) := r42
          clear r42
          have e40 : ρ (.tmp 40) = .bool true := r40
          clear r40
          refine ⟨40, rfl, .inl ⟨e40, ?_⟩⟩
          exact soft_bin e42 (hc _) rfl rfl (SUB1.out W)
        case s25 =>
          intro ρ W hb hc hf hr
          obtain ⟨r41, r43, r40, -⟩ := hr
          have e41 : ρ (.tmp 41) = .slice (some ad) n cap := r41
          clear r41
          have e43 : ρ (.tmp 43) = .int .i64 ((k - 1 : Nat) : Int) := r43
          clear r43
          have e40 : ρ (.tmp 40) = .bool true := r40
          clear r40
          refine ⟨40, rfl, .inl ⟨e40, ?_⟩⟩
          exact soft_index7 e41 e43 (by omega) rfl
        case s26 =>
          intro ρ W hb hc hf hr
          obtain ⟨r44, r40, -⟩ := hr
          have e44 : ρ (.tmp 44) = .pointer (some (Addr.add ad ((k - 1) * 7))) := r44
          clear r44
          have e40 : ρ (.tmp 40) = .bool true := r40
          clear r40
          refine ⟨40, rfl, .inl ⟨e40, ?_⟩⟩
          exact soft_load e44 (LY.out W (hbd.trans (hb.mono (by simp)))) rfl
        case s27 =>
          intro ρ W hb hc hf hr
          obtain ⟨r0, r40, -⟩ := hr
          have e0 : ρ (.tmp 0) = .slice (some ad) n cap := r0
          clear r0
          have e40 : ρ (.tmp 40) = .bool true := r40
          clear r40
          refine ⟨40, rfl, .inl ⟨e40, ?_⟩⟩
          exact ⟨e0, Below.refl _ _⟩
        case s28 =>
          intro ρ W hb hc hf hr
          obtain ⟨r3, r40, -⟩ := hr
          have e3 : ρ (.tmp 3) = .int .i64 (k : Int) := r3
          clear r3
          have e40 : ρ (.tmp 40) = .bool true := r40
          clear r40
          refine ⟨40, rfl, .inl ⟨e40, ?_⟩⟩
          exact ⟨e3, Below.refl _ _⟩
        case s29 =>
          intro ρ W hb hc hf hr
          obtain ⟨r46, r47, r40, -⟩ := hr
          have e46 : ρ (.tmp 46) = .slice (some ad) n cap := r46
          clear r46
          have e47 : ρ (.tmp 47) = .int .i64 (k : Int) := r47
          clear r47
          have e40 : ρ (.tmp 40) = .bool true := r40
          clear r40
          refine ⟨40, rfl, .inl ⟨e40, ?_⟩⟩
          exact soft_index7 e46 e47 (by omega) rfl
        case s30 =>
          intro ρ W hb hc hf hr
          obtain ⟨r48, r40, -⟩ := hr
          have e48 : ρ (.tmp 48) = .pointer (some (Addr.add ad (k * 7))) := r48
          clear r48
          have e40 : ρ (.tmp 40) = .bool true := r40
          clear r40
          refine ⟨40, rfl, .inl ⟨e40, ?_⟩⟩
          exact soft_load e48 (LX.out W (hbd.trans (hb.mono (by simp)))) rfl
        case s31 =>
          intro ρ W hb hc hf hr
          obtain ⟨r45, r49, r40, -⟩ := hr
          have e45 : ρ (.tmp 45) = .agg #[.int .i64 y.t, .int .i64 y.i, .int .i64 y.p, .int .i64 y.s, .int .i64 y.d, .string (str y.sv), .string (str y.nm)] := r45
          clear r45
          have e49 : ρ (.tmp 49) = .agg #[.int .i64 x.t, .int .i64 x.i, .int .i64 x.p, .int .i64 x.s, .int .i64 x.d, .string (str x.sv), .string (str x.nm)] := r49
          clear r49
          have e40 : ρ (.tmp 40) = .bool true := r40
          clear r40
          refine ⟨40, rfl, .inl ⟨e40, ?_⟩⟩
          exact soft_call2 hf e45 e49 (HLS.out W) rfl (by kernel_rfl) below_is
        case s32 =>
          intro ρ W hb hc hf hr
          obtain ⟨r50, r40, -⟩ := hr
          have e50 : ρ (.tmp 50) = .bool L := r50
          clear r50
          have e40 : ρ (.tmp 40) = .bool true := r40
          clear r40
          refine ⟨40, rfl, .inl ⟨e40, ?_⟩⟩
          simp [execOp, e50, go_sem, softUpon, Fact.is, Below.refl]
        case s33 =>
          intro ρ W hb hc hf hr
          obtain ⟨r40, r51, r37, -⟩ := hr
          have e40 : ρ (.tmp 40) = .bool true := r40
          clear r40
          have e51 : ρ (.tmp 51) = .bool (!L) := r51
          clear r51
          have e37 : ρ (.tmp 37) = .bool false := r37
          clear r37
          refine ⟨37, rfl, .inl ⟨e37, ?_⟩⟩
          simp [execOp, e40, e51, go_sem, softUpon, Fact.is, Below.refl]
        case s34 =>
          intro ρ W hb hc hf hr
          obtain ⟨r37, r52, -⟩ := hr
          have e37 : ρ (.tmp 37) = .bool false := r37
          clear r37
          have e52 : ρ (.tmp 52) = .bool (!L) := r52
          clear r52
          refine under_none rfl ?_
          simp [execOp, e37, e52, go_sem, softUpon, Fact.is, Below.refl]
        case fin =>
          intro a w1 hb hd hsz hk
          have ea := act_puts hd hsz rfl hk
          have k19 : a.tmps.getD 19 undef = .slice (some ad) n cap := hk 19
          have k20 : a.tmps.getD 20 undef = .int .i64 (k : Int) := hk 20
          have k21 : a.tmps.getD 21 undef = .pointer (some (Addr.add ad (k * 7))) := hk 21
          have k22 : a.tmps.getD 22 undef = .agg #[.int .i64 x.t, .int .i64 x.i, .int .i64 x.p, .int .i64 x.s, .int .i64 x.d, .string (str x.sv), .string (str x.nm)] := hk 22
          have k23 : a.tmps.getD 23 undef = .bool true := hk 23
          have k24 : a.tmps.getD 24 undef = .bool false := hk 24
          have k25 : a.tmps.getD 25 undef = .bool false := hk 25
          have k26 : a.tmps.getD 26 undef = .slice (some ad) n cap := hk 26
          have k27 : a.tmps.getD 27 undef = .int .i64 (k : Int) := hk 27
          have k28 : a.tmps.getD 28 undef = .pointer (some (Addr.add ad (k * 7))) := hk 28
          have k29 : a.tmps.getD 29 undef = .pointer (some (Addr.add ad (k * 7))) := hk 29
          have k30 : a.tmps.getD 30 undef = .int .i64 x.t := hk 30
          have k31 : a.tmps.getD 31 undef = .slice (some ad) n cap := hk 31
          have k32 : a.tmps.getD 32 undef = .pointer (some (Addr.add ad (0 * 7))) := hk 32
          have k33 : a.tmps.getD 33 undef = .pointer (some (Addr.add ad (0 * 7))) := hk 33
          have k34 : a.tmps.getD 34 undef = .int .i64 zt := hk 34
          have k35 : a.tmps.getD 35 undef = .bool false := hk 35
          have k36 : a.tmps.getD 36 undef = .bool false := hk 36
          have k37 : a.tmps.getD 37 undef = .bool false := hk 37
          have k38 : a.tmps.getD 38 undef = .int .i64 (k : Int) := hk 38
          have k39 : a.tmps.getD 39 undef = .bool true := hk 39
          have k40 : a.tmps.getD 40 undef = .bool true := hk 40
          have k41 : a.tmps.getD 41 undef = .slice (some ad) n cap := hk 41
          have k42 : a.tmps.getD 42 undef = .int .i64 (k : Int) := hk 42
          have k43 : a.tmps.getD 43 undef = .int .i64 ((k - 1 : Nat) : Int) := hk 43
          have k44 : a.tmps.getD 44 undef = .pointer (some (Addr.add ad ((k - 1) * 7))) := hk 44
          have k45 : a.tmps.getD 45 undef = .agg #[.int .i64 y.t, .int .i64 y.i, .int .i64 y.p, .int .i64 y.s, .int .i64 y.d, .string (str y.sv), .string (str y.nm)] := hk 45
          have k46 : a.tmps.getD 46 undef = .slice (some ad) n cap := hk 46
          have k47 : a.tmps.getD 47 undef = .int .i64 (k : Int) := hk 47
          have k48 : a.tmps.getD 48 undef = .pointer (some (Addr.add ad (k * 7))) := hk 48
          have k49 : a.tmps.getD 49 undef = .agg #[.int .i64 x.t, .int .i64 x.i, .int .i64 x.p, .int .i64 x.s, .int .i64 x.d, .string (str x.sv), .string (str x.nm)] := hk 49
          have k50 : a.tmps.getD 50 undef = .bool L := hk 50
          have k51 : a.tmps.getD 51 undef = .bool (!L) := hk 51
          have k52 : a.tmps.getD 52 undef = .bool (!L) := hk 52
          have k53 : a.tmps.getD 53 undef = .bool (!L) := hk 53
          clear hk hd hsz
          simp only [List.map_cons, List.map_nil, List.foldl_cons, List.foldl_nil, k19, k20, k21, k22, k23, k24, k25, k26, k27, k28, k29, k30, k31, k32, k33, k34, k35, k36, k37, k38, k39, k40, k41, k42, k43, k44, k45, k46, k47, k48, k49, k50, k51, k52, k53] at ea
          clear k19 k20 k21 k22 k23 k24 k25 k26 k27 k28 k29 k30 k31 k32 k33 k34 k35 k36 k37 k38 k39 k40 k41 k42 k43 k44 k45 k46 k47 k48 k49 k50 k51 k52 k53
          simp only [Act.put, List.setIfInBounds_toArray, List.set_cons_succ, List.set_cons_zero] at ea
          subst ea
          have dV := hbd.trans (hb.mono (by simp))
          have c1 := hbr.trans (dV.mono hbr.size)
          rcases L with _ | _
          · go_wp2
            go_ret
            exact ⟨by rw [HBO.out (by trivial)]; rfl, c1⟩
          have HGN2 := Lib.hid (HGN.out (by trivial))
          clear LX LXT LZT LY HLS HLL HBO HGN HR HPV HST1 HBT1
          go_wp2
          go_loopw [4] (fun i wr => ∃ r : Nat, i = .int .i64 r ∧ r ≤ k ∧ (∀ z ∈ l.take r, z.i ≠ x.i) ∧ Below w.heap.size w wr) (fun i _ => k - (intOf i).toNat)
          case atStart => exact ⟨0, rfl, Nat.zero_le _, by simp, c1⟩
          case round =>
            obtain ⟨r, rfl, hr, hz, hbi⟩ := hrel
            have HZ := Lib.hid hz
            clear hz
            by_cases hrk : r < k
            · have hrl : r < l.length := by omega
              obtain ⟨ad3, had3, -, hc3⟩ := at_span HA.out r hrl
              obtain rfl : ad = ad3 := by injection had3
              have z1 := (hc3 wr hbi).2.1
              have x1 := (HCX.out wr hbi).2.1
              have HB1 := Lib.hid (HBI.out r hrk hrl)
              have HZ1 := Lib.hid (show l[r].i ≠ x.i → ∀ z ∈ l.take (r + 1), z.i ≠ x.i from fun h z hz => by
                rw [List.take_succ_eq_append_getElem hrl] at hz
                rcases List.mem_append.1 hz with hz | hz
                · exact HZ.out z hz
                · rw [List.mem_singleton.1 hz]; exact h)
              clear hc3 had3
              generalize l[r] = z at *
              by_cases hii : z.i = x.i
              · have HF := Lib.hid (HB1.out hii)
                have hne : (z.i == x.i) = true := beq_iff_eq.2 hii
                clear hii
                go_wp2
                go_quiet (fail)
                go_wp2
                go_ret
                exact ⟨by rw [HF.out]; rfl, below_many hbi _⟩
              · have hne : (z.i == x.i) = false := beq_eq_false_iff_ne.2 hii
                have HZ2 := Lib.hid (HZ1.out hii)
                clear hii HZ1 HB1
                go_wp2
                go_quiet (fail)
                go_wp2
                go_roundw
                case rel => exact ⟨r + 1, by go_num, by omega, HZ2.out, below_many hbi _⟩
                case measure => simp [intOf]; omega
            · obtain rfl : r = k := by omega
              have HNN := Lib.hid (HIS.out HZ.out)
              go_wp2
              go_roundw
              case rel => exact ⟨r + 1, by go_num, by omega, HGN2.out, HNN.out, hbi⟩
              case measure => simp [intOf]; omega
    · obtain rfl : k = n := by omega
      have hend : Plain.isT l = true := good_end (by rw [HN.out]; exact HG.out) (by rw [HN.out]; omega) (by rw [HN.out]; omega) (by
        have := HND.out
        rwa [List.take_of_length_le (by rw [HN.out]; omega)] at this)
      have HEND := Lib.hid hend
      clear hend
      go_wp2
      go_ret
      exact ⟨by rw [HEND.out]; rfl, hbr⟩
end Go.Proofs.Ythcchfhkeghkhaa

