/-
  Layer 14, the document's answer: In of its index: what it answers, of any index. Nothing is assumed but that it lies in memory.
-/
import Derived.Test.YtepfbpljkhchbaaRiE

namespace Go.Proofs.Ytepfbpljkhchbaa
open Go.RowKit Go.Maps En
set_option maxRecDepth 100000

theorem row_step (m : List E) (s : Int) (i : Nat) (hi : i < m.length) : row (m.take (i + 1)) s = if m[i].seq = s then insP m[i] (row (m.take i) s) else row (m.take i) s := by
  unfold row
  rw [List.take_succ_eq_append_getElem hi, List.filter_append, List.foldl_append]
  by_cases h : m[i].seq = s
  · rw [if_pos h]; simp [h]
  · rw [if_neg h]; simp [h]
theorem mem_drop_at {α : Type} {l : List α} {k j : Nat} (h : k ≤ j) (hj : j < l.length) : l[j] ∈ l.drop k := by
  rw [List.mem_iff_getElem]
  exact ⟨j - k, by rw [List.length_drop]; omega, by rw [List.getElem_drop]; congr 1; omega⟩
/-- where one goes in -/
theorem insP_here {d : List E} {x : E} {k : Nat} (hk : k ≤ d.length) (hs : d.Pairwise (fun a b => ltP a b = true)) (hn : ∀ y ∈ d, y.id ≠ x.id) (h1 : ∀ y ∈ d.drop k, ltP x y = true) (h2 : ∀ (_ : 0 < k) (h : k - 1 < d.length), ltP x d[k - 1] = false) : insP x d = d.take k ++ [x] ++ d.drop k := by
  rw [insP_at (e := x) hk (fun j hj hjk => ?_) (fun h => ltP_le (h1 _ (mem_drop_at (Nat.le_refl _) h)))]
  · simp
  · have h3 := h2 (by omega) (by omega)
    have h4 : ltP d[k - 1] x = true := by
      cases h5 : ltP d[k - 1] x with
      | true => rfl
      | false => exact absurd (ltP_anti h5 h3) (hn _ (List.getElem_mem _))
    rcases Nat.lt_or_ge j (k - 1) with h5 | h5
    · exact ltP_trans (List.pairwise_iff_getElem.1 hs j (k - 1) hj (by omega) h5) h4
    · obtain rfl : j = k - 1 := by omega
      exact h4

set_option maxHeartbeats 2000000 in
theorem ahead14_any (x y : E) (A B : Option Addr) (na nb ca cb : Nat) (w : World) :
    Calls Try.prog 52 #[.agg (enA x (.slice A na ca)), .agg (enA y (.slice B nb cb))] w fun e w' => e = .returned (.bool (ltP x y)) ∧ Below w.heap.size w w' := by
  have HB := Lib.hid (show Below w.heap.size w ((w.alloc (.cells (enA x (.slice A na ca)) 35)).alloc (.cells (enA y (.slice B nb cb)) 35)) from ((Below.refl _ _).alloc (Nat.le_refl _) _).alloc (by simp) _)
  obtain ⟨L, hL⟩ : ∃ L, ltP x y = L := ⟨_, rfl⟩
  rw [hL]
  have HL := Lib.hid hL
  clear hL
  unfold enA at *
  by_cases h3 : x.pl < y.pl
  · have t1 : decide (x.pl < y.pl) = true := decide_eq_true h3
    obtain rfl : L = true := by rw [← HL.out, ltP_iff]; exact .inl h3
    go_enter Try.func52, Try.ntmps52
    go_wp2_with fail
    go_ret
    exact ⟨rfl, HB.out⟩
  · have t1 : decide (x.pl < y.pl) = false := decide_eq_false h3
    by_cases h4 : x.pl = y.pl
    · have t2 : (x.pl == y.pl) = true := by simpa using h4
      by_cases h5 : x.id < y.id
      · have t3 : decide (x.id < y.id) = true := decide_eq_true h5
        obtain rfl : L = true := by rw [← HL.out, ltP_iff]; exact .inr ⟨h4, h5⟩
        have H4 := Lib.hid h4
        clear h4
        go_enter Try.func52, Try.ntmps52
        go_wp2_with fail
        go_ret
        exact ⟨rfl, HB.out⟩
      · have t3 : decide (x.id < y.id) = false := decide_eq_false h5
        obtain rfl : L = false := by rw [← HL.out, ltP_no]; omega
        have H4 := Lib.hid h4
        clear h4
        go_enter Try.func52, Try.ntmps52
        go_wp2_with fail
        go_ret
        exact ⟨rfl, HB.out⟩
    · have t2 : (x.pl == y.pl) = false := beq_eq_false_iff_ne.2 h4
      obtain rfl : L = false := by rw [← HL.out, ltP_no]; omega
      go_enter Try.func52, Try.ntmps52
      go_wp2_with fail
      go_ret
      exact ⟨rfl, HB.out⟩

section
variable {S : List Nat} {w : World} {r : Nat} {m : List E}
set_option maxHeartbeats 8000000 in
theorem rin14_any (h : IsRef S w r m) (hu : Uq m) (s : Int) :
    Calls Try.prog 30 #[.pointer (some ⟨r, 0, none⟩), .int .i64 s] w fun e w' => ∃ v, e = .returned v ∧ w'.ownsRow w.heap.size 2 1 v (inn m s).length (nums (inn m s)) ∧ Below w.heap.size w w' := by
  obtain ⟨i0, hi0, hz0, hz1, hz2⟩ := info_parts infoL
  obtain ⟨A, cap, ts, hbx, ht, h1, h2, hl, -, hok⟩ := h.row
  have h1000 := h.few
  have HU := Lib.hid hu
  have HL := Lib.hid hl
  have HT := Lib.hid ht
  have HWH := Lib.hid (show row (m.take m.length) s = row m s by rw [List.take_length])
  have HIN := Lib.hid (show inn m s = (row m s).map E.id from rfl)
  obtain ⟨n, hn⟩ : ∃ n, m.length = n := ⟨_, rfl⟩
  rw [hn] at h1 h1000 hbx HWH
  have HN := Lib.hid hn
  have HTL := Lib.hid (show ts.length = n by rw [← hn, ← ht, List.length_map])
  have HC0 := Lib.hid (fun (W : World) (hW : Below w.heap.size w W) => show W.cell? ⟨r, 0, none⟩ = some (.slice A n cap) from ((Kept.of hW []).blk hbx (by simp)).cell 0)
  clear h hbx ht hl hok hn hu
  unfold maxLen at h2
  go_enter Try.func30, Try.ntmps30
  go_wp2
  go_loopw [5, 6] (fun v s6 wr => ∃ (i md capr : Nat) (Ar : Option Addr) (us : List Ent), s6 = .int .i64 (i : Int) ∧ i ≤ n ∧ v = .slice Ar md capr ∧ us.length = md ∧ md ≤ i ∧ md ≤ capr ∧ capr ≤ maxLen ∧ Lies wr Ar (flatEn us) ∧ us.map Ent.e = row (m.take i) s ∧ Below w.heap.size w wr) (fun _ i _ => n - (intOf i).toNat)
  case atStart => exact ⟨0, 0, 0, none, [], rfl, Nat.zero_le _, rfl, rfl, Nat.le_refl _, Nat.le_refl _, Nat.zero_le _, .inl rfl, rfl, Below.refl _ _⟩
  case round =>
    obtain ⟨i, md, capr, Ar, us, rfl, hi, rfl, hul, hmi, hcr, hmr, hld, hsr, hbr⟩ := hrel
    have HUL := Lib.hid hul
    have HLD := Lib.hid hld
    have HSR := Lib.hid hsr
    have hAr : Ar = none → md = 0 := by rw [← hul]; exact lies_noneE hld
    have HM := Lib.hid hmr
    unfold maxLen at hmr
    have c0 := HC0.out wr hbr
    clear hul hld hsr
    by_cases hlt : i < n
    · have him : i < m.length := by rw [HN.out]; exact hlt
      have hit : i < ts.length := by rw [HTL.out]; exact hlt
      obtain ⟨ad, rfl, hadb, hc⟩ := at_ent HL.out i hit
      have hte : ts[i].e = m[i] := by have := HT.out; subst this; simp
      have HX0 := Lib.hid (fun (W : World) (hW : Below w.heap.size w W) => run_loadRow W (ad.add (i * 13)) ts[i] (hc W hW))
      have hst := row_step m s i him
      rw [← HSR.out] at hst
      have hsort : (us.map Ent.e).Pairwise (fun a b => ltP a b = true) := by rw [HSR.out]; exact row_so (HU.out.sub (List.take_sublist _ _)) _
      have hni : ∀ y ∈ us.map Ent.e, y.id ≠ m[i].id := fun y hy e => by
        rw [HSR.out] at hy
        have hy2 := (mem_row.1 hy).1
        obtain ⟨t, ht, rfl⟩ := List.getElem_of_mem hy2
        rw [List.length_take] at ht
        rw [List.getElem_take] at e
        have h5 := List.pairwise_iff_getElem.1 HU.out t i (by rw [List.length_map]; omega) (by rw [List.length_map]; exact him) (by omega)
        simp only [List.getElem_map] at h5
        exact h5 e
      obtain ⟨-, -, -, -, -, -, -, -, -, -, d10, -⟩ := ent_all (hc wr hbr)
      rw [hte] at d10
      have hix := fun (W : World) => show (Instr.indexAt 51 (.slice (some ad) n cap) (.int .i64 (i : Int))).run Try.prog W = .ok (.pointer (some (ad.add (i * 13)))) W by go_simp
      obtain ⟨x, hx⟩ : ∃ x, ts[i] = x := ⟨_, rfl⟩
      have hxe : x.e = m[i] := by rw [← hx]; exact hte
      rw [hx] at HX0
      rw [← hxe] at hst hni d10
      have HST := Lib.hid hst
      have HNX := Lib.hid (show ∀ j, j ≤ md → (∀ y ∈ (us.map Ent.e).drop j, ltP x.e y = true) → (∀ (_ : 0 < j) (h : j - 1 < (us.map Ent.e).length), ltP x.e (us.map Ent.e)[j - 1] = false) → x.e.seq = s → row (m.take (i + 1)) s = (us.take j ++ [x] ++ us.drop j).map Ent.e from fun j h1 h2 h3 h4 => by
        rw [HST.out, if_pos h4, insP_here (by rw [List.length_map, HUL.out]; exact h1) hsort hni h2 h3]
        simp)
      clear hte hst hni hsort hx hc him hit hxe
      by_cases hsq : x.e.seq = s
      rotate_left
      · have hq : (x.e.seq != s) = true := by simpa using hsq
        have HSQ := Lib.hid hsq
        clear hsq
        generalize ad.add (i * 13) = q at *
        go_wp2_with fail
        go_roundw
        case rel => exact ⟨i + 1, md, capr, Ar, us, by go_num, by omega, rfl, HUL.out, by omega, hcr, HM.out, HLD.out, by rw [HST.out, if_neg HSQ.out], hbr⟩
        case measure => simp [intOf]; omega
      have hq : (x.e.seq != s) = false := by simpa using hsq
      have HNX2 := Lib.hid (fun j h1 h2 h3 => HNX.out j h1 h2 h3 hsq)
      obtain ⟨X1, hX1⟩ : ∃ X1, X1 = enA x.e (.slice x.A x.e.sv.length x.cap) := ⟨_, rfl⟩
      rw [← hX1] at HX0
      have HX1 := Lib.hid hX1
      clear HNX HST hsq hX1
      have HNX := HNX2
      have HBR := Lib.hid hbr
      clear HNX2
      go_wp2_with fail
      clear d10 hix c0
      obtain ⟨w0, hw0⟩ : ∃ w0, w0 = wr := ⟨_, rfl⟩
      subst hw0
      go_loopw [7] (fun s7 wr2 => ∃ j : Nat, s7 = .int .i64 (j : Int) ∧ j ≤ md ∧ (∀ y ∈ (us.map Ent.e).drop j, ltP x.e y = true) ∧ Below w0.heap.size w0 wr2) (fun s7 _ => (intOf s7).toNat)
      case atStart => exact ⟨md, rfl, Nat.le_refl _, by rw [List.drop_eq_nil_of_le (by rw [List.length_map, HUL.out]; omega)]; simp, Below.refl _ _⟩
      case round =>
        obtain ⟨j, rfl, hj, hall, hbi⟩ := hrel
        have HALL := Lib.hid hall
        clear hall
        have cr := HBR.out.trans (hbi.mono HBR.out.size)
        have HLD2 := Lib.hid (HLD.out.below hbi)
        have hbd : Below wr.heap.size wr wr.drew := (Below.refl _ _).drew
        have HC2 := Lib.hid (fun (W : World) (h : Below wr.heap.size wr W) => HC0.out W (cr.trans (h.mono cr.size)))
        have LX := Lib.hid (fun (W : World) (h : Below wr.heap.size wr W) => HX0.out W (cr.trans (h.mono cr.size)))
        by_cases hj0 : 0 < j
        · have hjd : j - 1 < us.length := by rw [HUL.out]; omega
          obtain ⟨od, rfl, -, hco⟩ := at_ent HLD2.out (j - 1) hjd
          have GT := Lib.hid (fun (W : World) => gtr_int W (j : Int) 0 true (by simp; omega))
          have SB := Lib.hid (fun (W : World) => sub_one W j hj0 (by omega))
          have LY := Lib.hid (fun (W : World) (h : Below wr.heap.size wr W) => run_loadRow W (od.add ((j - 1) * 13)) us[j - 1] (hco W h))
          have HYES := Lib.hid (show ltP x.e us[j - 1].e = true → ∀ z ∈ (us.map Ent.e).drop (j - 1), ltP x.e z = true from fun h z hz => by
            rw [List.drop_eq_getElem_cons (by rw [List.length_map]; exact hjd), show j - 1 + 1 = j by omega] at hz
            rcases List.mem_cons.1 hz with rfl | hz
            · simpa using h
            · exact HALL.out z hz)
          have HDJ := Lib.hid (show ∀ h : j - 1 < (us.map Ent.e).length, (us.map Ent.e)[j - 1] = us[j - 1].e from fun h => by simp)
          clear hco
          generalize us[j - 1] = Y at *
          obtain ⟨L, hL⟩ : ∃ L, ltP x.e Y.e = L := ⟨_, rfl⟩
          rw [hL] at HYES
          have HLV := Lib.hid hL
          obtain ⟨X2, hX2⟩ : ∃ X2, X2 = enA Y.e (.slice Y.A Y.e.sv.length Y.cap) := ⟨_, rfl⟩
          rw [← hX2] at LY
          have HLS := Lib.hid (fun (W : World) => show Calls Try.prog 52 #[.agg X1, .agg X2] W (fun e w' => e = .returned (.bool L) ∧ Below W.heap.size W w') by rw [HX1.out, hX2, ← hL]; exact ahead14_any _ _ _ _ _ _ _ _ W)
          clear hL hX2
          go_wp2
          refine wp_softS (by kernel_rfl) 84 [(31, [7]), (32, [31]), (33, [32]), (34, [0, 33]), (35, [34, 33]), (36, [35, 33]), (37, [36, 33]), (38, [6, 33]), (39, [37, 38, 33]), (40, [39, 33]), (41, [5, 33]), (42, [7, 33]), (43, [42, 33]), (44, [41, 43, 33]), (45, [44, 33]), (46, [40, 45, 33]), (47, [33, 46])]
            [Fact.is (.int .i64 (j : Int)), Fact.is (.bool true), Fact.is (.bool true), Fact.is (.pointer (some ⟨r, 0, none⟩)), Fact.is (.pointer (some ⟨r, 0, none⟩)), Fact.is (.pointer (some ⟨r, 0, none⟩)), Fact.is (.slice (some ad) n cap), Fact.is (.int .i64 (i : Int)), Fact.is (.pointer (some (Addr.add ad (i * 13)))), Fact.is (.agg X1), Fact.is (.slice (some od) md capr), Fact.is (.int .i64 (j : Int)), Fact.is (.int .i64 ((j - 1 : Nat) : Int)), Fact.is (.pointer (some (Addr.add od ((j - 1) * 13)))), Fact.is (.agg X2), Fact.is (.bool L), Fact.is (.bool L)]
            (by kernel_rfl) rfl rfl ⟨?s0, ?s1, ?s2, ?s3, ?s4, ?s5, ?s6, ?s7, ?s8, ?s9, ?s10, ?s11, ?s12, ?s13, ?s14, ?s15, ?s16, trivial⟩ ?fin
          case s0 =>
            intro ρ W hb hc hf hr
            obtain ⟨r7, -⟩ := hr
            have e7 : ρ (.tmp 7) = .int .i64 (j : Int) := r7
            clear r7
            refine under_none rfl ?_
            exact ⟨e7, Below.refl _ _⟩
          case s1 =>
            intro ρ W hb hc hf hr
            obtain ⟨r31, -⟩ := hr
            have e31 : ρ (.tmp 31) = .int .i64 (j : Int) := r31
            clear r31
            refine under_none rfl ?_
            exact soft_bin e31 (hc _) rfl rfl (GT.out W)
          case s2 =>
            intro ρ W hb hc hf hr
            obtain ⟨r32, -⟩ := hr
            have e32 : ρ (.tmp 32) = .bool true := r32
            clear r32
            refine under_none rfl ?_
            exact ⟨e32, Below.refl _ _⟩
          case s3 =>
            intro ρ W hb hc hf hr
            obtain ⟨r0, r33, -⟩ := hr
            have e0 : ρ (.tmp 0) = .pointer (some ⟨r, 0, none⟩) := r0
            clear r0
            have e33 : ρ (.tmp 33) = .bool true := r33
            clear r33
            refine ⟨33, rfl, .inl ⟨e33, ?_⟩⟩
            exact ⟨e0, Below.refl _ _⟩
          case s4 =>
            intro ρ W hb hc hf hr
            obtain ⟨r34, r33, -⟩ := hr
            have e34 : ρ (.tmp 34) = .pointer (some ⟨r, 0, none⟩) := r34
            clear r34
            have e33 : ρ (.tmp 33) = .bool true := r33
            clear r33
            refine ⟨33, rfl, .inl ⟨e33, ?_⟩⟩
            simp [execOp, e34, go_sem, softUpon, Fact.is, Below.refl]
          case s5 =>
            intro ρ W hb hc hf hr
            obtain ⟨r35, r33, -⟩ := hr
            have e35 : ρ (.tmp 35) = .pointer (some ⟨r, 0, none⟩) := r35
            clear r35
            have e33 : ρ (.tmp 33) = .bool true := r33
            clear r33
            refine ⟨33, rfl, .inl ⟨e33, ?_⟩⟩
            exact soft_field e35 rfl (fun W => by go_simp)
          case s6 =>
            intro ρ W hb hc hf hr
            obtain ⟨r36, r33, -⟩ := hr
            have e36 : ρ (.tmp 36) = .pointer (some ⟨r, 0, none⟩) := r36
            clear r36
            have e33 : ρ (.tmp 33) = .bool true := r33
            clear r33
            refine ⟨33, rfl, .inl ⟨e33, ?_⟩⟩
            exact soft_load e36 (run_loadEs W _ _ (HC2.out W (hbd.trans (hb.mono (by simp))))) rfl
          case s7 =>
            intro ρ W hb hc hf hr
            obtain ⟨r6, r33, -⟩ := hr
            have e6 : ρ (.tmp 6) = .int .i64 (i : Int) := r6
            clear r6
            have e33 : ρ (.tmp 33) = .bool true := r33
            clear r33
            refine ⟨33, rfl, .inl ⟨e33, ?_⟩⟩
            exact ⟨e6, Below.refl _ _⟩
          case s8 =>
            intro ρ W hb hc hf hr
            obtain ⟨r37, r38, r33, -⟩ := hr
            have e37 : ρ (.tmp 37) = .slice (some ad) n cap := r37
            clear r37
            have e38 : ρ (.tmp 38) = .int .i64 (i : Int) := r38
            clear r38
            have e33 : ρ (.tmp 33) = .bool true := r33
            clear r33
            refine ⟨33, rfl, .inl ⟨e33, ?_⟩⟩
            exact soft_index13 e37 e38 (by omega) rfl
          case s9 =>
            intro ρ W hb hc hf hr
            obtain ⟨r39, r33, -⟩ := hr
            have e39 : ρ (.tmp 39) = .pointer (some (Addr.add ad (i * 13))) := r39
            clear r39
            have e33 : ρ (.tmp 33) = .bool true := r33
            clear r33
            refine ⟨33, rfl, .inl ⟨e33, ?_⟩⟩
            exact soft_load e39 (LX.out W (hbd.trans (hb.mono (by simp)))) rfl
          case s10 =>
            intro ρ W hb hc hf hr
            obtain ⟨r5, r33, -⟩ := hr
            have e5 : ρ (.tmp 5) = .slice (some od) md capr := r5
            clear r5
            have e33 : ρ (.tmp 33) = .bool true := r33
            clear r33
            refine ⟨33, rfl, .inl ⟨e33, ?_⟩⟩
            exact ⟨e5, Below.refl _ _⟩
          case s11 =>
            intro ρ W hb hc hf hr
            obtain ⟨r7, r33, -⟩ := hr
            have e7 : ρ (.tmp 7) = .int .i64 (j : Int) := r7
            clear r7
            have e33 : ρ (.tmp 33) = .bool true := r33
            clear r33
            refine ⟨33, rfl, .inl ⟨e33, ?_⟩⟩
            exact ⟨e7, Below.refl _ _⟩
          case s12 =>
            intro ρ W hb hc hf hr
            obtain ⟨r42, r33, -⟩ := hr
            have e42 : ρ (.tmp 42) = .int .i64 (j : Int) := r42
            clear r42
            have e33 : ρ (.tmp 33) = .bool true := r33
            clear r33
            refine ⟨33, rfl, .inl ⟨e33, ?_⟩⟩
            exact soft_bin e42 (hc _) rfl rfl (SB.out W)
          case s13 =>
            intro ρ W hb hc hf hr
            obtain ⟨r41, r43, r33, -⟩ := hr
            have e41 : ρ (.tmp 41) = .slice (some od) md capr := r41
            clear r41
            have e43 : ρ (.tmp 43) = .int .i64 ((j - 1 : Nat) : Int) := r43
            clear r43
            have e33 : ρ (.tmp 33) = .bool true := r33
            clear r33
            refine ⟨33, rfl, .inl ⟨e33, ?_⟩⟩
            exact soft_index13 e41 e43 (by omega) rfl
          case s14 =>
            intro ρ W hb hc hf hr
            obtain ⟨r44, r33, -⟩ := hr
            have e44 : ρ (.tmp 44) = .pointer (some (Addr.add od ((j - 1) * 13))) := r44
            clear r44
            have e33 : ρ (.tmp 33) = .bool true := r33
            clear r33
            refine ⟨33, rfl, .inl ⟨e33, ?_⟩⟩
            exact soft_load e44 (LY.out W (hbd.trans (hb.mono (by simp)))) rfl
          case s15 =>
            intro ρ W hb hc hf hr
            obtain ⟨r40, r45, r33, -⟩ := hr
            have e40 : ρ (.tmp 40) = .agg X1 := r40
            clear r40
            have e45 : ρ (.tmp 45) = .agg X2 := r45
            clear r45
            have e33 : ρ (.tmp 33) = .bool true := r33
            clear r33
            refine ⟨33, rfl, .inl ⟨e33, ?_⟩⟩
            exact soft_call2 hf e40 e45 (HLS.out W) rfl (by kernel_rfl) below_is
          case s16 =>
            intro ρ W hb hc hf hr
            obtain ⟨r33, r46, -⟩ := hr
            have e33 : ρ (.tmp 33) = .bool true := r33
            clear r33
            have e46 : ρ (.tmp 46) = .bool L := r46
            clear r46
            refine under_none rfl ?_
            simp [execOp, e33, e46, go_sem, softUpon, Fact.is, Below.refl]
          case fin =>
            intro a w1 hb hd hsz hk
            have ea := act_puts hd hsz rfl hk
            have k31 : a.tmps.getD 31 undef = .int .i64 (j : Int) := hk 31
            have k32 : a.tmps.getD 32 undef = .bool true := hk 32
            have k33 : a.tmps.getD 33 undef = .bool true := hk 33
            have k34 : a.tmps.getD 34 undef = .pointer (some ⟨r, 0, none⟩) := hk 34
            have k35 : a.tmps.getD 35 undef = .pointer (some ⟨r, 0, none⟩) := hk 35
            have k36 : a.tmps.getD 36 undef = .pointer (some ⟨r, 0, none⟩) := hk 36
            have k37 : a.tmps.getD 37 undef = .slice (some ad) n cap := hk 37
            have k38 : a.tmps.getD 38 undef = .int .i64 (i : Int) := hk 38
            have k39 : a.tmps.getD 39 undef = .pointer (some (Addr.add ad (i * 13))) := hk 39
            have k40 : a.tmps.getD 40 undef = .agg X1 := hk 40
            have k41 : a.tmps.getD 41 undef = .slice (some od) md capr := hk 41
            have k42 : a.tmps.getD 42 undef = .int .i64 (j : Int) := hk 42
            have k43 : a.tmps.getD 43 undef = .int .i64 ((j - 1 : Nat) : Int) := hk 43
            have k44 : a.tmps.getD 44 undef = .pointer (some (Addr.add od ((j - 1) * 13))) := hk 44
            have k45 : a.tmps.getD 45 undef = .agg X2 := hk 45
            have k46 : a.tmps.getD 46 undef = .bool L := hk 46
            have k47 : a.tmps.getD 47 undef = .bool L := hk 47
            clear hk hd hsz
            simp only [List.map_cons, List.map_nil, List.foldl_cons, List.foldl_nil, k31, k32, k33, k34, k35, k36, k37, k38, k39, k40, k41, k42, k43, k44, k45, k46, k47] at ea
            clear k31 k32 k33 k34 k35 k36 k37 k38 k39 k40 k41 k42 k43 k44 k45 k46 k47
            simp only [Act.put, List.setIfInBounds_toArray, List.set_cons_succ, List.set_cons_zero] at ea
            subst ea
            have dV := hbd.trans (hb.mono (by simp))
            clear hb
            have hbd1 : Below w1.heap.size w1 w1.drew := (Below.refl _ _).drew
            have c1 := cr.trans (dV.mono cr.size)
            rcases L with _ | _
            · have HEX := Lib.hid (show ∀ (_ : 0 < j) (h : j - 1 < (us.map Ent.e).length), ltP x.e (us.map Ent.e)[j - 1] = false from fun _ h => by rw [HDJ.out h]; exact HLV.out)
              have HLD1 := Lib.hid (HLD2.out.below dV)
              have LX1 := Lib.hid (fun (W : World) (h : Below w1.heap.size w1 W) => LX.out W (dV.trans (h.mono dV.size)))
              have HC1 := Lib.hid (fun (W : World) (h : Below w1.heap.size w1 W) => HC2.out W (dV.trans (h.mono dV.size)))
              go_wp2
              refine wp_late (by kernel_rfl) 84 [(50, []), (51, [5]), (52, [7]), (53, [51, 52]), (54, [50, 53]), (55, [0]), (56, [55]), (57, [56]), (58, [57]), (59, [6]), (60, [58, 59]), (61, [60]), (62, [61]), (1013, [54, 62]), (64, [5]), (65, [7]), (66, [64, 65]), (1017, [63, 66]), (1018, [67])]
                [Fact.fresh w1.heap.size 35, Fact.is (.slice (some od) md capr), Fact.is (.int .i64 (j : Int)), Fact.lie j (flatEn (us.take j)), Fact.row w1.heap.size 35 13 j (flatEn (us.take j)), Fact.is (.pointer (some ⟨r, 0, none⟩)), Fact.is (.pointer (some ⟨r, 0, none⟩)), Fact.is (.pointer (some ⟨r, 0, none⟩)), Fact.is (.slice (some ad) n cap), Fact.is (.int .i64 (i : Int)), Fact.is (.pointer (some (Addr.add ad (i * 13)))), Fact.is (.agg X1), Fact.lie 1 (flatEn [x]), default, Fact.is (.slice (some od) md capr), Fact.is (.int .i64 (j : Int)), Fact.is (.slice (if capr = j then (some od) else ((some od)).map (·.add (j * 13))) (md - j) (capr - j)), default, default]
                [1, 1, 1, 1, 1, 1, 1, 1, 1, 1, 1, 1, 1, 2, 0, 0, 0, 2, 2] [13, 17, 18] [63, 67, 5] [50, 51, 52, 53, 54, 55, 56, 57, 58, 59, 60, 61, 62, 63, 64, 65, 66, 67, 5] (ThreeE w1.heap.size j md us x w1)
                (by kernel_rfl) (by kernel_rfl) rfl rfl ⟨?s0, ?s1, ?s2, ?s3, ?s4, ?s5, ?s6, ?s7, ?s8, ?s9, ?s10, ?s11, ?s12, ?s14, ?s15, ?s16, trivial⟩ ?late ?fin
              case s0 =>
                intro ρ W hb hc hf hr
                clear hr
                refine under_none rfl ?_
                exact soft_freshE (hbd1.trans (hb.mono (by simp))).size rfl
              case s1 =>
                intro ρ W hb hc hf hr
                obtain ⟨r5, -⟩ := hr
                have e5 : ρ (.tmp 5) = .slice (some od) md capr := r5
                clear r5
                refine under_none rfl ?_
                exact ⟨e5, Below.refl _ _⟩
              case s2 =>
                intro ρ W hb hc hf hr
                obtain ⟨r7, -⟩ := hr
                have e7 : ρ (.tmp 7) = .int .i64 (j : Int) := r7
                clear r7
                refine under_none rfl ?_
                exact ⟨e7, Below.refl _ _⟩
              case s3 =>
                intro ρ W hb hc hf hr
                obtain ⟨r51, r52, -⟩ := hr
                have e51 : ρ (.tmp 51) = .slice (some od) md capr := r51
                clear r51
                have e52 : ρ (.tmp 52) = .int .i64 (j : Int) := r52
                clear r52
                refine under_none rfl ?_
                exact soft_takeLE e51 e52 HUL.out hj hcr hmr (HLD1.out.below (hbd1.trans (hb.mono (by simp)))) rfl
              case s4 =>
                intro ρ W hb hc hf hr
                obtain ⟨r50, r53, -⟩ := hr
                refine under_none rfl ?_
                exact soft_app0LE r50 r53 (by rw [List.length_take, HUL.out]; omega) (by omega) rfl
              case s5 =>
                intro ρ W hb hc hf hr
                obtain ⟨r0, -⟩ := hr
                have e0 : ρ (.tmp 0) = .pointer (some ⟨r, 0, none⟩) := r0
                clear r0
                refine under_none rfl ?_
                exact ⟨e0, Below.refl _ _⟩
              case s6 =>
                intro ρ W hb hc hf hr
                obtain ⟨r55, -⟩ := hr
                have e55 : ρ (.tmp 55) = .pointer (some ⟨r, 0, none⟩) := r55
                clear r55
                refine under_none rfl ?_
                simp [execOp, e55, go_sem, softUpon, Fact.is, Below.refl]
              case s7 =>
                intro ρ W hb hc hf hr
                obtain ⟨r56, -⟩ := hr
                have e56 : ρ (.tmp 56) = .pointer (some ⟨r, 0, none⟩) := r56
                clear r56
                refine under_none rfl ?_
                exact soft_field e56 rfl (fun W => by go_simp)
              case s8 =>
                intro ρ W hb hc hf hr
                obtain ⟨r57, -⟩ := hr
                have e57 : ρ (.tmp 57) = .pointer (some ⟨r, 0, none⟩) := r57
                clear r57
                refine under_none rfl ?_
                exact soft_load e57 (run_loadEs W _ _ (HC1.out W (hbd1.trans (hb.mono (by simp))))) rfl
              case s9 =>
                intro ρ W hb hc hf hr
                obtain ⟨r6, -⟩ := hr
                have e6 : ρ (.tmp 6) = .int .i64 (i : Int) := r6
                clear r6
                refine under_none rfl ?_
                exact ⟨e6, Below.refl _ _⟩
              case s10 =>
                intro ρ W hb hc hf hr
                obtain ⟨r58, r59, -⟩ := hr
                have e58 : ρ (.tmp 58) = .slice (some ad) n cap := r58
                clear r58
                have e59 : ρ (.tmp 59) = .int .i64 (i : Int) := r59
                clear r59
                refine under_none rfl ?_
                exact soft_index13 e58 e59 (by omega) rfl
              case s11 =>
                intro ρ W hb hc hf hr
                obtain ⟨r60, -⟩ := hr
                have e60 : ρ (.tmp 60) = .pointer (some (Addr.add ad (i * 13))) := r60
                clear r60
                refine under_none rfl ?_
                exact soft_load e60 (LX1.out W (hbd1.trans (hb.mono (by simp)))) rfl
              case s12 =>
                intro ρ W hb hc hf hr
                obtain ⟨r61, -⟩ := hr
                have e61 : ρ (.tmp 61) = .agg X1 := r61
                clear r61
                refine under_none rfl ?_
                exact soft_oneE (e61.trans (by rw [HX1.out])) rfl
              case s14 =>
                refine ⟨rfl, _, rfl, ?_⟩
                intro ρ W hc hf hr
                obtain ⟨r5, -⟩ := hr
                have e5 : ρ (.tmp 5) = .slice (some od) md capr := r5
                clear r5
                simp [execOp, e5]
              case s15 =>
                refine ⟨rfl, _, rfl, ?_⟩
                intro ρ W hc hf hr
                obtain ⟨r7, -⟩ := hr
                have e7 : ρ (.tmp 7) = .int .i64 (j : Int) := r7
                clear r7
                simp [execOp, e7]
              case s16 =>
                refine ⟨rfl, _, rfl, ?_⟩
                intro ρ W hc hf hr
                obtain ⟨r64, r65, -⟩ := hr
                have e64 : ρ (.tmp 64) = .slice (some od) md capr := r64
                clear r64
                have e65 : ρ (.tmp 65) = .int .i64 (j : Int) := r65
                clear r65
                exact run_dropLE e64 e65 hj hcr hmr hAr rfl
              case late =>
                intro p j o hj ho a W hsz h0 h1 hfr hou
                match p, hj with
                | 0, hj =>
                  obtain rfl : 13 = j := Option.some.inj hj
                  obtain rfl := Option.some.inj ho
                  clear hj ho
                  obtain ⟨hb, hhard⟩ := h0 rfl
                  have r54 : (Fact.row w1.heap.size 35 13 j (flatEn (us.take j))).φ (a.tmps.getD 54 undef) W := hhard 54 4 rfl rfl
                  have r62 : (Fact.lie 1 (flatEn [x])).φ (a.tmps.getD 62 undef) W := hhard 62 12 rfl rfl
                  clear h0 h1 hhard hfr hou
                  refine late_appE (s := .tmp 54) (x := .tmp 62) (n := j) (m := 1) (l := us.take j) (k := [x]) r54 r62 rfl (by omega) (hbd1.trans (hb.mono (by simp))).size rfl fun v w' ho hbb => ⟨v, rfl, ?_⟩
                  exact ⟨hbb _ (hbd1.trans (hb.mono (by simp))), fun _ => by simpa [Act.put, Array.getD_eq_getD_getElem?, hsz] using ho, fun h => absurd h (by omega), fun h => absurd h (by omega)⟩
                | 1, hj =>
                  obtain rfl : 17 = j := Option.some.inj hj
                  obtain rfl := Option.some.inj ho
                  clear hj ho
                  have hP := h1 (by omega)
                  have e66 : a.eval (.tmp 66) = .slice (if capr = j then (some od) else ((some od)).map (·.add (j * 13))) (md - j) (capr - j) := hfr 66 16 rfl rfl (by kernel_rfl)
                  clear h0 h1 hfr hou
                  obtain ⟨hb, ho, -, -⟩ := hP
                  refine late_appE (s := .tmp 63) (x := .tmp 66) (n := j + 1) (m := md - j) (l := us.take j ++ [x]) (k := us.drop j) (ho rfl) ⟨_, _, e66, drop_liesE HUL.out hcr (HLD1.out.below hb)⟩ (by rw [List.length_drop, HUL.out]) (by omega) hb.size rfl fun v w' ho2 hbb => ⟨v, rfl, ?_⟩
                  have ejk : j + 1 + (md - j) = md + 1 := by omega
                  rw [ejk] at ho2
                  exact ⟨hbb _ hb, fun h => absurd h (by omega), fun _ => by simpa [Act.put, Array.getD_eq_getD_getElem?, hsz] using ho2, fun h => absurd h (by omega)⟩
                | 2, hj =>
                  obtain rfl : 18 = j := Option.some.inj hj
                  obtain rfl := Option.some.inj ho
                  clear hj ho
                  have hP := h1 (by omega)
                  clear h0 h1 hfr hou
                  obtain ⟨hb, -, ho, -⟩ := hP
                  refine late_assign rfl rfl ⟨_, rfl, ?_⟩
                  exact ⟨hb, fun h => absurd h (by omega), fun _ => by simpa [Act.put, Array.getD_eq_getD_getElem?, hsz] using ho (by omega), fun _ => by simp [Act.put, Act.eval, Array.getD_eq_getD_getElem?, hsz]⟩
                | q + 3, hj => cases hj
              case fin =>
                intro a w2 ha hP
                obtain ⟨d2, -, ho2, he2⟩ := hP
                have e5 : a.tmps.getD 5 undef = a.tmps.getD 67 undef := by simpa using he2 rfl
                have hr2 : w2.ownsRow w1.heap.size 35 13 (a.tmps.getD 67 undef) (md + 1) (flatEn (us.take j ++ [x] ++ us.drop j)) := ho2 (by decide)
                clear he2 ho2
                obtain ⟨v67, e67⟩ : ∃ v, a.tmps.getD 67 undef = v := ⟨_, rfl⟩
                rw [e67] at e5 hr2
                simp only [List.foldl_cons, List.foldl_nil, e5, e67] at ha
                clear e5 e67
                generalize a.tmps.getD 50 undef = v50 at ha
                generalize a.tmps.getD 51 undef = v51 at ha
                generalize a.tmps.getD 52 undef = v52 at ha
                generalize a.tmps.getD 53 undef = v53 at ha
                generalize a.tmps.getD 54 undef = v54 at ha
                generalize a.tmps.getD 55 undef = v55 at ha
                generalize a.tmps.getD 56 undef = v56 at ha
                generalize a.tmps.getD 57 undef = v57 at ha
                generalize a.tmps.getD 58 undef = v58 at ha
                generalize a.tmps.getD 59 undef = v59 at ha
                generalize a.tmps.getD 60 undef = v60 at ha
                generalize a.tmps.getD 61 undef = v61 at ha
                generalize a.tmps.getD 62 undef = v62 at ha
                generalize a.tmps.getD 63 undef = v63 at ha
                generalize a.tmps.getD 64 undef = v64 at ha
                generalize a.tmps.getD 65 undef = v65 at ha
                generalize a.tmps.getD 66 undef = v66 at ha
                simp only [Act.put, List.setIfInBounds_toArray, List.set_cons_succ, List.set_cons_zero] at ha
                subst ha
                have HD3 := Lib.hid (HNX.out j hj HALL.out HEX.out)
                have HL3 := Lib.hid (show (us.take j ++ [x] ++ us.drop j).length = md + 1 by simp [HUL.out]; omega)
                obtain ⟨A7, cap7, rfl, hl7, hm7, hL7, -⟩ := row_form hr2
                have HL7 := Lib.hid (hL7.resolve_left (by omega))
                have c2 := c1.trans (d2.mono c1.size)
                have HM7 := Lib.hid hm7
                clear hr2 hL7 d2 hm7
                go_wp2
                go_roundw
                case rel => exact ⟨i + 1, md + 1, cap7, A7, us.take j ++ [x] ++ us.drop j, by go_num, by omega, rfl, HL3.out, by omega, hl7, HM7.out, HL7.out, HD3.out.symm, c2⟩
                case measure => simp [intOf]; omega
            · have HY2 := Lib.hid (HYES.out rfl)
              go_wp2
              go_roundw
              case rel => exact ⟨j - 1, by first | rfl | go_num | (congr 1; omega), by omega, HY2.out, hbi.trans (dV.mono hbi.size)⟩
              case measure => simp [intOf]; omega
        · have GT := Lib.hid (fun (W : World) => gtr_int W (j : Int) 0 false (by simp; omega))
          go_wp2
          refine wp_softS (by kernel_rfl) 84 [(31, [7]), (32, [31]), (33, [32]), (34, [0, 33]), (35, [34, 33]), (36, [35, 33]), (37, [36, 33]), (38, [6, 33]), (39, [37, 38, 33]), (40, [39, 33]), (41, [5, 33]), (42, [7, 33]), (43, [42, 33]), (44, [41, 43, 33]), (45, [44, 33]), (46, [40, 45, 33]), (47, [33, 46])]
            [Fact.is (.int .i64 (j : Int)), Fact.is (.bool false), Fact.is (.bool false), Fact.is (undef), Fact.is (undef), Fact.is (undef), Fact.is (undef), Fact.is (undef), Fact.is (undef), Fact.is (undef), Fact.is (undef), Fact.is (undef), Fact.is (undef), Fact.is (undef), Fact.is (undef), Fact.is (undef), Fact.is (.bool false)]
            (by kernel_rfl) rfl rfl ⟨?s0, ?s1, ?s2, ?s3, ?s4, ?s5, ?s6, ?s7, ?s8, ?s9, ?s10, ?s11, ?s12, ?s13, ?s14, ?s15, ?s16, trivial⟩ ?fin
          case s0 =>
            intro ρ W hb hc hf hr
            obtain ⟨r7, -⟩ := hr
            have e7 : ρ (.tmp 7) = .int .i64 (j : Int) := r7
            clear r7
            refine under_none rfl ?_
            exact ⟨e7, Below.refl _ _⟩
          case s1 =>
            intro ρ W hb hc hf hr
            obtain ⟨r31, -⟩ := hr
            have e31 : ρ (.tmp 31) = .int .i64 (j : Int) := r31
            clear r31
            refine under_none rfl ?_
            exact soft_bin e31 (hc _) rfl rfl (GT.out W)
          case s2 =>
            intro ρ W hb hc hf hr
            obtain ⟨r32, -⟩ := hr
            have e32 : ρ (.tmp 32) = .bool false := r32
            clear r32
            refine under_none rfl ?_
            exact ⟨e32, Below.refl _ _⟩
          case s3 =>
            intro ρ W hb hc hf hr
            obtain ⟨r0, r33, -⟩ := hr
            have e0 : ρ (.tmp 0) = .pointer (some ⟨r, 0, none⟩) := r0
            clear r0
            have e33 : ρ (.tmp 33) = .bool false := r33
            clear r33
            exact ⟨33, rfl, .inr (.inl ⟨e33, rfl⟩)⟩
          case s4 =>
            intro ρ W hb hc hf hr
            obtain ⟨r34, r33, -⟩ := hr
            have e34 : ρ (.tmp 34) = undef := r34
            clear r34
            have e33 : ρ (.tmp 33) = .bool false := r33
            clear r33
            exact ⟨33, rfl, .inr (.inl ⟨e33, rfl⟩)⟩
          case s5 =>
            intro ρ W hb hc hf hr
            obtain ⟨r35, r33, -⟩ := hr
            have e35 : ρ (.tmp 35) = undef := r35
            clear r35
            have e33 : ρ (.tmp 33) = .bool false := r33
            clear r33
            exact ⟨33, rfl, .inr (.inl ⟨e33, rfl⟩)⟩
          case s6 =>
            intro ρ W hb hc hf hr
            obtain ⟨r36, r33, -⟩ := hr
            have e36 : ρ (.tmp 36) = undef := r36
            clear r36
            have e33 : ρ (.tmp 33) = .bool false := r33
            clear r33
            exact ⟨33, rfl, .inr (.inl ⟨e33, rfl⟩)⟩
          case s7 =>
            intro ρ W hb hc hf hr
            obtain ⟨r6, r33, -⟩ := hr
            have e6 : ρ (.tmp 6) = .int .i64 (i : Int) := r6
            clear r6
            have e33 : ρ (.tmp 33) = .bool false := r33
            clear r33
            exact ⟨33, rfl, .inr (.inl ⟨e33, rfl⟩)⟩
          case s8 =>
            intro ρ W hb hc hf hr
            obtain ⟨r37, r38, r33, -⟩ := hr
            have e37 : ρ (.tmp 37) = undef := r37
            clear r37
            have e38 : ρ (.tmp 38) = undef := r38
            clear r38
            have e33 : ρ (.tmp 33) = .bool false := r33
            clear r33
            exact ⟨33, rfl, .inr (.inl ⟨e33, rfl⟩)⟩
          case s9 =>
            intro ρ W hb hc hf hr
            obtain ⟨r39, r33, -⟩ := hr
            have e39 : ρ (.tmp 39) = undef := r39
            clear r39
            have e33 : ρ (.tmp 33) = .bool false := r33
            clear r33
            exact ⟨33, rfl, .inr (.inl ⟨e33, rfl⟩)⟩
          case s10 =>
            intro ρ W hb hc hf hr
            obtain ⟨r5, r33, -⟩ := hr
            have e5 : ρ (.tmp 5) = .slice Ar md capr := r5
            clear r5
            have e33 : ρ (.tmp 33) = .bool false := r33
            clear r33
            exact ⟨33, rfl, .inr (.inl ⟨e33, rfl⟩)⟩
          case s11 =>
            intro ρ W hb hc hf hr
            obtain ⟨r7, r33, -⟩ := hr
            have e7 : ρ (.tmp 7) = .int .i64 (j : Int) := r7
            clear r7
            have e33 : ρ (.tmp 33) = .bool false := r33
            clear r33
            exact ⟨33, rfl, .inr (.inl ⟨e33, rfl⟩)⟩
          case s12 =>
            intro ρ W hb hc hf hr
            obtain ⟨r42, r33, -⟩ := hr
            have e42 : ρ (.tmp 42) = undef := r42
            clear r42
            have e33 : ρ (.tmp 33) = .bool false := r33
            clear r33
            exact ⟨33, rfl, .inr (.inl ⟨e33, rfl⟩)⟩
          case s13 =>
            intro ρ W hb hc hf hr
            obtain ⟨r41, r43, r33, -⟩ := hr
            have e41 : ρ (.tmp 41) = undef := r41
            clear r41
            have e43 : ρ (.tmp 43) = undef := r43
            clear r43
            have e33 : ρ (.tmp 33) = .bool false := r33
            clear r33
            exact ⟨33, rfl, .inr (.inl ⟨e33, rfl⟩)⟩
          case s14 =>
            intro ρ W hb hc hf hr
            obtain ⟨r44, r33, -⟩ := hr
            have e44 : ρ (.tmp 44) = undef := r44
            clear r44
            have e33 : ρ (.tmp 33) = .bool false := r33
            clear r33
            exact ⟨33, rfl, .inr (.inl ⟨e33, rfl⟩)⟩
          case s15 =>
            intro ρ W hb hc hf hr
            obtain ⟨r40, r45, r33, -⟩ := hr
            have e40 : ρ (.tmp 40) = undef := r40
            clear r40
            have e45 : ρ (.tmp 45) = undef := r45
            clear r45
            have e33 : ρ (.tmp 33) = .bool false := r33
            clear r33
            exact ⟨33, rfl, .inr (.inl ⟨e33, rfl⟩)⟩
          case s16 =>
            intro ρ W hb hc hf hr
            obtain ⟨r33, r46, -⟩ := hr
            have e33 : ρ (.tmp 33) = .bool false := r33
            clear r33
            have e46 : ρ (.tmp 46) = undef := r46
            clear r46
            refine under_none rfl ?_
            simp [execOp, e33, hc, go_sem, softUpon, Fact.is, Below.refl]
          case fin =>
            intro a w1 hb hd hsz hk
            have ea := act_puts hd hsz rfl hk
            have k31 : a.tmps.getD 31 undef = .int .i64 (j : Int) := hk 31
            have k32 : a.tmps.getD 32 undef = .bool false := hk 32
            have k33 : a.tmps.getD 33 undef = .bool false := hk 33
            have k34 : a.tmps.getD 34 undef = undef := hk 34
            have k35 : a.tmps.getD 35 undef = undef := hk 35
            have k36 : a.tmps.getD 36 undef = undef := hk 36
            have k37 : a.tmps.getD 37 undef = undef := hk 37
            have k38 : a.tmps.getD 38 undef = undef := hk 38
            have k39 : a.tmps.getD 39 undef = undef := hk 39
            have k40 : a.tmps.getD 40 undef = undef := hk 40
            have k41 : a.tmps.getD 41 undef = undef := hk 41
            have k42 : a.tmps.getD 42 undef = undef := hk 42
            have k43 : a.tmps.getD 43 undef = undef := hk 43
            have k44 : a.tmps.getD 44 undef = undef := hk 44
            have k45 : a.tmps.getD 45 undef = undef := hk 45
            have k46 : a.tmps.getD 46 undef = undef := hk 46
            have k47 : a.tmps.getD 47 undef = .bool false := hk 47
            clear hk hd hsz
            simp only [List.map_cons, List.map_nil, List.foldl_cons, List.foldl_nil, k31, k32, k33, k34, k35, k36, k37, k38, k39, k40, k41, k42, k43, k44, k45, k46, k47] at ea
            clear k31 k32 k33 k34 k35 k36 k37 k38 k39 k40 k41 k42 k43 k44 k45 k46 k47
            simp only [Act.put, List.setIfInBounds_toArray, List.set_cons_succ, List.set_cons_zero] at ea
            subst ea
            have dV := hbd.trans (hb.mono (by simp))
            clear hb
            have hbd1 : Below w1.heap.size w1 w1.drew := (Below.refl _ _).drew
            have c1 := cr.trans (dV.mono cr.size)
            have HEX := Lib.hid (show ∀ (_ : 0 < j) (h : j - 1 < (us.map Ent.e).length), ltP x.e (us.map Ent.e)[j - 1] = false from fun h0 _ => absurd h0 hj0)
            have HLD1 := Lib.hid (HLD2.out.below dV)
            have LX1 := Lib.hid (fun (W : World) (h : Below w1.heap.size w1 W) => LX.out W (dV.trans (h.mono dV.size)))
            have HC1 := Lib.hid (fun (W : World) (h : Below w1.heap.size w1 W) => HC2.out W (dV.trans (h.mono dV.size)))
            go_wp2
            refine wp_late (by kernel_rfl) 84 [(50, []), (51, [5]), (52, [7]), (53, [51, 52]), (54, [50, 53]), (55, [0]), (56, [55]), (57, [56]), (58, [57]), (59, [6]), (60, [58, 59]), (61, [60]), (62, [61]), (1013, [54, 62]), (64, [5]), (65, [7]), (66, [64, 65]), (1017, [63, 66]), (1018, [67])]
              [Fact.fresh w1.heap.size 35, Fact.is (.slice Ar md capr), Fact.is (.int .i64 (j : Int)), Fact.lie j (flatEn (us.take j)), Fact.row w1.heap.size 35 13 j (flatEn (us.take j)), Fact.is (.pointer (some ⟨r, 0, none⟩)), Fact.is (.pointer (some ⟨r, 0, none⟩)), Fact.is (.pointer (some ⟨r, 0, none⟩)), Fact.is (.slice (some ad) n cap), Fact.is (.int .i64 (i : Int)), Fact.is (.pointer (some (Addr.add ad (i * 13)))), Fact.is (.agg X1), Fact.lie 1 (flatEn [x]), default, Fact.is (.slice Ar md capr), Fact.is (.int .i64 (j : Int)), Fact.is (.slice (if capr = j then Ar else (Ar).map (·.add (j * 13))) (md - j) (capr - j)), default, default]
              [1, 1, 1, 1, 1, 1, 1, 1, 1, 1, 1, 1, 1, 2, 0, 0, 0, 2, 2] [13, 17, 18] [63, 67, 5] [50, 51, 52, 53, 54, 55, 56, 57, 58, 59, 60, 61, 62, 63, 64, 65, 66, 67, 5] (ThreeE w1.heap.size j md us x w1)
              (by kernel_rfl) (by kernel_rfl) rfl rfl ⟨?s0, ?s1, ?s2, ?s3, ?s4, ?s5, ?s6, ?s7, ?s8, ?s9, ?s10, ?s11, ?s12, ?s14, ?s15, ?s16, trivial⟩ ?late ?fin
            case s0 =>
              intro ρ W hb hc hf hr
              clear hr
              refine under_none rfl ?_
              exact soft_freshE (hbd1.trans (hb.mono (by simp))).size rfl
            case s1 =>
              intro ρ W hb hc hf hr
              obtain ⟨r5, -⟩ := hr
              have e5 : ρ (.tmp 5) = .slice Ar md capr := r5
              clear r5
              refine under_none rfl ?_
              exact ⟨e5, Below.refl _ _⟩
            case s2 =>
              intro ρ W hb hc hf hr
              obtain ⟨r7, -⟩ := hr
              have e7 : ρ (.tmp 7) = .int .i64 (j : Int) := r7
              clear r7
              refine under_none rfl ?_
              exact ⟨e7, Below.refl _ _⟩
            case s3 =>
              intro ρ W hb hc hf hr
              obtain ⟨r51, r52, -⟩ := hr
              have e51 : ρ (.tmp 51) = .slice Ar md capr := r51
              clear r51
              have e52 : ρ (.tmp 52) = .int .i64 (j : Int) := r52
              clear r52
              refine under_none rfl ?_
              exact soft_takeLE e51 e52 HUL.out hj hcr hmr (HLD1.out.below (hbd1.trans (hb.mono (by simp)))) rfl
            case s4 =>
              intro ρ W hb hc hf hr
              obtain ⟨r50, r53, -⟩ := hr
              refine under_none rfl ?_
              exact soft_app0LE r50 r53 (by rw [List.length_take, HUL.out]; omega) (by omega) rfl
            case s5 =>
              intro ρ W hb hc hf hr
              obtain ⟨r0, -⟩ := hr
              have e0 : ρ (.tmp 0) = .pointer (some ⟨r, 0, none⟩) := r0
              clear r0
              refine under_none rfl ?_
              exact ⟨e0, Below.refl _ _⟩
            case s6 =>
              intro ρ W hb hc hf hr
              obtain ⟨r55, -⟩ := hr
              have e55 : ρ (.tmp 55) = .pointer (some ⟨r, 0, none⟩) := r55
              clear r55
              refine under_none rfl ?_
              simp [execOp, e55, go_sem, softUpon, Fact.is, Below.refl]
            case s7 =>
              intro ρ W hb hc hf hr
              obtain ⟨r56, -⟩ := hr
              have e56 : ρ (.tmp 56) = .pointer (some ⟨r, 0, none⟩) := r56
              clear r56
              refine under_none rfl ?_
              exact soft_field e56 rfl (fun W => by go_simp)
            case s8 =>
              intro ρ W hb hc hf hr
              obtain ⟨r57, -⟩ := hr
              have e57 : ρ (.tmp 57) = .pointer (some ⟨r, 0, none⟩) := r57
              clear r57
              refine under_none rfl ?_
              exact soft_load e57 (run_loadEs W _ _ (HC1.out W (hbd1.trans (hb.mono (by simp))))) rfl
            case s9 =>
              intro ρ W hb hc hf hr
              obtain ⟨r6, -⟩ := hr
              have e6 : ρ (.tmp 6) = .int .i64 (i : Int) := r6
              clear r6
              refine under_none rfl ?_
              exact ⟨e6, Below.refl _ _⟩
            case s10 =>
              intro ρ W hb hc hf hr
              obtain ⟨r58, r59, -⟩ := hr
              have e58 : ρ (.tmp 58) = .slice (some ad) n cap := r58
              clear r58
              have e59 : ρ (.tmp 59) = .int .i64 (i : Int) := r59
              clear r59
              refine under_none rfl ?_
              exact soft_index13 e58 e59 (by omega) rfl
            case s11 =>
              intro ρ W hb hc hf hr
              obtain ⟨r60, -⟩ := hr
              have e60 : ρ (.tmp 60) = .pointer (some (Addr.add ad (i * 13))) := r60
              clear r60
              refine under_none rfl ?_
              exact soft_load e60 (LX1.out W (hbd1.trans (hb.mono (by simp)))) rfl
            case s12 =>
              intro ρ W hb hc hf hr
              obtain ⟨r61, -⟩ := hr
              have e61 : ρ (.tmp 61) = .agg X1 := r61
              clear r61
              refine under_none rfl ?_
              exact soft_oneE (e61.trans (by rw [HX1.out])) rfl
            case s14 =>
              refine ⟨rfl, _, rfl, ?_⟩
              intro ρ W hc hf hr
              obtain ⟨r5, -⟩ := hr
              have e5 : ρ (.tmp 5) = .slice Ar md capr := r5
              clear r5
              simp [execOp, e5]
            case s15 =>
              refine ⟨rfl, _, rfl, ?_⟩
              intro ρ W hc hf hr
              obtain ⟨r7, -⟩ := hr
              have e7 : ρ (.tmp 7) = .int .i64 (j : Int) := r7
              clear r7
              simp [execOp, e7]
            case s16 =>
              refine ⟨rfl, _, rfl, ?_⟩
              intro ρ W hc hf hr
              obtain ⟨r64, r65, -⟩ := hr
              have e64 : ρ (.tmp 64) = .slice Ar md capr := r64
              clear r64
              have e65 : ρ (.tmp 65) = .int .i64 (j : Int) := r65
              clear r65
              exact run_dropLE e64 e65 hj hcr hmr hAr rfl
            case late =>
              intro p j o hj ho a W hsz h0 h1 hfr hou
              match p, hj with
              | 0, hj =>
                obtain rfl : 13 = j := Option.some.inj hj
                obtain rfl := Option.some.inj ho
                clear hj ho
                obtain ⟨hb, hhard⟩ := h0 rfl
                have r54 : (Fact.row w1.heap.size 35 13 j (flatEn (us.take j))).φ (a.tmps.getD 54 undef) W := hhard 54 4 rfl rfl
                have r62 : (Fact.lie 1 (flatEn [x])).φ (a.tmps.getD 62 undef) W := hhard 62 12 rfl rfl
                clear h0 h1 hhard hfr hou
                refine late_appE (s := .tmp 54) (x := .tmp 62) (n := j) (m := 1) (l := us.take j) (k := [x]) r54 r62 rfl (by omega) (hbd1.trans (hb.mono (by simp))).size rfl fun v w' ho hbb => ⟨v, rfl, ?_⟩
                exact ⟨hbb _ (hbd1.trans (hb.mono (by simp))), fun _ => by simpa [Act.put, Array.getD_eq_getD_getElem?, hsz] using ho, fun h => absurd h (by omega), fun h => absurd h (by omega)⟩
              | 1, hj =>
                obtain rfl : 17 = j := Option.some.inj hj
                obtain rfl := Option.some.inj ho
                clear hj ho
                have hP := h1 (by omega)
                have e66 : a.eval (.tmp 66) = .slice (if capr = j then Ar else (Ar).map (·.add (j * 13))) (md - j) (capr - j) := hfr 66 16 rfl rfl (by kernel_rfl)
                clear h0 h1 hfr hou
                obtain ⟨hb, ho, -, -⟩ := hP
                refine late_appE (s := .tmp 63) (x := .tmp 66) (n := j + 1) (m := md - j) (l := us.take j ++ [x]) (k := us.drop j) (ho rfl) ⟨_, _, e66, drop_liesE HUL.out hcr (HLD1.out.below hb)⟩ (by rw [List.length_drop, HUL.out]) (by omega) hb.size rfl fun v w' ho2 hbb => ⟨v, rfl, ?_⟩
                have ejk : j + 1 + (md - j) = md + 1 := by omega
                rw [ejk] at ho2
                exact ⟨hbb _ hb, fun h => absurd h (by omega), fun _ => by simpa [Act.put, Array.getD_eq_getD_getElem?, hsz] using ho2, fun h => absurd h (by omega)⟩
              | 2, hj =>
                obtain rfl : 18 = j := Option.some.inj hj
                obtain rfl := Option.some.inj ho
                clear hj ho
                have hP := h1 (by omega)
                clear h0 h1 hfr hou
                obtain ⟨hb, -, ho, -⟩ := hP
                refine late_assign rfl rfl ⟨_, rfl, ?_⟩
                exact ⟨hb, fun h => absurd h (by omega), fun _ => by simpa [Act.put, Array.getD_eq_getD_getElem?, hsz] using ho (by omega), fun _ => by simp [Act.put, Act.eval, Array.getD_eq_getD_getElem?, hsz]⟩
              | q + 3, hj => cases hj
            case fin =>
              intro a w2 ha hP
              obtain ⟨d2, -, ho2, he2⟩ := hP
              have e5 : a.tmps.getD 5 undef = a.tmps.getD 67 undef := by simpa using he2 rfl
              have hr2 : w2.ownsRow w1.heap.size 35 13 (a.tmps.getD 67 undef) (md + 1) (flatEn (us.take j ++ [x] ++ us.drop j)) := ho2 (by decide)
              clear he2 ho2
              obtain ⟨v67, e67⟩ : ∃ v, a.tmps.getD 67 undef = v := ⟨_, rfl⟩
              rw [e67] at e5 hr2
              simp only [List.foldl_cons, List.foldl_nil, e5, e67] at ha
              clear e5 e67
              generalize a.tmps.getD 50 undef = v50 at ha
              generalize a.tmps.getD 51 undef = v51 at ha
              generalize a.tmps.getD 52 undef = v52 at ha
              generalize a.tmps.getD 53 undef = v53 at ha
              generalize a.tmps.getD 54 undef = v54 at ha
              generalize a.tmps.getD 55 undef = v55 at ha
              generalize a.tmps.getD 56 undef = v56 at ha
              generalize a.tmps.getD 57 undef = v57 at ha
              generalize a.tmps.getD 58 undef = v58 at ha
              generalize a.tmps.getD 59 undef = v59 at ha
              generalize a.tmps.getD 60 undef = v60 at ha
              generalize a.tmps.getD 61 undef = v61 at ha
              generalize a.tmps.getD 62 undef = v62 at ha
              generalize a.tmps.getD 63 undef = v63 at ha
              generalize a.tmps.getD 64 undef = v64 at ha
              generalize a.tmps.getD 65 undef = v65 at ha
              generalize a.tmps.getD 66 undef = v66 at ha
              simp only [Act.put, List.setIfInBounds_toArray, List.set_cons_succ, List.set_cons_zero] at ha
              subst ha
              have HD3 := Lib.hid (HNX.out j hj HALL.out HEX.out)
              have HL3 := Lib.hid (show (us.take j ++ [x] ++ us.drop j).length = md + 1 by simp [HUL.out]; omega)
              obtain ⟨A7, cap7, rfl, hl7, hm7, hL7, -⟩ := row_form hr2
              have HL7 := Lib.hid (hL7.resolve_left (by omega))
              have c2 := c1.trans (d2.mono c1.size)
              have HM7 := Lib.hid hm7
              clear hr2 hL7 d2 hm7
              go_wp2
              go_roundw
              case rel => exact ⟨i + 1, md + 1, cap7, A7, us.take j ++ [x] ++ us.drop j, by go_num, by omega, rfl, HL3.out, by omega, hl7, HM7.out, HL7.out, HD3.out.symm, c2⟩
              case measure => simp [intOf]; omega
    · obtain rfl : i = n := by omega
      have HRW := Lib.hid (show us.map Ent.e = row m s by rw [HSR.out, HWH.out])
      have HBR := Lib.hid hbr
      clear hlt hi
      go_wp2
      obtain ⟨w0, hw0⟩ : ∃ w0, w0 = wr := ⟨_, rfl⟩
      subst hw0
      go_loopw [8, 9] (fun s8 s9 wq => ∃ k : Nat, s9 = .int .i64 (k : Int) ∧ k ≤ md ∧ wq.ownsRow w0.heap.size 2 1 s8 k (nums (((us.map Ent.e).take k).map E.id)) ∧ Below w0.heap.size w0 wq) (fun _ i _ => md - (intOf i).toNat)
      case atStart => exact ⟨0, rfl, Nat.zero_le _, World.ownsRow_nil _ _ _ _, Below.refl _ _⟩
      case round =>
        obtain ⟨k, rfl, hk, hrow, hbq⟩ := hrel
        have HROW := Lib.hid hrow
        have HBQ := Lib.hid hbq
        clear hrow
        by_cases hlt : k < md
        · have hku : k < us.length := by rw [HUL.out]; exact hlt
          have hkm : k < (us.map Ent.e).length := by rw [List.length_map]; exact hku
          obtain ⟨od, rfl, -, hcl⟩ := at_ent HLD.out k hku
          obtain ⟨d0, -⟩ := ent_all (hcl wr hbq)
          have hte : us[k].e = (us.map Ent.e)[k] := by simp
          rw [hte] at d0
          have hix := fun (W : World) => show (Instr.indexAt 51 (.slice (some od) md capr) (.int .i64 (k : Int))).run Try.prog W = .ok (.pointer (some (od.add (k * 13)))) W by go_simp
          have HTN := Lib.hid (show nums (((us.map Ent.e).take k).map E.id) ++ [.int .i64 (us.map Ent.e)[k].id] = nums (((us.map Ent.e).take (k + 1)).map E.id) by rw [List.take_succ_eq_append_getElem hkm, List.map_append, nums_append14]; rfl)
          clear hcl hte
          generalize (us.map Ent.e)[k] = y at *
          generalize od.add (k * 13) = q at *
          generalize nums (((us.map Ent.e).take k).map E.id) = F0 at *
          go_wp2_with (at_builtin; refine wpList_appK rfl _ _ 48 rfl w0.heap.size 2 i0 (.int .i64 0) 1 8 Try.underlying48 hi0 hz0 hz1 hz2 rfl (by decide) _ k F0 rfl ?b1 (some ⟨wr.heap.size, 0, none⟩) 1 1 [.int .i64 y.id] rfl rfl ?b2 ?b3 ?b4 ?b5 ?b6 ?b7)
          case b1 => exact HROW.out.alloc _
          case b2 => exact Lies.new wr #[.int .i64 y.id] _
          case b3 => simp [Value.oneCell']
          case b4 => unfold maxLen; omega
          case b5 => omega
          case b6 => have := HBQ.out.size; simp; omega
          case b7 =>
            intro v3 w3 hown3 hg3 _
            have HB3 := Lib.hid ((HBQ.out.alloc HBQ.out.size (.cells #[.int .i64 y.id] 2)).grown hg3 (Nat.le_trans HBQ.out.size (by simp)) (fun g e => by
              rcases HROW.out.2 with ⟨e2, -⟩ | ⟨g', cap, cur, e2, hbg, -⟩
              · rw [e2] at e; cases e
              · rw [e2] at e; injection e with e; rw [← e]; exact hbg))
            rw [HTN.out] at hown3
            have HO3 := Lib.hid hown3
            clear hown3 hg3
            go_wp2
            go_roundw
            case rel => exact ⟨k + 1, by go_num, by omega, HO3.out, HB3.out⟩
            case measure => simp [intOf]; omega
        · obtain rfl : k = md := by omega
          have HRE := Lib.hid (show nums (((us.map Ent.e).take k).map E.id) = nums (inn m s) ∧ (inn m s).length = k from ⟨by rw [List.take_of_length_le (by rw [List.length_map, HUL.out]; omega), HRW.out, HIN.out], by rw [HIN.out, ← HRW.out, List.length_map, List.length_map, HUL.out]⟩)
          have HB := HBR.out.trans (HBQ.out.mono HBR.out.size)
          go_wp2
          go_ret
          exact ⟨_, rfl, by rw [HRE.out.2, ← HRE.out.1]; exact own_mono14 HROW.out HBR.out.size, HB⟩
end
end Go.Proofs.Ytepfbpljkhchbaa

