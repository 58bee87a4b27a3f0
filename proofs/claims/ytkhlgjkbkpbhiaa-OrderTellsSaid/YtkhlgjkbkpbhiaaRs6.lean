/-
  turntableref06: what Sort answers, of any items. Assumed: that the items lie in memory, and that there are at most 300.
-/
import Derived.Test.YtkhlgjkbkpbhiaaSoftI

namespace Go.Proofs.Ytkhlgjkbkpbhiaa
open Go.RowKit
set_option maxRecDepth 100000

theorem load_item_at {W : World} {a : Addr} {x : Plain.It} (h : W.cell? a = some (.int .i64 x.id) ∧ W.cell? ⟨a.block, a.off + 1, none⟩ = some (.int .i64 x.cls) ∧ W.cell? ⟨a.block, a.off + 2, none⟩ = some (.int .i64 x.tick) ∧ W.cell? ⟨a.block, a.off + 3, none⟩ = some (.int .i64 x.cost) ∧ W.cell? ⟨a.block, a.off + 4, none⟩ = some (.bool x.pin)) : (Instr.loadAt 24 (.pointer (some a))).run Try.prog W = .ok (itV x) W := by
  obtain ⟨x0, x1, x2, x3, x4⟩ := h
  go_simp
/-- what the open region keeps of three slots -/
theorem srt_step (l : List Plain.It) (i : Nat) (hi : i < l.length) : Plain.srt Plain.ilt (Plain.mayGo (l.take (i + 1))) = if l[i].right && !l[i].pin then Plain.mrg Plain.ilt (Plain.srt Plain.ilt (Plain.mayGo (l.take i))) [l[i]] else Plain.srt Plain.ilt (Plain.mayGo (l.take i)) := by
  rw [mayGo_take l i hi]
  split
  · rw [Plain.srt_snoc]
  · rw [List.append_nil]

set_option maxHeartbeats 8000000 in
theorem rsort_any (A : Option Addr) (n cap : Nat) (l : List Plain.It) (w : World) (hn : l.length = n) (hm : n ≤ 300) (hA : Lies w A (flatI l)) :
    Calls Try.prog 19 #[.slice A n cap] w fun e w' => ∃ v, e = .returned v ∧ GivesI w w' (Plain.inOrder l) v := by
  have HN := Lib.hid hn
  have HA := Lib.hid hA
  have HI := Lib.hid (show Plain.srt Plain.ilt (Plain.mayGo (l.take n)) = Plain.inOrder l by rw [List.take_of_length_le (by omega)]; rfl)
  generalize Plain.inOrder l = IO at *
  clear hA hn
  go_enter Try.func19, Try.ntmps19
  go_wp2
  go_loopw [3, 4] (fun v s4 wr => ∃ (i md capr : Nat) (Ar : Option Addr) (d : List Plain.It), s4 = .int .i64 i ∧ i ≤ n ∧ v = .slice Ar md capr ∧ d.length = md ∧ md ≤ i ∧ md ≤ capr ∧ capr ≤ maxLen ∧ TypedI wr Ar ∧ Lies wr Ar (flatI d) ∧ Plain.srt Plain.ilt (Plain.mayGo (l.take i)) = d ∧ Below w.heap.size w wr) (fun _ s4 _ => n - (intOf s4).toNat)
  case atStart => exact ⟨0, 0, 0, none, [], rfl, Nat.zero_le _, rfl, rfl, Nat.le_refl _, Nat.le_refl _, Nat.zero_le _, .inl rfl, .inl rfl, rfl, Below.refl _ _⟩
  case round =>
    obtain ⟨i, md, capr, Ar, d, rfl, hi, rfl, hdl, hmi, hcr, hmr, hty, hld, hsr, hbr⟩ := hrel
    have HTY := Lib.hid hty
    clear hty
    have HDL := Lib.hid hdl
    have HLD := Lib.hid hld
    have HSR := Lib.hid hsr
    have hAr : Ar = none → md = 0 := by rw [← hdl]; exact lies_noneI hld
    have HM := Lib.hid hmr
    unfold maxLen at hmr
    clear hdl hld hsr
    by_cases hlt : i < n
    · have hil : i < l.length := by rw [HN.out]; exact hlt
      obtain ⟨ad, rfl, -, hc⟩ := at_item HA.out i hil
      have HCX := Lib.hid hc
      have hst := srt_step l i hil
      rw [HSR.out] at hst
      have HST := Lib.hid hst
      have HR := Lib.hid (fun (W : World) => rright_any l[i] W)
      obtain ⟨R, hR⟩ : ∃ R, l[i].right = R := ⟨_, rfl⟩
      obtain ⟨pn, hpn⟩ : ∃ pn, l[i].pin = pn := ⟨_, rfl⟩
      rw [hR] at HR HST
      rw [hpn] at HST
      obtain ⟨x0, x1, x2, x3, x4⟩ := hc wr hbr
      have hsort : Plain.Srt Plain.ilt d := by rw [← HSR.out]; exact Plain.srt_sorted Plain.swoI _
      have HPN := Lib.hid hpn
      clear hst hR hpn hc
      generalize l[i] = x at *
      have HNX := Lib.hid (show ∀ j, j ≤ md → (∀ y ∈ d.drop j, Plain.ilt x y = true) → (∀ (h0 : 0 < j) (h : j - 1 < d.length), Plain.ilt x d[j - 1] = false) → R = true → pn = false → Plain.srt Plain.ilt (Plain.mayGo (l.take (i + 1))) = d.take j ++ [x] ++ d.drop j from fun j h1 h2 h3 hR hp => by
        rw [HST.out, hR, hp, if_pos (by rfl)]
        have h4 : ∀ c ∈ d.take j, Plain.ilt x c = false := fun c hcm => by
          obtain ⟨t, ht, h5, rfl⟩ := Plain.mem_take_at hcm
          have h6 := h3 (by omega) (by rw [HDL.out]; omega)
          rcases Nat.lt_or_ge t (j - 1) with h7 | h7
          · exact Plain.swoI.ntrans _ _ _ h6 (List.pairwise_iff_getElem.1 hsort t (j - 1) ht (by rw [HDL.out]; omega) h7)
          · obtain rfl : t = j - 1 := by omega
            exact h6
        have := Plain.ins_eq (lt := Plain.ilt) (C1 := d.take j) (C2 := d.drop j) (x := x) h4 h2
        rw [List.take_append_drop] at this
        rw [this]; simp)
      have hcx := HCX.out
      clear hsort hcx
      have HX4 := Lib.hid (fun (W : World) (h : Below w.heap.size w W) => (HCX.out W h).2.2.2.2)
      rw [HPN.out] at HX4
      go_wp2_with fail
      refine (HR.out _).mono ?_
      rintro e w0 ⟨rfl, d0⟩
      have c0 := hbr.trans (d0.mono hbr.size)
      have z4 := HX4.out w0 c0
      have HLD0 := Lib.hid (HLD.out.below d0)
      clear x0 x1 x2 x3 x4 HLD HR
      rcases R with _ | _
      · go_wp2
        go_roundw
        case rel => exact ⟨i + 1, md, capr, Ar, d, by go_num, by omega, rfl, HDL.out, by omega, hcr, HM.out, HTY.out.below d0, HLD0.out, by rw [HST.out]; simp, c0⟩
        case measure => simp [intOf]; omega
      rcases pn with _ | _
      rotate_left
      · go_wp2
        go_roundw
        case rel => exact ⟨i + 1, md, capr, Ar, d, by go_num, by omega, rfl, HDL.out, by omega, hcr, HM.out, HTY.out.below d0, HLD0.out, by rw [HST.out]; simp, c0⟩
        case measure => simp [intOf]; omega
      have HNX2 := Lib.hid (fun j h1 h2 h3 => HNX.out j h1 h2 h3 rfl rfl)
      clear HNX HST
      have HNX := HNX2
      clear HNX2
      go_wp2
      go_loopw [5] (fun s5 wr2 => ∃ j : Nat, s5 = .int .i64 j ∧ j ≤ md ∧ (∀ y ∈ d.drop j, Plain.ilt x y = true) ∧ Below w0.heap.size w0 wr2) (fun s5 _ => (intOf s5).toNat)
      case atStart => exact ⟨md, rfl, Nat.le_refl _, by rw [List.drop_eq_nil_of_le (by rw [HDL.out]; omega)]; simp, Below.refl _ _⟩
      case round =>
        obtain ⟨j, rfl, hj, hall, hbi⟩ := hrel
        have HALL := Lib.hid hall
        clear hall
        have cr := c0.trans (hbi.mono c0.size)
        have HLD2 := Lib.hid (HLD0.out.below hbi)
        have hbd : Below wr.heap.size wr wr.drew := (Below.refl _ _).drew
        have LX := Lib.hid (fun (W : World) (h : Below wr.heap.size wr W) => load_item_at (HCX.out W (cr.trans (h.mono cr.size))))
        by_cases hj0 : 0 < j
        · have hjd : j - 1 < d.length := by rw [HDL.out]; omega
          obtain ⟨od, rfl, -, hco⟩ := at_item HLD2.out (j - 1) hjd
          have GT := Lib.hid (fun (W : World) => gtr_int W (j : Int) 0 true (by simp; omega))
          have SB := Lib.hid (fun (W : World) => sub_one W j hj0 (by omega))
          have LY := Lib.hid (fun (W : World) (h : Below wr.heap.size wr W) => load_item_at (hco W h))
          have HYES := Lib.hid (show Plain.ilt x d[j - 1] = true → ∀ z ∈ d.drop (j - 1), Plain.ilt x z = true from fun h z hz => by
            rw [List.drop_eq_getElem_cons hjd, show j - 1 + 1 = j by omega] at hz
            rcases List.mem_cons.1 hz with rfl | hz
            · exact h
            · exact HALL.out z hz)
          clear hco
          have HYY := Lib.hid (show ∃ y, d[j - 1] = y from ⟨_, rfl⟩)
          obtain ⟨y, hy⟩ := HYY.out
          have HDJ := Lib.hid hy
          rw [hy] at LY HYES
          clear HYY hy
          obtain ⟨L, hL⟩ : ∃ L, Plain.ilt x y = L := ⟨_, rfl⟩
          rw [hL] at HYES
          have HLV := Lib.hid hL
          have HLS := Lib.hid (fun (W : World) => show Calls Try.prog 16 #[itV x, itV y] W (fun e w' => e = .returned (.bool L) ∧ Below W.heap.size W w') from hL ▸ rfirst_any x y W)
          clear hL
          go_wp2
          refine wp_softS (by kernel_rfl) 59 [(27, [5]), (28, [27]), (29, [28]), (30, [0, 29]), (31, [4, 29]), (32, [30, 31, 29]), (33, [32, 29]), (34, [3, 29]), (35, [5, 29]), (36, [35, 29]), (37, [34, 36, 29]), (38, [37, 29]), (39, [33, 38, 29]), (40, [29, 39])]
            [Fact.is (.int .i64 (j : Int)), Fact.is (.bool true), Fact.is (.bool true), Fact.is (.slice (some ad) n cap), Fact.is (.int .i64 (i : Int)), Fact.is (.pointer (some (Addr.add ad (i * 5)))), Fact.is (itV x), Fact.is (.slice (some od) md capr), Fact.is (.int .i64 (j : Int)), Fact.is (.int .i64 ((j - 1 : Nat) : Int)), Fact.is (.pointer (some (Addr.add od ((j - 1) * 5)))), Fact.is (itV y), Fact.is (.bool L), Fact.is (.bool L)]
            (by kernel_rfl) rfl rfl ⟨?s0, ?s1, ?s2, ?s3, ?s4, ?s5, ?s6, ?s7, ?s8, ?s9, ?s10, ?s11, ?s12, ?s13, trivial⟩ ?fin
          case s0 =>
            intro ρ W hb hc hf hr
            obtain ⟨r5, -⟩ := hr
            have e5 : ρ (.tmp 5) = .int .i64 (j : Int) := r5
            clear r5
            refine under_none rfl ?_
            exact ⟨e5, Below.refl _ _⟩
          case s1 =>
            intro ρ W hb hc hf hr
            obtain ⟨r27, -⟩ := hr
            have e27 : ρ (.tmp 27) = .int .i64 (j : Int) := r27
            clear r27
            refine under_none rfl ?_
            exact soft_bin e27 (hc _) rfl rfl (GT.out W)
          case s2 =>
            intro ρ W hb hc hf hr
            obtain ⟨r28, -⟩ := hr
            have e28 : ρ (.tmp 28) = .bool true := r28
            clear r28
            refine under_none rfl ?_
            exact ⟨e28, Below.refl _ _⟩
          case s3 =>
            intro ρ W hb hc hf hr
            obtain ⟨r0, r29, -⟩ := hr
            have e0 : ρ (.tmp 0) = .slice (some ad) n cap := r0
            clear r0
            have e29 : ρ (.tmp 29) = .bool true := r29
            clear r29
            refine ⟨29, rfl, .inl ⟨e29, ?_⟩⟩
            exact ⟨e0, Below.refl _ _⟩
          case s4 =>
            intro ρ W hb hc hf hr
            obtain ⟨r4, r29, -⟩ := hr
            have e4 : ρ (.tmp 4) = .int .i64 (i : Int) := r4
            clear r4
            have e29 : ρ (.tmp 29) = .bool true := r29
            clear r29
            refine ⟨29, rfl, .inl ⟨e29, ?_⟩⟩
            exact ⟨e4, Below.refl _ _⟩
          case s5 =>
            intro ρ W hb hc hf hr
            obtain ⟨r30, r31, r29, -⟩ := hr
            have e30 : ρ (.tmp 30) = .slice (some ad) n cap := r30
            clear r30
            have e31 : ρ (.tmp 31) = .int .i64 (i : Int) := r31
            clear r31
            have e29 : ρ (.tmp 29) = .bool true := r29
            clear r29
            refine ⟨29, rfl, .inl ⟨e29, ?_⟩⟩
            exact soft_index5 e30 e31 (by omega) rfl
          case s6 =>
            intro ρ W hb hc hf hr
            obtain ⟨r32, r29, -⟩ := hr
            have e32 : ρ (.tmp 32) = .pointer (some (Addr.add ad (i * 5))) := r32
            clear r32
            have e29 : ρ (.tmp 29) = .bool true := r29
            clear r29
            refine ⟨29, rfl, .inl ⟨e29, ?_⟩⟩
            exact soft_load e32 (LX.out W (hbd.trans (hb.mono (by simp)))) rfl
          case s7 =>
            intro ρ W hb hc hf hr
            obtain ⟨r3, r29, -⟩ := hr
            have e3 : ρ (.tmp 3) = .slice (some od) md capr := r3
            clear r3
            have e29 : ρ (.tmp 29) = .bool true := r29
            clear r29
            refine ⟨29, rfl, .inl ⟨e29, ?_⟩⟩
            exact ⟨e3, Below.refl _ _⟩
          case s8 =>
            intro ρ W hb hc hf hr
            obtain ⟨r5, r29, -⟩ := hr
            have e5 : ρ (.tmp 5) = .int .i64 (j : Int) := r5
            clear r5
            have e29 : ρ (.tmp 29) = .bool true := r29
            clear r29
            refine ⟨29, rfl, .inl ⟨e29, ?_⟩⟩
            exact ⟨e5, Below.refl _ _⟩
          case s9 =>
            intro ρ W hb hc hf hr
            obtain ⟨r35, r29, -⟩ := hr
            have e35 : ρ (.tmp 35) = .int .i64 (j : Int) := r35
            clear r35
            have e29 : ρ (.tmp 29) = .bool true := r29
            clear r29
            refine ⟨29, rfl, .inl ⟨e29, ?_⟩⟩
            exact soft_bin e35 (hc _) rfl rfl (SB.out W)
          case s10 =>
            intro ρ W hb hc hf hr
            obtain ⟨r34, r36, r29, -⟩ := hr
            have e34 : ρ (.tmp 34) = .slice (some od) md capr := r34
            clear r34
            have e36 : ρ (.tmp 36) = .int .i64 ((j - 1 : Nat) : Int) := r36
            clear r36
            have e29 : ρ (.tmp 29) = .bool true := r29
            clear r29
            refine ⟨29, rfl, .inl ⟨e29, ?_⟩⟩
            exact soft_index5 e34 e36 (by omega) rfl
          case s11 =>
            intro ρ W hb hc hf hr
            obtain ⟨r37, r29, -⟩ := hr
            have e37 : ρ (.tmp 37) = .pointer (some (Addr.add od ((j - 1) * 5))) := r37
            clear r37
            have e29 : ρ (.tmp 29) = .bool true := r29
            clear r29
            refine ⟨29, rfl, .inl ⟨e29, ?_⟩⟩
            exact soft_load e37 (LY.out W (hbd.trans (hb.mono (by simp)))) rfl
          case s12 =>
            intro ρ W hb hc hf hr
            obtain ⟨r33, r38, r29, -⟩ := hr
            have e33 : ρ (.tmp 33) = itV x := r33
            clear r33
            have e38 : ρ (.tmp 38) = itV y := r38
            clear r38
            have e29 : ρ (.tmp 29) = .bool true := r29
            clear r29
            refine ⟨29, rfl, .inl ⟨e29, ?_⟩⟩
            exact soft_call2 hf e33 e38 (HLS.out W) rfl (by kernel_rfl) below_is
          case s13 =>
            intro ρ W hb hc hf hr
            obtain ⟨r29, r39, -⟩ := hr
            have e29 : ρ (.tmp 29) = .bool true := r29
            clear r29
            have e39 : ρ (.tmp 39) = .bool L := r39
            clear r39
            refine under_none rfl ?_
            simp [execOp, e29, e39, go_sem, softUpon, Fact.is, Below.refl]
          case fin =>
            intro a w1 hb hd hsz hk
            have ea := act_puts hd hsz rfl hk
            have k27 : a.tmps.getD 27 undef = .int .i64 (j : Int) := hk 27
            have k28 : a.tmps.getD 28 undef = .bool true := hk 28
            have k29 : a.tmps.getD 29 undef = .bool true := hk 29
            have k30 : a.tmps.getD 30 undef = .slice (some ad) n cap := hk 30
            have k31 : a.tmps.getD 31 undef = .int .i64 (i : Int) := hk 31
            have k32 : a.tmps.getD 32 undef = .pointer (some (Addr.add ad (i * 5))) := hk 32
            have k33 : a.tmps.getD 33 undef = itV x := hk 33
            have k34 : a.tmps.getD 34 undef = .slice (some od) md capr := hk 34
            have k35 : a.tmps.getD 35 undef = .int .i64 (j : Int) := hk 35
            have k36 : a.tmps.getD 36 undef = .int .i64 ((j - 1 : Nat) : Int) := hk 36
            have k37 : a.tmps.getD 37 undef = .pointer (some (Addr.add od ((j - 1) * 5))) := hk 37
            have k38 : a.tmps.getD 38 undef = itV y := hk 38
            have k39 : a.tmps.getD 39 undef = .bool L := hk 39
            have k40 : a.tmps.getD 40 undef = .bool L := hk 40
            clear hk hd hsz
            simp only [List.map_cons, List.map_nil, List.foldl_cons, List.foldl_nil, k27, k28, k29, k30, k31, k32, k33, k34, k35, k36, k37, k38, k39, k40] at ea
            clear k27 k28 k29 k30 k31 k32 k33 k34 k35 k36 k37 k38 k39 k40
            simp only [Act.put, List.setIfInBounds_toArray, List.set_cons_succ, List.set_cons_zero] at ea
            subst ea
            have dV := hbd.trans (hb.mono (by simp))
            clear hb
            rcases L with _ | _
            · have HEX := Lib.hid (show ∀ (h0 : 0 < j) (h : j - 1 < d.length), Plain.ilt x d[j - 1] = false from fun _ _ => by rw [HDJ.out]; exact HLV.out)
              have hbd1 : Below w1.heap.size w1 w1.drew := (Below.refl _ _).drew
              have c1 := cr.trans (dV.mono cr.size)
              have HLD1 := Lib.hid (HLD2.out.below dV)
              have LX1 := Lib.hid (fun (W : World) (h : Below w1.heap.size w1 W) => LX.out W (dV.trans (h.mono dV.size)))
              go_wp2
              refine wp_late (by kernel_rfl) 59 [(43, []), (44, [3]), (45, [5]), (46, [44, 45]), (47, [43, 46]), (48, [0]), (49, [4]), (50, [48, 49]), (51, [50]), (52, [51]), (1010, [47, 52]), (54, [3]), (55, [5]), (56, [54, 55]), (1014, [53, 56]), (1015, [57])]
                [Fact.fresh w1.heap.size 24, Fact.is (.slice (some od) md capr), Fact.is (.int .i64 (j : Int)), Fact.lie j (flatI (d.take j)), Fact.row w1.heap.size 24 5 j (flatI (d.take j)), Fact.is (.slice (some ad) n cap), Fact.is (.int .i64 (i : Int)), Fact.is (.pointer (some (Addr.add ad (i * 5)))), Fact.is (itV x), Fact.lie 1 (flatI [x]), default, Fact.is (.slice (some od) md capr), Fact.is (.int .i64 (j : Int)), Fact.is (.slice (if capr = j then (some od) else (some od).map (·.add (j * 5))) (md - j) (capr - j)), default, default]
                [1, 1, 1, 1, 1, 1, 1, 1, 1, 1, 2, 0, 0, 0, 2, 2] [10, 14, 15] [53, 57, 3] [43, 44, 45, 46, 47, 48, 49, 50, 51, 52, 53, 54, 55, 56, 57, 3] (ThreeI w1.heap.size j md d x w1)
                (by kernel_rfl) (by kernel_rfl) rfl rfl ⟨?s0, ?s1, ?s2, ?s3, ?s4, ?s5, ?s6, ?s7, ?s8, ?s9, ?s11, ?s12, ?s13, trivial⟩ ?late ?fin
              case s0 =>
                intro ρ W hb hc hf hr
                clear hr
                refine under_none rfl ?_
                exact soft_freshI (hbd1.trans (hb.mono (by simp))).size rfl
              case s1 =>
                intro ρ W hb hc hf hr
                obtain ⟨r3, -⟩ := hr
                have e3 : ρ (.tmp 3) = .slice (some od) md capr := r3
                clear r3
                refine under_none rfl ?_
                exact ⟨e3, Below.refl _ _⟩
              case s2 =>
                intro ρ W hb hc hf hr
                obtain ⟨r5, -⟩ := hr
                have e5 : ρ (.tmp 5) = .int .i64 (j : Int) := r5
                clear r5
                refine under_none rfl ?_
                exact ⟨e5, Below.refl _ _⟩
              case s3 =>
                intro ρ W hb hc hf hr
                obtain ⟨r44, r45, -⟩ := hr
                have e44 : ρ (.tmp 44) = .slice (some od) md capr := r44
                clear r44
                have e45 : ρ (.tmp 45) = .int .i64 (j : Int) := r45
                clear r45
                refine under_none rfl ?_
                exact soft_takeLI e44 e45 HDL.out hj hcr hmr (HLD1.out.below (hbd1.trans (hb.mono (by simp)))) rfl
              case s4 =>
                intro ρ W hb hc hf hr
                obtain ⟨r43, r46, -⟩ := hr
                refine under_none rfl ?_
                exact soft_app0LI r43 r46 (by rw [List.length_take, HDL.out]; omega) (by omega) rfl
              case s5 =>
                intro ρ W hb hc hf hr
                obtain ⟨r0, -⟩ := hr
                have e0 : ρ (.tmp 0) = .slice (some ad) n cap := r0
                clear r0
                refine under_none rfl ?_
                exact ⟨e0, Below.refl _ _⟩
              case s6 =>
                intro ρ W hb hc hf hr
                obtain ⟨r4, -⟩ := hr
                have e4 : ρ (.tmp 4) = .int .i64 (i : Int) := r4
                clear r4
                refine under_none rfl ?_
                exact ⟨e4, Below.refl _ _⟩
              case s7 =>
                intro ρ W hb hc hf hr
                obtain ⟨r48, r49, -⟩ := hr
                have e48 : ρ (.tmp 48) = .slice (some ad) n cap := r48
                clear r48
                have e49 : ρ (.tmp 49) = .int .i64 (i : Int) := r49
                clear r49
                refine under_none rfl ?_
                exact soft_index5 e48 e49 (by omega) rfl
              case s8 =>
                intro ρ W hb hc hf hr
                obtain ⟨r50, -⟩ := hr
                have e50 : ρ (.tmp 50) = .pointer (some (Addr.add ad (i * 5))) := r50
                clear r50
                refine under_none rfl ?_
                exact soft_load e50 (LX1.out W (hbd1.trans (hb.mono (by simp)))) rfl
              case s9 =>
                intro ρ W hb hc hf hr
                obtain ⟨r51, -⟩ := hr
                have e51 : ρ (.tmp 51) = itV x := r51
                clear r51
                refine under_none rfl ?_
                exact soft_oneI e51 rfl
              case s11 =>
                refine ⟨rfl, _, rfl, ?_⟩
                intro ρ W hc hf hr
                obtain ⟨r3, -⟩ := hr
                have e3 : ρ (.tmp 3) = .slice (some od) md capr := r3
                clear r3
                simp [execOp, e3]
              case s12 =>
                refine ⟨rfl, _, rfl, ?_⟩
                intro ρ W hc hf hr
                obtain ⟨r5, -⟩ := hr
                have e5 : ρ (.tmp 5) = .int .i64 (j : Int) := r5
                clear r5
                simp [execOp, e5]
              case s13 =>
                refine ⟨rfl, _, rfl, ?_⟩
                intro ρ W hc hf hr
                obtain ⟨r54, r55, -⟩ := hr
                have e54 : ρ (.tmp 54) = .slice (some od) md capr := r54
                clear r54
                have e55 : ρ (.tmp 55) = .int .i64 (j : Int) := r55
                clear r55
                exact run_dropLI e54 e55 hj hcr hmr hAr rfl
              case late =>
                intro p j o hj ho a W hsz h0 h1 hfr hou
                match p, hj with
                | 0, hj =>
                  obtain rfl : 10 = j := Option.some.inj hj
                  obtain rfl := Option.some.inj ho
                  clear hj ho
                  obtain ⟨hb, hhard⟩ := h0 rfl
                  have r47 : (Fact.row w1.heap.size 24 5 j (flatI (d.take j))).φ (a.tmps.getD 47 undef) W := hhard 47 4 rfl rfl
                  have r52 : (Fact.lie 1 (flatI [x])).φ (a.tmps.getD 52 undef) W := hhard 52 9 rfl rfl
                  clear h0 h1 hhard hfr hou
                  refine late_appI (s := .tmp 47) (x := .tmp 52) (n := j) (m := 1) (l := d.take j) (k := [x]) r47 r52 rfl (by omega) (hbd1.trans (hb.mono (by simp))).size rfl fun v w' ho hbb => ⟨v, rfl, ?_⟩
                  exact ⟨hbb _ (hbd1.trans (hb.mono (by simp))), fun _ => by simpa [Act.put, Array.getD_eq_getD_getElem?, hsz] using ho, fun h => absurd h (by omega), fun h => absurd h (by omega)⟩
                | 1, hj =>
                  obtain rfl : 14 = j := Option.some.inj hj
                  obtain rfl := Option.some.inj ho
                  clear hj ho
                  have hP := h1 (by omega)
                  have e56 : a.eval (.tmp 56) = .slice (if capr = j then (some od) else (some od).map (·.add (j * 5))) (md - j) (capr - j) := hfr 56 13 rfl rfl (by kernel_rfl)
                  clear h0 h1 hfr hou
                  obtain ⟨hb, ho, -, -⟩ := hP
                  refine late_appI (s := .tmp 53) (x := .tmp 56) (n := j + 1) (m := md - j) (l := d.take j ++ [x]) (k := d.drop j) (ho rfl) ⟨_, _, e56, drop_liesI HDL.out hcr (HLD1.out.below hb)⟩ (by rw [List.length_drop, HDL.out]) (by omega) hb.size rfl fun v w' ho2 hbb => ⟨v, rfl, ?_⟩
                  have ejk : j + 1 + (md - j) = md + 1 := by omega
                  rw [ejk] at ho2
                  exact ⟨hbb _ hb, fun h => absurd h (by omega), fun _ => by simpa [Act.put, Array.getD_eq_getD_getElem?, hsz] using ho2, fun h => absurd h (by omega)⟩
                | 2, hj =>
                  obtain rfl : 15 = j := Option.some.inj hj
                  obtain rfl := Option.some.inj ho
                  clear hj ho
                  have hP := h1 (by omega)
                  clear h0 h1 hfr hou
                  obtain ⟨hb, -, ho, -⟩ := hP
                  refine late_assign rfl rfl ⟨_, rfl, ?_⟩
                  exact ⟨hb, fun h => absurd h (by omega), fun _ => by simpa [Act.put, Array.getD_eq_getD_getElem?, hsz] using ho (by omega), fun _ => by simp [Act.put, Act.eval, Array.getD_eq_getD_getElem?, hsz]⟩
                | q + 3, hj => cases hj
              case fin =>
                intro a w2 ha hP
                obtain ⟨d2, -, ho2, he2⟩ := hP
                have e3 : a.tmps.getD 3 undef = a.tmps.getD 57 undef := by simpa using he2 rfl
                have hr2 : w2.ownsRow w1.heap.size 24 5 (a.tmps.getD 57 undef) (md + 1) (flatI (d.take j ++ [x] ++ d.drop j)) := ho2 (by decide)
                clear he2 ho2
                obtain ⟨v57, e57⟩ : ∃ v, a.tmps.getD 57 undef = v := ⟨_, rfl⟩
                rw [e57] at e3 hr2
                simp only [List.foldl_cons, List.foldl_nil, e3, e57] at ha
                clear e3 e57
                generalize a.tmps.getD 43 undef = v43 at ha
                generalize a.tmps.getD 44 undef = v44 at ha
                generalize a.tmps.getD 45 undef = v45 at ha
                generalize a.tmps.getD 46 undef = v46 at ha
                generalize a.tmps.getD 47 undef = v47 at ha
                generalize a.tmps.getD 48 undef = v48 at ha
                generalize a.tmps.getD 49 undef = v49 at ha
                generalize a.tmps.getD 50 undef = v50 at ha
                generalize a.tmps.getD 51 undef = v51 at ha
                generalize a.tmps.getD 52 undef = v52 at ha
                generalize a.tmps.getD 53 undef = v53 at ha
                generalize a.tmps.getD 54 undef = v54 at ha
                generalize a.tmps.getD 55 undef = v55 at ha
                generalize a.tmps.getD 56 undef = v56 at ha
                simp only [Act.put, List.setIfInBounds_toArray, List.set_cons_succ, List.set_cons_zero] at ha
                subst ha
                have hd3 := HNX.out j hj HALL.out HEX.out
                have hl3 : (d.take j ++ [x] ++ d.drop j).length = md + 1 := by simp [HDL.out]; omega
                rw [← hl3] at hr2
                obtain ⟨A7, cap7, rfl, hl7, hm7, hL7, -, hT7⟩ := GivesI.own (w := w2) (w' := w2) (l := d.take j ++ [x] ++ d.drop j) hr2 (Below.refl _ _)
                rw [hl3] at hl7 ⊢
                have HL7 := Lib.hid hL7; have HT7 := Lib.hid hT7
                have HD3 := Lib.hid hd3
                have HL3 := Lib.hid hl3
                have c2 := c1.trans (d2.mono c1.size)
                clear hr2 hL7 hT7 hl3 hd3
                go_wp2
                go_roundw
                case rel => exact ⟨i + 1, md + 1, cap7, A7, d.take j ++ [x] ++ d.drop j, by go_num, by omega, rfl, HL3.out, by omega, hl7, hm7, HT7.out, HL7.out, HD3.out, c2⟩
                case measure => simp [intOf]; omega
            · have HY2 := Lib.hid (HYES.out (by trivial))
              go_wp2
              go_roundw
              case rel => exact ⟨j - 1, by first | rfl | go_num | (congr 1; omega), by omega, HY2.out, hbi.trans (dV.mono hbi.size)⟩
              case measure => simp [intOf]; omega
        · have GT := Lib.hid (fun (W : World) => gtr_int W (j : Int) 0 false (by simp; omega))
          go_wp2
          refine wp_softS (by kernel_rfl) 59 [(27, [5]), (28, [27]), (29, [28]), (30, [0, 29]), (31, [4, 29]), (32, [30, 31, 29]), (33, [32, 29]), (34, [3, 29]), (35, [5, 29]), (36, [35, 29]), (37, [34, 36, 29]), (38, [37, 29]), (39, [33, 38, 29]), (40, [29, 39])]
            [Fact.is (.int .i64 (j : Int)), Fact.is (.bool false), Fact.is (.bool false), Fact.is (undef), Fact.is (undef), Fact.is (undef), Fact.is (undef), Fact.is (undef), Fact.is (undef), Fact.is (undef), Fact.is (undef), Fact.is (undef), Fact.is (undef), Fact.is (.bool false)]
            (by kernel_rfl) rfl rfl ⟨?s0, ?s1, ?s2, ?s3, ?s4, ?s5, ?s6, ?s7, ?s8, ?s9, ?s10, ?s11, ?s12, ?s13, trivial⟩ ?fin
          case s0 =>
            intro ρ W hb hc hf hr
            obtain ⟨r5, -⟩ := hr
            have e5 : ρ (.tmp 5) = .int .i64 (j : Int) := r5
            clear r5
            refine under_none rfl ?_
            exact ⟨e5, Below.refl _ _⟩
          case s1 =>
            intro ρ W hb hc hf hr
            obtain ⟨r27, -⟩ := hr
            have e27 : ρ (.tmp 27) = .int .i64 (j : Int) := r27
            clear r27
            refine under_none rfl ?_
            exact soft_bin e27 (hc _) rfl rfl (GT.out W)
          case s2 =>
            intro ρ W hb hc hf hr
            obtain ⟨r28, -⟩ := hr
            have e28 : ρ (.tmp 28) = .bool false := r28
            clear r28
            refine under_none rfl ?_
            exact ⟨e28, Below.refl _ _⟩
          case s3 =>
            intro ρ W hb hc hf hr
            obtain ⟨r0, r29, -⟩ := hr
            have e0 : ρ (.tmp 0) = .slice (some ad) n cap := r0
            clear r0
            have e29 : ρ (.tmp 29) = .bool false := r29
            clear r29
            exact ⟨29, rfl, .inr (.inl ⟨e29, rfl⟩)⟩
          case s4 =>
            intro ρ W hb hc hf hr
            obtain ⟨r4, r29, -⟩ := hr
            have e4 : ρ (.tmp 4) = .int .i64 (i : Int) := r4
            clear r4
            have e29 : ρ (.tmp 29) = .bool false := r29
            clear r29
            exact ⟨29, rfl, .inr (.inl ⟨e29, rfl⟩)⟩
          case s5 =>
            intro ρ W hb hc hf hr
            obtain ⟨r30, r31, r29, -⟩ := hr
            have e30 : ρ (.tmp 30) = undef := r30
            clear r30
            have e31 : ρ (.tmp 31) = undef := r31
            clear r31
            have e29 : ρ (.tmp 29) = .bool false := r29
            clear r29
            exact ⟨29, rfl, .inr (.inl ⟨e29, rfl⟩)⟩
          case s6 =>
            intro ρ W hb hc hf hr
            obtain ⟨r32, r29, -⟩ := hr
            have e32 : ρ (.tmp 32) = undef := r32
            clear r32
            have e29 : ρ (.tmp 29) = .bool false := r29
            clear r29
            exact ⟨29, rfl, .inr (.inl ⟨e29, rfl⟩)⟩
          case s7 =>
            intro ρ W hb hc hf hr
            obtain ⟨r3, r29, -⟩ := hr
            have e3 : ρ (.tmp 3) = .slice Ar md capr := r3
            clear r3
            have e29 : ρ (.tmp 29) = .bool false := r29
            clear r29
            exact ⟨29, rfl, .inr (.inl ⟨e29, rfl⟩)⟩
          case s8 =>
            intro ρ W hb hc hf hr
            obtain ⟨r5, r29, -⟩ := hr
            have e5 : ρ (.tmp 5) = .int .i64 (j : Int) := r5
            clear r5
            have e29 : ρ (.tmp 29) = .bool false := r29
            clear r29
            exact ⟨29, rfl, .inr (.inl ⟨e29, rfl⟩)⟩
          case s9 =>
            intro ρ W hb hc hf hr
            obtain ⟨r35, r29, -⟩ := hr
            have e35 : ρ (.tmp 35) = undef := r35
            clear r35
            have e29 : ρ (.tmp 29) = .bool false := r29
            clear r29
            exact ⟨29, rfl, .inr (.inl ⟨e29, rfl⟩)⟩
          case s10 =>
            intro ρ W hb hc hf hr
            obtain ⟨r34, r36, r29, -⟩ := hr
            have e34 : ρ (.tmp 34) = undef := r34
            clear r34
            have e36 : ρ (.tmp 36) = undef := r36
            clear r36
            have e29 : ρ (.tmp 29) = .bool false := r29
            clear r29
            exact ⟨29, rfl, .inr (.inl ⟨e29, rfl⟩)⟩
          case s11 =>
            intro ρ W hb hc hf hr
            obtain ⟨r37, r29, -⟩ := hr
            have e37 : ρ (.tmp 37) = undef := r37
            clear r37
            have e29 : ρ (.tmp 29) = .bool false := r29
            clear r29
            exact ⟨29, rfl, .inr (.inl ⟨e29, rfl⟩)⟩
          case s12 =>
            intro ρ W hb hc hf hr
            obtain ⟨r33, r38, r29, -⟩ := hr
            have e33 : ρ (.tmp 33) = undef := r33
            clear r33
            have e38 : ρ (.tmp 38) = undef := r38
            clear r38
            have e29 : ρ (.tmp 29) = .bool false := r29
            clear r29
            exact ⟨29, rfl, .inr (.inl ⟨e29, rfl⟩)⟩
          case s13 =>
            intro ρ W hb hc hf hr
            obtain ⟨r29, r39, -⟩ := hr
            have e29 : ρ (.tmp 29) = .bool false := r29
            clear r29
            have e39 : ρ (.tmp 39) = undef := r39
            clear r39
            refine under_none rfl ?_
            simp [execOp, e29, hc, go_sem, softUpon, Fact.is, Below.refl]
          case fin =>
            intro a w1 hb hd hsz hk
            have ea := act_puts hd hsz rfl hk
            have k27 : a.tmps.getD 27 undef = .int .i64 (j : Int) := hk 27
            have k28 : a.tmps.getD 28 undef = .bool false := hk 28
            have k29 : a.tmps.getD 29 undef = .bool false := hk 29
            have k30 : a.tmps.getD 30 undef = undef := hk 30
            have k31 : a.tmps.getD 31 undef = undef := hk 31
            have k32 : a.tmps.getD 32 undef = undef := hk 32
            have k33 : a.tmps.getD 33 undef = undef := hk 33
            have k34 : a.tmps.getD 34 undef = undef := hk 34
            have k35 : a.tmps.getD 35 undef = undef := hk 35
            have k36 : a.tmps.getD 36 undef = undef := hk 36
            have k37 : a.tmps.getD 37 undef = undef := hk 37
            have k38 : a.tmps.getD 38 undef = undef := hk 38
            have k39 : a.tmps.getD 39 undef = undef := hk 39
            have k40 : a.tmps.getD 40 undef = .bool false := hk 40
            clear hk hd hsz
            simp only [List.map_cons, List.map_nil, List.foldl_cons, List.foldl_nil, k27, k28, k29, k30, k31, k32, k33, k34, k35, k36, k37, k38, k39, k40] at ea
            clear k27 k28 k29 k30 k31 k32 k33 k34 k35 k36 k37 k38 k39 k40
            simp only [Act.put, List.setIfInBounds_toArray, List.set_cons_succ, List.set_cons_zero] at ea
            subst ea
            have dV := hbd.trans (hb.mono (by simp))
            clear hb
            have HEX := Lib.hid (show ∀ (h0 : 0 < j) (h : j - 1 < d.length), Plain.ilt x d[j - 1] = false from fun h0 _ => absurd h0 hj0)
            have hbd1 : Below w1.heap.size w1 w1.drew := (Below.refl _ _).drew
            have c1 := cr.trans (dV.mono cr.size)
            have HLD1 := Lib.hid (HLD2.out.below dV)
            have LX1 := Lib.hid (fun (W : World) (h : Below w1.heap.size w1 W) => LX.out W (dV.trans (h.mono dV.size)))
            go_wp2
            refine wp_late (by kernel_rfl) 59 [(43, []), (44, [3]), (45, [5]), (46, [44, 45]), (47, [43, 46]), (48, [0]), (49, [4]), (50, [48, 49]), (51, [50]), (52, [51]), (1010, [47, 52]), (54, [3]), (55, [5]), (56, [54, 55]), (1014, [53, 56]), (1015, [57])]
              [Fact.fresh w1.heap.size 24, Fact.is (.slice Ar md capr), Fact.is (.int .i64 (j : Int)), Fact.lie j (flatI (d.take j)), Fact.row w1.heap.size 24 5 j (flatI (d.take j)), Fact.is (.slice (some ad) n cap), Fact.is (.int .i64 (i : Int)), Fact.is (.pointer (some (Addr.add ad (i * 5)))), Fact.is (itV x), Fact.lie 1 (flatI [x]), default, Fact.is (.slice Ar md capr), Fact.is (.int .i64 (j : Int)), Fact.is (.slice (if capr = j then Ar else Ar.map (·.add (j * 5))) (md - j) (capr - j)), default, default]
              [1, 1, 1, 1, 1, 1, 1, 1, 1, 1, 2, 0, 0, 0, 2, 2] [10, 14, 15] [53, 57, 3] [43, 44, 45, 46, 47, 48, 49, 50, 51, 52, 53, 54, 55, 56, 57, 3] (ThreeI w1.heap.size j md d x w1)
              (by kernel_rfl) (by kernel_rfl) rfl rfl ⟨?s0, ?s1, ?s2, ?s3, ?s4, ?s5, ?s6, ?s7, ?s8, ?s9, ?s11, ?s12, ?s13, trivial⟩ ?late ?fin
            case s0 =>
              intro ρ W hb hc hf hr
              clear hr
              refine under_none rfl ?_
              exact soft_freshI (hbd1.trans (hb.mono (by simp))).size rfl
            case s1 =>
              intro ρ W hb hc hf hr
              obtain ⟨r3, -⟩ := hr
              have e3 : ρ (.tmp 3) = .slice Ar md capr := r3
              clear r3
              refine under_none rfl ?_
              exact ⟨e3, Below.refl _ _⟩
            case s2 =>
              intro ρ W hb hc hf hr
              obtain ⟨r5, -⟩ := hr
              have e5 : ρ (.tmp 5) = .int .i64 (j : Int) := r5
              clear r5
              refine under_none rfl ?_
              exact ⟨e5, Below.refl _ _⟩
            case s3 =>
              intro ρ W hb hc hf hr
              obtain ⟨r44, r45, -⟩ := hr
              have e44 : ρ (.tmp 44) = .slice Ar md capr := r44
              clear r44
              have e45 : ρ (.tmp 45) = .int .i64 (j : Int) := r45
              clear r45
              refine under_none rfl ?_
              exact soft_takeLI e44 e45 HDL.out hj hcr hmr (HLD1.out.below (hbd1.trans (hb.mono (by simp)))) rfl
            case s4 =>
              intro ρ W hb hc hf hr
              obtain ⟨r43, r46, -⟩ := hr
              refine under_none rfl ?_
              exact soft_app0LI r43 r46 (by rw [List.length_take, HDL.out]; omega) (by omega) rfl
            case s5 =>
              intro ρ W hb hc hf hr
              obtain ⟨r0, -⟩ := hr
              have e0 : ρ (.tmp 0) = .slice (some ad) n cap := r0
              clear r0
              refine under_none rfl ?_
              exact ⟨e0, Below.refl _ _⟩
            case s6 =>
              intro ρ W hb hc hf hr
              obtain ⟨r4, -⟩ := hr
              have e4 : ρ (.tmp 4) = .int .i64 (i : Int) := r4
              clear r4
              refine under_none rfl ?_
              exact ⟨e4, Below.refl _ _⟩
            case s7 =>
              intro ρ W hb hc hf hr
              obtain ⟨r48, r49, -⟩ := hr
              have e48 : ρ (.tmp 48) = .slice (some ad) n cap := r48
              clear r48
              have e49 : ρ (.tmp 49) = .int .i64 (i : Int) := r49
              clear r49
              refine under_none rfl ?_
              exact soft_index5 e48 e49 (by omega) rfl
            case s8 =>
              intro ρ W hb hc hf hr
              obtain ⟨r50, -⟩ := hr
              have e50 : ρ (.tmp 50) = .pointer (some (Addr.add ad (i * 5))) := r50
              clear r50
              refine under_none rfl ?_
              exact soft_load e50 (LX1.out W (hbd1.trans (hb.mono (by simp)))) rfl
            case s9 =>
              intro ρ W hb hc hf hr
              obtain ⟨r51, -⟩ := hr
              have e51 : ρ (.tmp 51) = itV x := r51
              clear r51
              refine under_none rfl ?_
              exact soft_oneI e51 rfl
            case s11 =>
              refine ⟨rfl, _, rfl, ?_⟩
              intro ρ W hc hf hr
              obtain ⟨r3, -⟩ := hr
              have e3 : ρ (.tmp 3) = .slice Ar md capr := r3
              clear r3
              simp [execOp, e3]
            case s12 =>
              refine ⟨rfl, _, rfl, ?_⟩
              intro ρ W hc hf hr
              obtain ⟨r5, -⟩ := hr
              have e5 : ρ (.tmp 5) = .int .i64 (j : Int) := r5
              clear r5
              simp [execOp, e5]
            case s13 =>
              refine ⟨rfl, _, rfl, ?_⟩
              intro ρ W hc hf hr
              obtain ⟨r54, r55, -⟩ := hr
              have e54 : ρ (.tmp 54) = .slice Ar md capr := r54
              clear r54
              have e55 : ρ (.tmp 55) = .int .i64 (j : Int) := r55
              clear r55
              exact run_dropLI e54 e55 hj hcr hmr hAr rfl
            case late =>
              intro p j o hj ho a W hsz h0 h1 hfr hou
              match p, hj with
              | 0, hj =>
                obtain rfl : 10 = j := Option.some.inj hj
                obtain rfl := Option.some.inj ho
                clear hj ho
                obtain ⟨hb, hhard⟩ := h0 rfl
                have r47 : (Fact.row w1.heap.size 24 5 j (flatI (d.take j))).φ (a.tmps.getD 47 undef) W := hhard 47 4 rfl rfl
                have r52 : (Fact.lie 1 (flatI [x])).φ (a.tmps.getD 52 undef) W := hhard 52 9 rfl rfl
                clear h0 h1 hhard hfr hou
                refine late_appI (s := .tmp 47) (x := .tmp 52) (n := j) (m := 1) (l := d.take j) (k := [x]) r47 r52 rfl (by omega) (hbd1.trans (hb.mono (by simp))).size rfl fun v w' ho hbb => ⟨v, rfl, ?_⟩
                exact ⟨hbb _ (hbd1.trans (hb.mono (by simp))), fun _ => by simpa [Act.put, Array.getD_eq_getD_getElem?, hsz] using ho, fun h => absurd h (by omega), fun h => absurd h (by omega)⟩
              | 1, hj =>
                obtain rfl : 14 = j := Option.some.inj hj
                obtain rfl := Option.some.inj ho
                clear hj ho
                have hP := h1 (by omega)
                have e56 : a.eval (.tmp 56) = .slice (if capr = j then Ar else Ar.map (·.add (j * 5))) (md - j) (capr - j) := hfr 56 13 rfl rfl (by kernel_rfl)
                clear h0 h1 hfr hou
                obtain ⟨hb, ho, -, -⟩ := hP
                refine late_appI (s := .tmp 53) (x := .tmp 56) (n := j + 1) (m := md - j) (l := d.take j ++ [x]) (k := d.drop j) (ho rfl) ⟨_, _, e56, drop_liesI HDL.out hcr (HLD1.out.below hb)⟩ (by rw [List.length_drop, HDL.out]) (by omega) hb.size rfl fun v w' ho2 hbb => ⟨v, rfl, ?_⟩
                have ejk : j + 1 + (md - j) = md + 1 := by omega
                rw [ejk] at ho2
                exact ⟨hbb _ hb, fun h => absurd h (by omega), fun _ => by simpa [Act.put, Array.getD_eq_getD_getElem?, hsz] using ho2, fun h => absurd h (by omega)⟩
              | 2, hj =>
                obtain rfl : 15 = j := Option.some.inj hj
                obtain rfl := Option.some.inj ho
                clear hj ho
                have hP := h1 (by omega)
                clear h0 h1 hfr hou
                obtain ⟨hb, -, ho, -⟩ := hP
                refine late_assign rfl rfl ⟨_, rfl, ?_⟩
                exact ⟨hb, fun h => absurd h (by omega), fun _ => by simpa [Act.put, Array.getD_eq_getD_getElem?, hsz] using ho (by omega), fun _ => by simp [Act.put, Act.eval, Array.getD_eq_getD_getElem?, hsz]⟩
              | q + 3, hj => cases hj
            case fin =>
              intro a w2 ha hP
              obtain ⟨d2, -, ho2, he2⟩ := hP
              have e3 : a.tmps.getD 3 undef = a.tmps.getD 57 undef := by simpa using he2 rfl
              have hr2 : w2.ownsRow w1.heap.size 24 5 (a.tmps.getD 57 undef) (md + 1) (flatI (d.take j ++ [x] ++ d.drop j)) := ho2 (by decide)
              clear he2 ho2
              obtain ⟨v57, e57⟩ : ∃ v, a.tmps.getD 57 undef = v := ⟨_, rfl⟩
              rw [e57] at e3 hr2
              simp only [List.foldl_cons, List.foldl_nil, e3, e57] at ha
              clear e3 e57
              generalize a.tmps.getD 43 undef = v43 at ha
              generalize a.tmps.getD 44 undef = v44 at ha
              generalize a.tmps.getD 45 undef = v45 at ha
              generalize a.tmps.getD 46 undef = v46 at ha
              generalize a.tmps.getD 47 undef = v47 at ha
              generalize a.tmps.getD 48 undef = v48 at ha
              generalize a.tmps.getD 49 undef = v49 at ha
              generalize a.tmps.getD 50 undef = v50 at ha
              generalize a.tmps.getD 51 undef = v51 at ha
              generalize a.tmps.getD 52 undef = v52 at ha
              generalize a.tmps.getD 53 undef = v53 at ha
              generalize a.tmps.getD 54 undef = v54 at ha
              generalize a.tmps.getD 55 undef = v55 at ha
              generalize a.tmps.getD 56 undef = v56 at ha
              simp only [Act.put, List.setIfInBounds_toArray, List.set_cons_succ, List.set_cons_zero] at ha
              subst ha
              have hd3 := HNX.out j hj HALL.out HEX.out
              have hl3 : (d.take j ++ [x] ++ d.drop j).length = md + 1 := by simp [HDL.out]; omega
              rw [← hl3] at hr2
              obtain ⟨A7, cap7, rfl, hl7, hm7, hL7, -, hT7⟩ := GivesI.own (w := w2) (w' := w2) (l := d.take j ++ [x] ++ d.drop j) hr2 (Below.refl _ _)
              rw [hl3] at hl7 ⊢
              have HL7 := Lib.hid hL7; have HT7 := Lib.hid hT7
              have HD3 := Lib.hid hd3
              have HL3 := Lib.hid hl3
              have c2 := c1.trans (d2.mono c1.size)
              clear hr2 hL7 hT7 hl3 hd3
              go_wp2
              go_roundw
              case rel => exact ⟨i + 1, md + 1, cap7, A7, d.take j ++ [x] ++ d.drop j, by go_num, by omega, rfl, HL3.out, by omega, hl7, hm7, HT7.out, HL7.out, HD3.out, c2⟩
              case measure => simp [intOf]; omega
    · obtain rfl : i = n := by omega
      obtain rfl : d = IO := by rw [← HSR.out, HI.out]
      go_wp2
      go_ret
      exact ⟨_, rfl, Ar, capr, by rw [HDL.out]; rfl, by rw [HDL.out]; exact hcr, HM.out, HLD.out, hbr, HTY.out⟩
end Go.Proofs.Ytkhlgjkbkpbhiaa

