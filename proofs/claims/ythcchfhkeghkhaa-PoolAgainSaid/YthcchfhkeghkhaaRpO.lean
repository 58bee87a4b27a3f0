/-
  The document's Sort once more: what it hands back lies in memory of its own. Made by gen16/rpo.py out of TrR6. Nothing is assumed but that the spans lie in memory.
-/
import Derived.Test.YthcchfhkeghkhaaTrR6

namespace Go.Proofs.Ythcchfhkeghkhaa
open Go.RowKit
set_option maxRecDepth 100000

/-- a slice of spans in memory of one's own -/
def GivesO (w w' : World) (l : List Plain.Sp) (v : Value) : Prop := ∃ A cap, v = .slice A l.length cap ∧ l.length ≤ cap ∧ cap ≤ maxLen ∧ Lies w' A (flat l) ∧ Below w.heap.size w w' ∧ ∀ ad, A = some ad → w.heap.size ≤ ad.block
theorem GivesO.nil {w w' : World} (h : Below w.heap.size w w') : GivesO w w' [] (.slice none 0 0) := ⟨none, 0, rfl, by simp, by unfold maxLen; omega, .inl rfl, h, fun _ e => (by cases e)⟩
theorem GivesO.own {w' : World} {l : List Plain.Sp} {v : Value} {B : Nat} (ho : w'.ownsRow B 45 7 v l.length (flat l)) : ∃ A cap, v = .slice A l.length cap ∧ l.length ≤ cap ∧ cap ≤ maxLen ∧ Lies w' A (flat l) ∧ ∀ ad, A = some ad → B ≤ ad.block := by
  rcases ho.2 with ⟨rfl, h0⟩ | ⟨g, cap, cur, rfl, hb, hg, h1, h2, h3⟩
  · have : l = [] := List.eq_nil_of_length_eq_zero h0
    subst this
    exact ⟨none, 0, rfl, by simp, by unfold maxLen; omega, .inl rfl, fun _ e => (by cases e)⟩
  · exact ⟨_, cap, rfl, h1, h2, .inr ⟨_, rfl, (ho.lt g rfl).2, ho.cells (g := g) rfl⟩, fun ad e => (by cases e; exact hb)⟩

set_option maxHeartbeats 8000000 in
theorem rtsort_own (A : Option Addr) (n cap : Nat) (l : List Plain.Sp) (w : World) (hn : l.length = n) (hA : Lies w A (flat l)) (hS : Fine l) :
    Calls Try.prog 46 #[.slice A n cap] w fun e w' => ∃ v, e = .returned (.tuple #[v, .bool (Plain.isT (Plain.srt l))]) ∧ GivesO w w' (Plain.ts l) v := by
  have hsl : (Plain.srt l).length = n := by rw [(Plain.srt_perm l).length_eq, hn]
  by_cases h2 : 64 < n
  · have hF : Plain.isT (Plain.srt l) = false := Plain.isT_long (by omega)
    have hT := Plain.ts_no hF
    rw [hF, hT]
    clear hA hS hn hsl hF hT
    go_enter Try.func46, Try.ntmps46
    go_wp2
    go_returns
    exact ⟨.slice none 0 0, rfl, GivesO.nil (Below.refl _ _)⟩
  have HN := Lib.hid hn
  have HA := Lib.hid hA
  have HS := Lib.hid hS
  have HO := Lib.hid (fun (d : List Plain.Sp) (hp : d.Perm l) (hs : d.Pairwise (fun a b => Plain.le a b = true)) => Plain.ts_of hp hs)
  have HNO := Lib.hid (Plain.ts_no (l := l))
  generalize Plain.ts l = T at *
  generalize Plain.isT (Plain.srt l) = R at *
  clear hA hS hsl hn
  go_enter Try.func46, Try.ntmps46
  go_wp2
  go_loopw [4, 5] (fun v i wr => ∃ (k capr : Nat) (Ar : Option Addr) (d : List Plain.Sp), i = .int .i64 k ∧ k ≤ n ∧ v = .slice Ar k capr ∧ d.length = k ∧ k ≤ capr ∧ capr ≤ maxLen ∧ Lies wr Ar (flat d) ∧ d.Perm (l.take k) ∧ d.Pairwise (fun a b => Plain.le a b = true) ∧ Below w.heap.size w wr ∧ (∀ ad, Ar = some ad → w.heap.size ≤ ad.block)) (fun _ i _ => n - (intOf i).toNat)
  case atStart => exact ⟨0, 0, none, [], rfl, Nat.zero_le _, rfl, rfl, Nat.le_refl _, Nat.zero_le _, .inl rfl, by simp, by simp, Below.refl _ _, fun _ e => (by cases e)⟩
  case round =>
    obtain ⟨k, capr, Ar, d, rfl, hk, rfl, hdl, hcr, hmr, hld, hper, hsrt, hbr, hfr⟩ := hrel
    have HFR := Lib.hid hfr
    clear hfr
    have HDL := Lib.hid hdl
    have HLD := Lib.hid hld
    have HPR := Lib.hid hper
    have HSR := Lib.hid hsrt
    have hAr : Ar = none → k = 0 := by rw [← hdl]; exact lies_none hld
    have HM := Lib.hid hmr
    unfold maxLen at hmr
    clear hdl hld hper hsrt
    by_cases hlt : k < n
    · have hkl : k < l.length := by rw [HN.out]; exact hlt
      obtain ⟨ad, rfl, -, hc⟩ := at_span HA.out k hkl
      have HCX := Lib.hid hc
      have HT := Lib.hid (show l.take (k + 1) = l.take k ++ [l[k]] from List.take_succ_eq_append_getElem hkl)
      clear hc
      generalize l[k] = x at *
      have HNX := Lib.hid (show ∀ j, j ≤ k → (∀ y ∈ d.take j, Plain.lt y x = true) → (∀ h : j < d.length, Plain.lt d[j] x = false) → (d.take j ++ [x] ++ d.drop j).Perm (l.take (k + 1)) ∧ (d.take j ++ [x] ++ d.drop j).Pairwise (fun a b => Plain.le a b = true) from fun j h1 h2 h3 => by
        rw [ins_at x d j (by rw [HDL.out]; exact h1) h2 h3, HT.out]
        exact ⟨(Plain.ins_perm x d).trans (HPR.out.append_right [x]), Plain.ins_sorted x d HSR.out⟩)
      clear HT HPR HSR
      go_wp2
      go_loopw [6] (fun i wr2 => ∃ j : Nat, i = .int .i64 j ∧ j ≤ k ∧ (∀ y ∈ d.take j, Plain.lt y x = true) ∧ Below wr.heap.size wr wr2) (fun i _ => k - (intOf i).toNat)
      case atStart => exact ⟨0, rfl, Nat.zero_le _, by simp, Below.refl _ _⟩
      case round =>
        obtain ⟨j, rfl, hj, hall, hbi⟩ := hrel
        have HALL := Lib.hid hall
        clear hall
        have cr := hbr.trans (hbi.mono hbr.size)
        have HLD2 := Lib.hid (HLD.out.below hbi)
        have hbd : Below wr.heap.size wr wr.drew := (Below.refl _ _).drew
        have LX := Lib.hid (fun (W : World) (h : Below wr.heap.size wr W) => have q := HCX.out W (cr.trans (h.mono cr.size)); load_span_at q.1 q.2.1 q.2.2.1 q.2.2.2.1 q.2.2.2.2.1 q.2.2.2.2.2.1 q.2.2.2.2.2.2)
        by_cases hjk : j < k
        · have hjd : j < d.length := by rw [HDL.out]; exact hjk
          obtain ⟨od, rfl, -, hco⟩ := at_span HLD2.out j hjd
          have LSS := Lib.hid (fun (W : World) => lss_int W (j : Int) (k : Int) true (by simp; omega))
          have LY := Lib.hid (fun (W : World) (h : Below wr.heap.size wr W) => have q := hco W h; load_span_at q.1 q.2.1 q.2.2.1 q.2.2.2.1 q.2.2.2.2.1 q.2.2.2.2.2.1 q.2.2.2.2.2.2)
          have HEX0 := Lib.hid (show Plain.lt d[j] x = false → ∀ h : j < d.length, Plain.lt d[j] x = false from fun h _ => h)
          have HYES := Lib.hid (show Plain.lt d[j] x = true → ∀ z ∈ d.take (j + 1), Plain.lt z x = true from fun h z hz => by
            rw [List.take_succ_eq_append_getElem hjd] at hz
            rcases List.mem_append.1 hz with hz | hz
            · exact HALL.out z hz
            · rw [List.mem_singleton.1 hz]; exact h)
          clear hco
          have HYY := Lib.hid (show ∃ y, d[j] = y from ⟨_, rfl⟩)
          obtain ⟨y, hy⟩ := HYY.out
          have HDJ := Lib.hid hy
          rw [hy] at LY HYES
          simp only [hy] at HEX0
          clear HYY hy
          obtain ⟨L, hL⟩ : ∃ L, Plain.lt y x = L := ⟨_, rfl⟩
          rw [hL] at HYES
          have HLL := Lib.hid (show lessN y.s y.i x.s x.i = L from hL)
          have HLV := Lib.hid hL
          have HLS := Lib.hid (fun (W : World) => show Calls Try.prog 37 #[.agg #[.int .i64 y.t, .int .i64 y.i, .int .i64 y.p, .int .i64 y.s, .int .i64 y.d, .string (str y.sv), .string (str y.nm)], .agg #[.int .i64 x.t, .int .i64 x.i, .int .i64 x.p, .int .i64 x.s, .int .i64 x.d, .string (str x.sv), .string (str x.nm)]] W (fun e w' => e = .returned (.bool L) ∧ Below W.heap.size W w') by
            have := rless_any y.t y.i y.p y.s y.d (str y.sv) (str y.nm) x.t x.i x.p x.s x.d (str x.sv) (str x.nm) W
            rwa [HLL.out] at this)
          clear hL HEX0
          go_wp2
          refine wp_softS (by kernel_rfl) 52 [(16, [6]), (17, [4]), (18, [17]), (19, [16, 18]), (20, [19]), (21, [4, 20]), (22, [6, 20]), (23, [21, 22, 20]), (24, [23, 20]), (25, [0, 20]), (26, [5, 20]), (27, [25, 26, 20]), (28, [27, 20]), (29, [24, 28, 20]), (30, [20, 29])]
            [Fact.is (.int .i64 (j : Int)), Fact.is (.slice (some od) k capr), Fact.is (.int .i64 k), Fact.is (.bool true), Fact.is (.bool true), Fact.is (.slice (some od) k capr), Fact.is (.int .i64 (j : Int)), Fact.is (.pointer (some (Addr.add od (j * 7)))), Fact.is (.agg #[.int .i64 y.t, .int .i64 y.i, .int .i64 y.p, .int .i64 y.s, .int .i64 y.d, .string (str y.sv), .string (str y.nm)]), Fact.is (.slice (some ad) n cap), Fact.is (.int .i64 (k : Int)), Fact.is (.pointer (some (Addr.add ad (k * 7)))), Fact.is (.agg #[.int .i64 x.t, .int .i64 x.i, .int .i64 x.p, .int .i64 x.s, .int .i64 x.d, .string (str x.sv), .string (str x.nm)]), Fact.is (.bool L), Fact.is (.bool L)]
            (by kernel_rfl) rfl rfl ⟨?s0, ?s1, ?s2, ?s3, ?s4, ?s5, ?s6, ?s7, ?s8, ?s9, ?s10, ?s11, ?s12, ?s13, ?s14, trivial⟩ ?fin
          case s0 =>
            intro ρ W hb hc hf hr
            obtain ⟨r6, -⟩ := hr
            have e6 : ρ (.tmp 6) = .int .i64 (j : Int) := r6
            clear r6
            refine under_none rfl ?_
            exact ⟨e6, Below.refl _ _⟩
          case s1 =>
            intro ρ W hb hc hf hr
            obtain ⟨r4, -⟩ := hr
            have e4 : ρ (.tmp 4) = .slice (some od) k capr := r4
            clear r4
            refine under_none rfl ?_
            exact ⟨e4, Below.refl _ _⟩
          case s2 =>
            intro ρ W hb hc hf hr
            obtain ⟨r17, -⟩ := hr
            have e17 : ρ (.tmp 17) = .slice (some od) k capr := r17
            clear r17
            refine under_none rfl ?_
            simp [e17, go_sem, softUpon, Fact.is, Below.refl]
          case s3 =>
            intro ρ W hb hc hf hr
            obtain ⟨r16, r18, -⟩ := hr
            have e16 : ρ (.tmp 16) = .int .i64 (j : Int) := r16
            clear r16
            have e18 : ρ (.tmp 18) = .int .i64 k := r18
            clear r18
            refine under_none rfl ?_
            exact soft_bin e16 e18 rfl rfl (LSS.out W)
          case s4 =>
            intro ρ W hb hc hf hr
            obtain ⟨r19, -⟩ := hr
            have e19 : ρ (.tmp 19) = .bool true := r19
            clear r19
            refine under_none rfl ?_
            exact ⟨e19, Below.refl _ _⟩
          case s5 =>
            intro ρ W hb hc hf hr
            obtain ⟨r4, r20, -⟩ := hr
            have e4 : ρ (.tmp 4) = .slice (some od) k capr := r4
            clear r4
            have e20 : ρ (.tmp 20) = .bool true := r20
            clear r20
            refine ⟨20, rfl, .inl ⟨e20, ?_⟩⟩
            exact ⟨e4, Below.refl _ _⟩
          case s6 =>
            intro ρ W hb hc hf hr
            obtain ⟨r6, r20, -⟩ := hr
            have e6 : ρ (.tmp 6) = .int .i64 (j : Int) := r6
            clear r6
            have e20 : ρ (.tmp 20) = .bool true := r20
            clear r20
            refine ⟨20, rfl, .inl ⟨e20, ?_⟩⟩
            exact ⟨e6, Below.refl _ _⟩
          case s7 =>
            intro ρ W hb hc hf hr
            obtain ⟨r21, r22, r20, -⟩ := hr
            have e21 : ρ (.tmp 21) = .slice (some od) k capr := r21
            clear r21
            have e22 : ρ (.tmp 22) = .int .i64 (j : Int) := r22
            clear r22
            have e20 : ρ (.tmp 20) = .bool true := r20
            clear r20
            refine ⟨20, rfl, .inl ⟨e20, ?_⟩⟩
            exact soft_index7 e21 e22 (by omega) rfl
          case s8 =>
            intro ρ W hb hc hf hr
            obtain ⟨r23, r20, -⟩ := hr
            have e23 : ρ (.tmp 23) = .pointer (some (Addr.add od (j * 7))) := r23
            clear r23
            have e20 : ρ (.tmp 20) = .bool true := r20
            clear r20
            refine ⟨20, rfl, .inl ⟨e20, ?_⟩⟩
            exact soft_load e23 (LY.out W (hbd.trans (hb.mono (by simp)))) rfl
          case s9 =>
            intro ρ W hb hc hf hr
            obtain ⟨r0, r20, -⟩ := hr
            have e0 : ρ (.tmp 0) = .slice (some ad) n cap := r0
            clear r0
            have e20 : ρ (.tmp 20) = .bool true := r20
            clear r20
            refine ⟨20, rfl, .inl ⟨e20, ?_⟩⟩
            exact ⟨e0, Below.refl _ _⟩
          case s10 =>
            intro ρ W hb hc hf hr
            obtain ⟨r5, r20, -⟩ := hr
            have e5 : ρ (.tmp 5) = .int .i64 (k : Int) := r5
            clear r5
            have e20 : ρ (.tmp 20) = .bool true := r20
            clear r20
            refine ⟨20, rfl, .inl ⟨e20, ?_⟩⟩
            exact ⟨e5, Below.refl _ _⟩
          case s11 =>
            intro ρ W hb hc hf hr
            obtain ⟨r25, r26, r20, -⟩ := hr
            have e25 : ρ (.tmp 25) = .slice (some ad) n cap := r25
            clear r25
            have e26 : ρ (.tmp 26) = .int .i64 (k : Int) := r26
            clear r26
            have e20 : ρ (.tmp 20) = .bool true := r20
            clear r20
            refine ⟨20, rfl, .inl ⟨e20, ?_⟩⟩
            exact soft_index7 e25 e26 (by omega) rfl
          case s12 =>
            intro ρ W hb hc hf hr
            obtain ⟨r27, r20, -⟩ := hr
            have e27 : ρ (.tmp 27) = .pointer (some (Addr.add ad (k * 7))) := r27
            clear r27
            have e20 : ρ (.tmp 20) = .bool true := r20
            clear r20
            refine ⟨20, rfl, .inl ⟨e20, ?_⟩⟩
            exact soft_load e27 (LX.out W (hbd.trans (hb.mono (by simp)))) rfl
          case s13 =>
            intro ρ W hb hc hf hr
            obtain ⟨r24, r28, r20, -⟩ := hr
            have e24 : ρ (.tmp 24) = .agg #[.int .i64 y.t, .int .i64 y.i, .int .i64 y.p, .int .i64 y.s, .int .i64 y.d, .string (str y.sv), .string (str y.nm)] := r24
            clear r24
            have e28 : ρ (.tmp 28) = .agg #[.int .i64 x.t, .int .i64 x.i, .int .i64 x.p, .int .i64 x.s, .int .i64 x.d, .string (str x.sv), .string (str x.nm)] := r28
            clear r28
            have e20 : ρ (.tmp 20) = .bool true := r20
            clear r20
            refine ⟨20, rfl, .inl ⟨e20, ?_⟩⟩
            exact soft_call2 hf e24 e28 (HLS.out W) rfl (by kernel_rfl) below_is
          case s14 =>
            intro ρ W hb hc hf hr
            obtain ⟨r20, r29, -⟩ := hr
            have e20 : ρ (.tmp 20) = .bool true := r20
            clear r20
            have e29 : ρ (.tmp 29) = .bool L := r29
            clear r29
            refine under_none rfl ?_
            simp [execOp, e20, e29, go_sem, softUpon, Fact.is, Below.refl]
          case fin =>
            intro a w1 hb hd hsz hk
            have ea := act_puts hd hsz rfl hk
            have k16 : a.tmps.getD 16 undef = .int .i64 (j : Int) := hk 16
            have k17 : a.tmps.getD 17 undef = .slice (some od) k capr := hk 17
            have k18 : a.tmps.getD 18 undef = .int .i64 k := hk 18
            have k19 : a.tmps.getD 19 undef = .bool true := hk 19
            have k20 : a.tmps.getD 20 undef = .bool true := hk 20
            have k21 : a.tmps.getD 21 undef = .slice (some od) k capr := hk 21
            have k22 : a.tmps.getD 22 undef = .int .i64 (j : Int) := hk 22
            have k23 : a.tmps.getD 23 undef = .pointer (some (Addr.add od (j * 7))) := hk 23
            have k24 : a.tmps.getD 24 undef = .agg #[.int .i64 y.t, .int .i64 y.i, .int .i64 y.p, .int .i64 y.s, .int .i64 y.d, .string (str y.sv), .string (str y.nm)] := hk 24
            have k25 : a.tmps.getD 25 undef = .slice (some ad) n cap := hk 25
            have k26 : a.tmps.getD 26 undef = .int .i64 (k : Int) := hk 26
            have k27 : a.tmps.getD 27 undef = .pointer (some (Addr.add ad (k * 7))) := hk 27
            have k28 : a.tmps.getD 28 undef = .agg #[.int .i64 x.t, .int .i64 x.i, .int .i64 x.p, .int .i64 x.s, .int .i64 x.d, .string (str x.sv), .string (str x.nm)] := hk 28
            have k29 : a.tmps.getD 29 undef = .bool L := hk 29
            have k30 : a.tmps.getD 30 undef = .bool L := hk 30
            clear hk hd hsz
            simp only [List.map_cons, List.map_nil, List.foldl_cons, List.foldl_nil, k16, k17, k18, k19, k20, k21, k22, k23, k24, k25, k26, k27, k28, k29, k30] at ea
            clear k16 k17 k18 k19 k20 k21 k22 k23 k24 k25 k26 k27 k28 k29 k30
            simp only [Act.put, List.setIfInBounds_toArray, List.set_cons_succ, List.set_cons_zero] at ea
            subst ea
            have dV := hbd.trans (hb.mono (by simp))
            clear hb hk
            rcases L with _ | _
            · have HEX := Lib.hid (show ∀ h : j < d.length, Plain.lt d[j] x = false from fun _ => by rw [HDJ.out]; exact HLV.out)
              have hbd1 : Below w1.heap.size w1 w1.drew := (Below.refl _ _).drew
              have c1 := cr.trans (dV.mono cr.size)
              have HLD1 := Lib.hid (HLD2.out.below dV)
              have LX1 := Lib.hid (fun (W : World) (h : Below w1.heap.size w1 W) => LX.out W (dV.trans (h.mono dV.size)))
              go_wp2
              refine wp_late (by kernel_rfl) 52 [(33, []), (34, [4]), (35, [6]), (36, [34, 35]), (37, [33, 36]), (38, [0]), (39, [5]), (40, [38, 39]), (41, [40]), (42, [41]), (1010, [37, 42]), (44, [4]), (45, [6]), (46, [44, 45]), (1014, [43, 46]), (1015, [47])]
                [Fact.fresh w1.heap.size 45, Fact.is (.slice (some od) k capr), Fact.is (.int .i64 (j : Int)), Fact.lie j (flat (d.take j)), Fact.row w1.heap.size 45 7 j (flat (d.take j)), Fact.is (.slice (some ad) n cap), Fact.is (.int .i64 (k : Int)), Fact.is (.pointer (some (Addr.add ad (k * 7)))), Fact.is (.agg #[.int .i64 x.t, .int .i64 x.i, .int .i64 x.p, .int .i64 x.s, .int .i64 x.d, .string (str x.sv), .string (str x.nm)]), Fact.lie 1 (flat [x]), default, Fact.is (.slice (some od) k capr), Fact.is (.int .i64 (j : Int)), Fact.is (.slice (if capr = j then (some od) else (some od).map (·.add (j * 7))) (k - j) (capr - j)), default, default]
                [1, 1, 1, 1, 1, 1, 1, 1, 1, 1, 2, 0, 0, 0, 2, 2] [10, 14, 15] [43, 47, 4] [33, 34, 35, 36, 37, 38, 39, 40, 41, 42, 43, 44, 45, 46, 47, 4] (Three w1.heap.size j k d x w1)
                (by kernel_rfl) (by kernel_rfl) rfl rfl ⟨?s0, ?s1, ?s2, ?s3, ?s4, ?s5, ?s6, ?s7, ?s8, ?s9, ?s11, ?s12, ?s13, trivial⟩ ?late ?fin
              case s0 =>
                intro ρ W hb hc hf hr
                clear hr
                refine under_none rfl ?_
                exact soft_freshS (hbd1.trans (hb.mono (by simp))).size rfl
              case s1 =>
                intro ρ W hb hc hf hr
                obtain ⟨r4, -⟩ := hr
                have e4 : ρ (.tmp 4) = .slice (some od) k capr := r4
                clear r4
                refine under_none rfl ?_
                exact ⟨e4, Below.refl _ _⟩
              case s2 =>
                intro ρ W hb hc hf hr
                obtain ⟨r6, -⟩ := hr
                have e6 : ρ (.tmp 6) = .int .i64 (j : Int) := r6
                clear r6
                refine under_none rfl ?_
                exact ⟨e6, Below.refl _ _⟩
              case s3 =>
                intro ρ W hb hc hf hr
                obtain ⟨r34, r35, -⟩ := hr
                have e34 : ρ (.tmp 34) = .slice (some od) k capr := r34
                clear r34
                have e35 : ρ (.tmp 35) = .int .i64 (j : Int) := r35
                clear r35
                refine under_none rfl ?_
                exact soft_takeL e34 e35 HDL.out hj hcr hmr (HLD1.out.below (hbd1.trans (hb.mono (by simp)))) rfl
              case s4 =>
                intro ρ W hb hc hf hr
                obtain ⟨r33, r36, -⟩ := hr
                refine under_none rfl ?_
                exact soft_app0L r33 r36 (by rw [List.length_take, HDL.out]; omega) (by omega) rfl
              case s5 =>
                intro ρ W hb hc hf hr
                obtain ⟨r0, -⟩ := hr
                have e0 : ρ (.tmp 0) = .slice (some ad) n cap := r0
                clear r0
                refine under_none rfl ?_
                exact ⟨e0, Below.refl _ _⟩
              case s6 =>
                intro ρ W hb hc hf hr
                obtain ⟨r5, -⟩ := hr
                have e5 : ρ (.tmp 5) = .int .i64 (k : Int) := r5
                clear r5
                refine under_none rfl ?_
                exact ⟨e5, Below.refl _ _⟩
              case s7 =>
                intro ρ W hb hc hf hr
                obtain ⟨r38, r39, -⟩ := hr
                have e38 : ρ (.tmp 38) = .slice (some ad) n cap := r38
                clear r38
                have e39 : ρ (.tmp 39) = .int .i64 (k : Int) := r39
                clear r39
                refine under_none rfl ?_
                exact soft_index7 e38 e39 (by omega) rfl
              case s8 =>
                intro ρ W hb hc hf hr
                obtain ⟨r40, -⟩ := hr
                have e40 : ρ (.tmp 40) = .pointer (some (Addr.add ad (k * 7))) := r40
                clear r40
                refine under_none rfl ?_
                exact soft_load e40 (LX1.out W (hbd1.trans (hb.mono (by simp)))) rfl
              case s9 =>
                intro ρ W hb hc hf hr
                obtain ⟨r41, -⟩ := hr
                have e41 : ρ (.tmp 41) = .agg #[.int .i64 x.t, .int .i64 x.i, .int .i64 x.p, .int .i64 x.s, .int .i64 x.d, .string (str x.sv), .string (str x.nm)] := r41
                clear r41
                refine under_none rfl ?_
                exact soft_oneS e41 rfl
              case s11 =>
                refine ⟨rfl, _, rfl, ?_⟩
                intro ρ W hc hf hr
                obtain ⟨r4, -⟩ := hr
                have e4 : ρ (.tmp 4) = .slice (some od) k capr := r4
                clear r4
                simp [execOp, e4]
              case s12 =>
                refine ⟨rfl, _, rfl, ?_⟩
                intro ρ W hc hf hr
                obtain ⟨r6, -⟩ := hr
                have e6 : ρ (.tmp 6) = .int .i64 (j : Int) := r6
                clear r6
                simp [execOp, e6]
              case s13 =>
                refine ⟨rfl, _, rfl, ?_⟩
                intro ρ W hc hf hr
                obtain ⟨r44, r45, -⟩ := hr
                have e44 : ρ (.tmp 44) = .slice (some od) k capr := r44
                clear r44
                have e45 : ρ (.tmp 45) = .int .i64 (j : Int) := r45
                clear r45
                exact run_dropL e44 e45 hj hcr hmr hAr rfl
              case late =>
                intro p j o hj ho a W hsz h0 h1 hfr hou
                match p, hj with
                | 0, hj =>
                  obtain rfl : 10 = j := Option.some.inj hj
                  obtain rfl := Option.some.inj ho
                  clear hj ho
                  obtain ⟨hb, hhard⟩ := h0 rfl
                  have r37 : (Fact.row w1.heap.size 45 7 j (flat (d.take j))).φ (a.tmps.getD 37 undef) W := hhard 37 4 rfl rfl
                  have r42 : (Fact.lie 1 (flat [x])).φ (a.tmps.getD 42 undef) W := hhard 42 9 rfl rfl
                  clear h0 h1 hhard hfr hou
                  refine late_appS (s := .tmp 37) (x := .tmp 42) (n := j) (m := 1) (l := d.take j) (k := [x]) r37 r42 rfl (by omega) (hbd1.trans (hb.mono (by simp))).size rfl fun v w' ho hbb => ⟨v, rfl, ?_⟩
                  exact ⟨hbb _ (hbd1.trans (hb.mono (by simp))), fun _ => by simpa [Act.put, Array.getD_eq_getD_getElem?, hsz] using ho, fun h => absurd h (by omega), fun h => absurd h (by omega)⟩
                | 1, hj =>
                  obtain rfl : 14 = j := Option.some.inj hj
                  obtain rfl := Option.some.inj ho
                  clear hj ho
                  have hP := h1 (by omega)
                  have e46 : a.eval (.tmp 46) = .slice (if capr = j then (some od) else (some od).map (·.add (j * 7))) (k - j) (capr - j) := hfr 46 13 rfl rfl (by kernel_rfl)
                  clear h0 h1 hfr hou
                  obtain ⟨hb, ho, -, -⟩ := hP
                  refine late_appS (s := .tmp 43) (x := .tmp 46) (n := j + 1) (m := k - j) (l := d.take j ++ [x]) (k := d.drop j) (ho rfl) ⟨_, _, e46, drop_lies HDL.out hcr (HLD1.out.below hb)⟩ (by rw [List.length_drop, HDL.out]) (by omega) hb.size rfl fun v w' ho2 hbb => ⟨v, rfl, ?_⟩
                  have ejk : j + 1 + (k - j) = k + 1 := by omega
                  rw [ejk] at ho2
                  exact ⟨hbb _ hb, fun h => absurd h (by omega), fun _ => by simpa [Act.put, Array.getD_eq_getD_getElem?, hsz] using ho2, fun h => absurd h (by omega)⟩
                | 2, hj =>
                  obtain rfl : 15 = j := Option.some.inj hj
                  obtain rfl := Option.some.inj ho
                  clear hj ho
                  have hP := h1 (by omega)
                  clear h0 h1 hfr hou
                  obtain ⟨hb, -, ho, -⟩ := hP
                  refine late_assign rfl rfl ⟨_, rfl, ?_⟩
                  exact ⟨hb, fun h => absurd h (by omega), fun _ => by simpa [Act.put, Array.getD_eq_getD_getElem?, hsz] using ho (by omega), fun _ => by simp [Act.put, Act.eval, Array.getD_eq_getD_getElem?, hsz]⟩
                | q + 3, hj => cases hj
              case fin =>
                intro a w2 ha hP
                obtain ⟨d2, -, ho2, he2⟩ := hP
                have e4 : a.tmps.getD 4 undef = a.tmps.getD 47 undef := by simpa using he2 rfl
                have hr2 : w2.ownsRow w1.heap.size 45 7 (a.tmps.getD 47 undef) (k + 1) (flat (d.take j ++ [x] ++ d.drop j)) := ho2 (by decide)
                clear he2 ho2
                obtain ⟨v47, e47⟩ : ∃ v, a.tmps.getD 47 undef = v := ⟨_, rfl⟩
                rw [e47] at e4 hr2
                simp only [List.foldl_cons, List.foldl_nil, e4, e47] at ha
                clear e4 e47
                generalize a.tmps.getD 33 undef = v33 at ha
                generalize a.tmps.getD 34 undef = v34 at ha
                generalize a.tmps.getD 35 undef = v35 at ha
                generalize a.tmps.getD 36 undef = v36 at ha
                generalize a.tmps.getD 37 undef = v37 at ha
                generalize a.tmps.getD 38 undef = v38 at ha
                generalize a.tmps.getD 39 undef = v39 at ha
                generalize a.tmps.getD 40 undef = v40 at ha
                generalize a.tmps.getD 41 undef = v41 at ha
                generalize a.tmps.getD 42 undef = v42 at ha
                generalize a.tmps.getD 43 undef = v43 at ha
                generalize a.tmps.getD 44 undef = v44 at ha
                generalize a.tmps.getD 45 undef = v45 at ha
                generalize a.tmps.getD 46 undef = v46 at ha
                simp only [Act.put, List.setIfInBounds_toArray, List.set_cons_succ, List.set_cons_zero] at ha
                subst ha
                obtain ⟨hp3, hs3⟩ := HNX.out j hj HALL.out HEX.out
                have HP3 := Lib.hid hp3
                have HS3 := Lib.hid hs3
                have hl3 : (d.take j ++ [x] ++ d.drop j).length = k + 1 := by simp [HDL.out]; omega
                clear hp3 hs3 HNX
                obtain ⟨d3, hd3⟩ : ∃ d3, d.take j ++ [x] ++ d.drop j = d3 := ⟨_, rfl⟩
                rw [hd3] at HP3 HS3 hl3 hr2
                clear hd3
                rw [← hl3] at hr2
                obtain ⟨A7, cap7, rfl, hl7, hm7, hL7, hf7⟩ := GivesO.own hr2; have HF7 := Lib.hid (show ∀ ad, A7 = some ad → w.heap.size ≤ ad.block from fun ad e => Nat.le_trans c1.size (hf7 ad e)); clear hf7
                rw [hl3] at hl7 ⊢
                have HL7 := Lib.hid hL7
                have HL3 := Lib.hid hl3
                have c2 := c1.trans (d2.mono c1.size)
                clear hr2 hL7 hl3
                go_wp2
                go_roundw
                case rel => exact ⟨k + 1, cap7, A7, d3, by go_num, by omega, rfl, HL3.out, hl7, hm7, HL7.out, HP3.out, HS3.out, c2, HF7.out⟩
                case measure => simp [intOf]; omega
            · have HY2 := Lib.hid (HYES.out (by trivial))
              go_wp2
              go_roundw
              case rel => exact ⟨j + 1, by go_num, by omega, HY2.out, hbi.trans (dV.mono hbi.size)⟩
              case measure => simp [intOf]; omega
        · have LSS := Lib.hid (fun (W : World) => lss_int W (j : Int) (k : Int) false (by simp; omega))
          have HEX := Lib.hid (show ∀ h : j < d.length, Plain.lt d[j] x = false from fun h => by have := HDL.out; omega)
          go_wp2
          refine wp_softS (by kernel_rfl) 52 [(16, [6]), (17, [4]), (18, [17]), (19, [16, 18]), (20, [19]), (21, [4, 20]), (22, [6, 20]), (23, [21, 22, 20]), (24, [23, 20]), (25, [0, 20]), (26, [5, 20]), (27, [25, 26, 20]), (28, [27, 20]), (29, [24, 28, 20]), (30, [20, 29])]
            [Fact.is (.int .i64 (j : Int)), Fact.is (.slice Ar k capr), Fact.is (.int .i64 k), Fact.is (.bool false), Fact.is (.bool false), Fact.is (undef), Fact.is (undef), Fact.is (undef), Fact.is (undef), Fact.is (undef), Fact.is (undef), Fact.is (undef), Fact.is (undef), Fact.is (undef), Fact.is (.bool false)]
            (by kernel_rfl) rfl rfl ⟨?s0, ?s1, ?s2, ?s3, ?s4, ?s5, ?s6, ?s7, ?s8, ?s9, ?s10, ?s11, ?s12, ?s13, ?s14, trivial⟩ ?fin
          case s0 =>
            intro ρ W hb hc hf hr
            obtain ⟨r6, -⟩ := hr
            have e6 : ρ (.tmp 6) = .int .i64 (j : Int) := r6
            clear r6
            refine under_none rfl ?_
            exact ⟨e6, Below.refl _ _⟩
          case s1 =>
            intro ρ W hb hc hf hr
            obtain ⟨r4, -⟩ := hr
            have e4 : ρ (.tmp 4) = .slice Ar k capr := r4
            clear r4
            refine under_none rfl ?_
            exact ⟨e4, Below.refl _ _⟩
          case s2 =>
            intro ρ W hb hc hf hr
            obtain ⟨r17, -⟩ := hr
            have e17 : ρ (.tmp 17) = .slice Ar k capr := r17
            clear r17
            refine under_none rfl ?_
            simp [e17, go_sem, softUpon, Fact.is, Below.refl]
          case s3 =>
            intro ρ W hb hc hf hr
            obtain ⟨r16, r18, -⟩ := hr
            have e16 : ρ (.tmp 16) = .int .i64 (j : Int) := r16
            clear r16
            have e18 : ρ (.tmp 18) = .int .i64 k := r18
            clear r18
            refine under_none rfl ?_
            exact soft_bin e16 e18 rfl rfl (LSS.out W)
          case s4 =>
            intro ρ W hb hc hf hr
            obtain ⟨r19, -⟩ := hr
            have e19 : ρ (.tmp 19) = .bool false := r19
            clear r19
            refine under_none rfl ?_
            exact ⟨e19, Below.refl _ _⟩
          case s5 =>
            intro ρ W hb hc hf hr
            obtain ⟨r4, r20, -⟩ := hr
            have e4 : ρ (.tmp 4) = .slice Ar k capr := r4
            clear r4
            have e20 : ρ (.tmp 20) = .bool false := r20
            clear r20
            exact ⟨20, rfl, .inr (.inl ⟨e20, rfl⟩)⟩
          case s6 =>
            intro ρ W hb hc hf hr
            obtain ⟨r6, r20, -⟩ := hr
            have e6 : ρ (.tmp 6) = .int .i64 (j : Int) := r6
            clear r6
            have e20 : ρ (.tmp 20) = .bool false := r20
            clear r20
            exact ⟨20, rfl, .inr (.inl ⟨e20, rfl⟩)⟩
          case s7 =>
            intro ρ W hb hc hf hr
            obtain ⟨r21, r22, r20, -⟩ := hr
            have e21 : ρ (.tmp 21) = undef := r21
            clear r21
            have e22 : ρ (.tmp 22) = undef := r22
            clear r22
            have e20 : ρ (.tmp 20) = .bool false := r20
            clear r20
            exact ⟨20, rfl, .inr (.inl ⟨e20, rfl⟩)⟩
          case s8 =>
            intro ρ W hb hc hf hr
            obtain ⟨r23, r20, -⟩ := hr
            have e23 : ρ (.tmp 23) = undef := r23
            clear r23
            have e20 : ρ (.tmp 20) = .bool false := r20
            clear r20
            exact ⟨20, rfl, .inr (.inl ⟨e20, rfl⟩)⟩
          case s9 =>
            intro ρ W hb hc hf hr
            obtain ⟨r0, r20, -⟩ := hr
            have e0 : ρ (.tmp 0) = .slice (some ad) n cap := r0
            clear r0
            have e20 : ρ (.tmp 20) = .bool false := r20
            clear r20
            exact ⟨20, rfl, .inr (.inl ⟨e20, rfl⟩)⟩
          case s10 =>
            intro ρ W hb hc hf hr
            obtain ⟨r5, r20, -⟩ := hr
            have e5 : ρ (.tmp 5) = .int .i64 (k : Int) := r5
            clear r5
            have e20 : ρ (.tmp 20) = .bool false := r20
            clear r20
            exact ⟨20, rfl, .inr (.inl ⟨e20, rfl⟩)⟩
          case s11 =>
            intro ρ W hb hc hf hr
            obtain ⟨r25, r26, r20, -⟩ := hr
            have e25 : ρ (.tmp 25) = undef := r25
            clear r25
            have e26 : ρ (.tmp 26) = undef := r26
            clear r26
            have e20 : ρ (.tmp 20) = .bool false := r20
            clear r20
            exact ⟨20, rfl, .inr (.inl ⟨e20, rfl⟩)⟩
          case s12 =>
            intro ρ W hb hc hf hr
            obtain ⟨r27, r20, -⟩ := hr
            have e27 : ρ (.tmp 27) = undef := r27
            clear r27
            have e20 : ρ (.tmp 20) = .bool false := r20
            clear r20
            exact ⟨20, rfl, .inr (.inl ⟨e20, rfl⟩)⟩
          case s13 =>
            intro ρ W hb hc hf hr
            obtain ⟨r24, r28, r20, -⟩ := hr
            have e24 : ρ (.tmp 24) = undef := r24
            clear r24
            have e28 : ρ (.tmp 28) = undef := r28
            clear r28
            have e20 : ρ (.tmp 20) = .bool false := r20
            clear r20
            exact ⟨20, rfl, .inr (.inl ⟨e20, rfl⟩)⟩
          case s14 =>
            intro ρ W hb hc hf hr
            obtain ⟨r20, r29, -⟩ := hr
            have e20 : ρ (.tmp 20) = .bool false := r20
            clear r20
            have e29 : ρ (.tmp 29) = undef := r29
            clear r29
            refine under_none rfl ?_
            simp [execOp, e20, hc, go_sem, softUpon, Fact.is, Below.refl]
          case fin =>
            intro a w1 hb hd hsz hk
            have ea := act_puts hd hsz rfl hk
            have k16 : a.tmps.getD 16 undef = .int .i64 (j : Int) := hk 16
            have k17 : a.tmps.getD 17 undef = .slice Ar k capr := hk 17
            have k18 : a.tmps.getD 18 undef = .int .i64 k := hk 18
            have k19 : a.tmps.getD 19 undef = .bool false := hk 19
            have k20 : a.tmps.getD 20 undef = .bool false := hk 20
            have k21 : a.tmps.getD 21 undef = undef := hk 21
            have k22 : a.tmps.getD 22 undef = undef := hk 22
            have k23 : a.tmps.getD 23 undef = undef := hk 23
            have k24 : a.tmps.getD 24 undef = undef := hk 24
            have k25 : a.tmps.getD 25 undef = undef := hk 25
            have k26 : a.tmps.getD 26 undef = undef := hk 26
            have k27 : a.tmps.getD 27 undef = undef := hk 27
            have k28 : a.tmps.getD 28 undef = undef := hk 28
            have k29 : a.tmps.getD 29 undef = undef := hk 29
            have k30 : a.tmps.getD 30 undef = .bool false := hk 30
            clear hk hd hsz
            simp only [List.map_cons, List.map_nil, List.foldl_cons, List.foldl_nil, k16, k17, k18, k19, k20, k21, k22, k23, k24, k25, k26, k27, k28, k29, k30] at ea
            clear k16 k17 k18 k19 k20 k21 k22 k23 k24 k25 k26 k27 k28 k29 k30
            simp only [Act.put, List.setIfInBounds_toArray, List.set_cons_succ, List.set_cons_zero] at ea
            subst ea
            have dV := hbd.trans (hb.mono (by simp))
            clear hb hk
            have hbd1 : Below w1.heap.size w1 w1.drew := (Below.refl _ _).drew
            have c1 := cr.trans (dV.mono cr.size)
            have HLD1 := Lib.hid (HLD2.out.below dV)
            have LX1 := Lib.hid (fun (W : World) (h : Below w1.heap.size w1 W) => LX.out W (dV.trans (h.mono dV.size)))
            go_wp2
            refine wp_late (by kernel_rfl) 52 [(33, []), (34, [4]), (35, [6]), (36, [34, 35]), (37, [33, 36]), (38, [0]), (39, [5]), (40, [38, 39]), (41, [40]), (42, [41]), (1010, [37, 42]), (44, [4]), (45, [6]), (46, [44, 45]), (1014, [43, 46]), (1015, [47])]
              [Fact.fresh w1.heap.size 45, Fact.is (.slice Ar k capr), Fact.is (.int .i64 (j : Int)), Fact.lie j (flat (d.take j)), Fact.row w1.heap.size 45 7 j (flat (d.take j)), Fact.is (.slice (some ad) n cap), Fact.is (.int .i64 (k : Int)), Fact.is (.pointer (some (Addr.add ad (k * 7)))), Fact.is (.agg #[.int .i64 x.t, .int .i64 x.i, .int .i64 x.p, .int .i64 x.s, .int .i64 x.d, .string (str x.sv), .string (str x.nm)]), Fact.lie 1 (flat [x]), default, Fact.is (.slice Ar k capr), Fact.is (.int .i64 (j : Int)), Fact.is (.slice (if capr = j then Ar else Ar.map (·.add (j * 7))) (k - j) (capr - j)), default, default]
              [1, 1, 1, 1, 1, 1, 1, 1, 1, 1, 2, 0, 0, 0, 2, 2] [10, 14, 15] [43, 47, 4] [33, 34, 35, 36, 37, 38, 39, 40, 41, 42, 43, 44, 45, 46, 47, 4] (Three w1.heap.size j k d x w1)
              (by kernel_rfl) (by kernel_rfl) rfl rfl ⟨?s0, ?s1, ?s2, ?s3, ?s4, ?s5, ?s6, ?s7, ?s8, ?s9, ?s11, ?s12, ?s13, trivial⟩ ?late ?fin
            case s0 =>
              intro ρ W hb hc hf hr
              clear hr
              refine under_none rfl ?_
              exact soft_freshS (hbd1.trans (hb.mono (by simp))).size rfl
            case s1 =>
              intro ρ W hb hc hf hr
              obtain ⟨r4, -⟩ := hr
              have e4 : ρ (.tmp 4) = .slice Ar k capr := r4
              clear r4
              refine under_none rfl ?_
              exact ⟨e4, Below.refl _ _⟩
            case s2 =>
              intro ρ W hb hc hf hr
              obtain ⟨r6, -⟩ := hr
              have e6 : ρ (.tmp 6) = .int .i64 (j : Int) := r6
              clear r6
              refine under_none rfl ?_
              exact ⟨e6, Below.refl _ _⟩
            case s3 =>
              intro ρ W hb hc hf hr
              obtain ⟨r34, r35, -⟩ := hr
              have e34 : ρ (.tmp 34) = .slice Ar k capr := r34
              clear r34
              have e35 : ρ (.tmp 35) = .int .i64 (j : Int) := r35
              clear r35
              refine under_none rfl ?_
              exact soft_takeL e34 e35 HDL.out hj hcr hmr (HLD1.out.below (hbd1.trans (hb.mono (by simp)))) rfl
            case s4 =>
              intro ρ W hb hc hf hr
              obtain ⟨r33, r36, -⟩ := hr
              refine under_none rfl ?_
              exact soft_app0L r33 r36 (by rw [List.length_take, HDL.out]; omega) (by omega) rfl
            case s5 =>
              intro ρ W hb hc hf hr
              obtain ⟨r0, -⟩ := hr
              have e0 : ρ (.tmp 0) = .slice (some ad) n cap := r0
              clear r0
              refine under_none rfl ?_
              exact ⟨e0, Below.refl _ _⟩
            case s6 =>
              intro ρ W hb hc hf hr
              obtain ⟨r5, -⟩ := hr
              have e5 : ρ (.tmp 5) = .int .i64 (k : Int) := r5
              clear r5
              refine under_none rfl ?_
              exact ⟨e5, Below.refl _ _⟩
            case s7 =>
              intro ρ W hb hc hf hr
              obtain ⟨r38, r39, -⟩ := hr
              have e38 : ρ (.tmp 38) = .slice (some ad) n cap := r38
              clear r38
              have e39 : ρ (.tmp 39) = .int .i64 (k : Int) := r39
              clear r39
              refine under_none rfl ?_
              exact soft_index7 e38 e39 (by omega) rfl
            case s8 =>
              intro ρ W hb hc hf hr
              obtain ⟨r40, -⟩ := hr
              have e40 : ρ (.tmp 40) = .pointer (some (Addr.add ad (k * 7))) := r40
              clear r40
              refine under_none rfl ?_
              exact soft_load e40 (LX1.out W (hbd1.trans (hb.mono (by simp)))) rfl
            case s9 =>
              intro ρ W hb hc hf hr
              obtain ⟨r41, -⟩ := hr
              have e41 : ρ (.tmp 41) = .agg #[.int .i64 x.t, .int .i64 x.i, .int .i64 x.p, .int .i64 x.s, .int .i64 x.d, .string (str x.sv), .string (str x.nm)] := r41
              clear r41
              refine under_none rfl ?_
              exact soft_oneS e41 rfl
            case s11 =>
              refine ⟨rfl, _, rfl, ?_⟩
              intro ρ W hc hf hr
              obtain ⟨r4, -⟩ := hr
              have e4 : ρ (.tmp 4) = .slice Ar k capr := r4
              clear r4
              simp [execOp, e4]
            case s12 =>
              refine ⟨rfl, _, rfl, ?_⟩
              intro ρ W hc hf hr
              obtain ⟨r6, -⟩ := hr
              have e6 : ρ (.tmp 6) = .int .i64 (j : Int) := r6
              clear r6
              simp [execOp, e6]
            case s13 =>
              refine ⟨rfl, _, rfl, ?_⟩
              intro ρ W hc hf hr
              obtain ⟨r44, r45, -⟩ := hr
              have e44 : ρ (.tmp 44) = .slice Ar k capr := r44
              clear r44
              have e45 : ρ (.tmp 45) = .int .i64 (j : Int) := r45
              clear r45
              exact run_dropL e44 e45 hj hcr hmr hAr rfl
            case late =>
              intro p j o hj ho a W hsz h0 h1 hfr hou
              match p, hj with
              | 0, hj =>
                obtain rfl : 10 = j := Option.some.inj hj
                obtain rfl := Option.some.inj ho
                clear hj ho
                obtain ⟨hb, hhard⟩ := h0 rfl
                have r37 : (Fact.row w1.heap.size 45 7 j (flat (d.take j))).φ (a.tmps.getD 37 undef) W := hhard 37 4 rfl rfl
                have r42 : (Fact.lie 1 (flat [x])).φ (a.tmps.getD 42 undef) W := hhard 42 9 rfl rfl
                clear h0 h1 hhard hfr hou
                refine late_appS (s := .tmp 37) (x := .tmp 42) (n := j) (m := 1) (l := d.take j) (k := [x]) r37 r42 rfl (by omega) (hbd1.trans (hb.mono (by simp))).size rfl fun v w' ho hbb => ⟨v, rfl, ?_⟩
                exact ⟨hbb _ (hbd1.trans (hb.mono (by simp))), fun _ => by simpa [Act.put, Array.getD_eq_getD_getElem?, hsz] using ho, fun h => absurd h (by omega), fun h => absurd h (by omega)⟩
              | 1, hj =>
                obtain rfl : 14 = j := Option.some.inj hj
                obtain rfl := Option.some.inj ho
                clear hj ho
                have hP := h1 (by omega)
                have e46 : a.eval (.tmp 46) = .slice (if capr = j then Ar else Ar.map (·.add (j * 7))) (k - j) (capr - j) := hfr 46 13 rfl rfl (by kernel_rfl)
                clear h0 h1 hfr hou
                obtain ⟨hb, ho, -, -⟩ := hP
                refine late_appS (s := .tmp 43) (x := .tmp 46) (n := j + 1) (m := k - j) (l := d.take j ++ [x]) (k := d.drop j) (ho rfl) ⟨_, _, e46, drop_lies HDL.out hcr (HLD1.out.below hb)⟩ (by rw [List.length_drop, HDL.out]) (by omega) hb.size rfl fun v w' ho2 hbb => ⟨v, rfl, ?_⟩
                have ejk : j + 1 + (k - j) = k + 1 := by omega
                rw [ejk] at ho2
                exact ⟨hbb _ hb, fun h => absurd h (by omega), fun _ => by simpa [Act.put, Array.getD_eq_getD_getElem?, hsz] using ho2, fun h => absurd h (by omega)⟩
              | 2, hj =>
                obtain rfl : 15 = j := Option.some.inj hj
                obtain rfl := Option.some.inj ho
                clear hj ho
                have hP := h1 (by omega)
                clear h0 h1 hfr hou
                obtain ⟨hb, -, ho, -⟩ := hP
                refine late_assign rfl rfl ⟨_, rfl, ?_⟩
                exact ⟨hb, fun h => absurd h (by omega), fun _ => by simpa [Act.put, Array.getD_eq_getD_getElem?, hsz] using ho (by omega), fun _ => by simp [Act.put, Act.eval, Array.getD_eq_getD_getElem?, hsz]⟩
              | q + 3, hj => cases hj
            case fin =>
              intro a w2 ha hP
              obtain ⟨d2, -, ho2, he2⟩ := hP
              have e4 : a.tmps.getD 4 undef = a.tmps.getD 47 undef := by simpa using he2 rfl
              have hr2 : w2.ownsRow w1.heap.size 45 7 (a.tmps.getD 47 undef) (k + 1) (flat (d.take j ++ [x] ++ d.drop j)) := ho2 (by decide)
              clear he2 ho2
              obtain ⟨v47, e47⟩ : ∃ v, a.tmps.getD 47 undef = v := ⟨_, rfl⟩
              rw [e47] at e4 hr2
              simp only [List.foldl_cons, List.foldl_nil, e4, e47] at ha
              clear e4 e47
              generalize a.tmps.getD 33 undef = v33 at ha
              generalize a.tmps.getD 34 undef = v34 at ha
              generalize a.tmps.getD 35 undef = v35 at ha
              generalize a.tmps.getD 36 undef = v36 at ha
              generalize a.tmps.getD 37 undef = v37 at ha
              generalize a.tmps.getD 38 undef = v38 at ha
              generalize a.tmps.getD 39 undef = v39 at ha
              generalize a.tmps.getD 40 undef = v40 at ha
              generalize a.tmps.getD 41 undef = v41 at ha
              generalize a.tmps.getD 42 undef = v42 at ha
              generalize a.tmps.getD 43 undef = v43 at ha
              generalize a.tmps.getD 44 undef = v44 at ha
              generalize a.tmps.getD 45 undef = v45 at ha
              generalize a.tmps.getD 46 undef = v46 at ha
              simp only [Act.put, List.setIfInBounds_toArray, List.set_cons_succ, List.set_cons_zero] at ha
              subst ha
              obtain ⟨hp3, hs3⟩ := HNX.out j hj HALL.out HEX.out
              have HP3 := Lib.hid hp3
              have HS3 := Lib.hid hs3
              have hl3 : (d.take j ++ [x] ++ d.drop j).length = k + 1 := by simp [HDL.out]; omega
              clear hp3 hs3 HNX
              obtain ⟨d3, hd3⟩ : ∃ d3, d.take j ++ [x] ++ d.drop j = d3 := ⟨_, rfl⟩
              rw [hd3] at HP3 HS3 hl3 hr2
              clear hd3
              rw [← hl3] at hr2
              obtain ⟨A7, cap7, rfl, hl7, hm7, hL7, hf7⟩ := GivesO.own hr2; have HF7 := Lib.hid (show ∀ ad, A7 = some ad → w.heap.size ≤ ad.block from fun ad e => Nat.le_trans c1.size (hf7 ad e)); clear hf7
              rw [hl3] at hl7 ⊢
              have HL7 := Lib.hid hL7
              have HL3 := Lib.hid hl3
              have c2 := c1.trans (d2.mono c1.size)
              clear hr2 hL7 hl3
              go_wp2
              go_roundw
              case rel => exact ⟨k + 1, cap7, A7, d3, by go_num, by omega, rfl, HL3.out, hl7, hm7, HL7.out, HP3.out, HS3.out, c2, HF7.out⟩
              case measure => simp [intOf]; omega
    · obtain rfl : k = n := by omega
      have hpl : d.Perm l := by
        have := HPR.out
        rwa [List.take_of_length_le (by rw [HN.out]; omega)] at this
      have hfd : Fine d := fun y hy => HS.out y (hpl.mem_iff.1 hy)
      obtain ⟨hR, hT⟩ := HO.out d hpl HSR.out
      have HTR := Lib.hid (rtright_any Ar k capr d wr HDL.out HLD.out hfd)
      rw [hR] at HTR hT
      have HDT := Lib.hid hT
      clear hR hT hpl hfd
      go_wp2_with fail
      refine HTR.out.mono ?_
      rintro e w3 ⟨rfl, d3⟩
      have c3 := hbr.trans (d3.mono hbr.size)
      rcases R with _ | _
      · have hT := HNO.out (by trivial)
        go_wp2
        go_returns
        rw [hT]
        exact ⟨.slice none 0 0, rfl, GivesO.nil c3⟩
      · have hT := HDT.out (by trivial)
        go_wp2
        go_returns
        rw [← hT]
        exact ⟨.slice Ar k capr, rfl, Ar, capr, by rw [HDL.out], by rw [HDL.out]; exact hcr, HM.out, HLD.out.below d3, c3, HFR.out⟩
end Go.Proofs.Ythcchfhkeghkhaa
