/-
  P3.1, SpanBounds: for every span the law returns true: a span ends no sooner than it begins, and not above the greatest number; a text too long, or a number too large, is not right. No condition; what the row lists is tied to the program's text.
-/
import Derived.Test.YtiipcnldedjkdaaDoorSpanO
namespace Go.Proofs.YtiipcnldedjkdaaDoor.spanBounds
open Go.ChangeShapes Go.WideShapes Go.ChangeAt Go.RowKit
set_option maxRecDepth 100000

/-- the 33 letters that the law puts behind a name -/
def more : ByteArray := ⟨#[48, 49, 50, 51, 52, 53, 54, 55, 56, 57, 48, 49, 50, 51, 52, 53, 54, 55, 56, 57, 48, 49, 50, 51, 52, 53, 54, 55, 56, 57, 48, 49, 50]⟩

set_option maxHeartbeats 4000000 in
theorem walk (w : World) (hh : Handle w) (x : Plain.Sp) (hv : x.sv.length ≤ maxLen) (hn : x.nm.length ≤ maxLen) :
    Calls Tryd.prog 7 #[.agg #[.int .i64 x.t, .int .i64 x.i, .int .i64 x.p, .int .i64 x.s, .int .i64 x.d, .string (str x.sv), .string (str x.nm)]] w fun e w' => e = .returned (.bool true) ∧ Below w.heap.size w w' := by
  rw [← str_size x.sv] at hv
  rw [← str_size x.nm] at hn
  obtain ⟨xt, xi, xp, xs, xd, xv, xn⟩ := x
  simp only at *
  generalize str xv = XV at *
  generalize str xn = XN at *
  have HH := Lib.hid hh
  clear hh
  have bx := Blk.new w #[.int .i64 xt, .int .i64 xi, .int .i64 xp, .int .i64 xs, .int .i64 xd, .string XV, .string XN] 23
  have k0 : Kept [] w (w.alloc (.cells #[.int .i64 xt, .int .i64 xi, .int .i64 xp, .int .i64 xs, .int .i64 xd, .string XV, .string XN] 23)) := (Kept.refl _ _).alloc _
  have HBX := Lib.hid bx
  have HK := Lib.hid k0
  clear bx k0
  go_enter Tryd.func7, Tryd.ntmps7
  go_wp2_with fail
  generalize w.alloc (.cells #[.int .i64 xt, .int .i64 xi, .int .i64 xp, .int .i64 xs, .int .i64 xd, .string XV, .string XN] 23) = V at *
  have CX := Lib.hid (fun (u : World) (h : Below V.heap.size V u) => ((Kept.of h []).blk HBX.out (by simp)).seven)
  have HV := Lib.hid (show ∀ u, Below V.heap.size V u → Below w.heap.size w u from fun u h => HK.out.to.trans (h.mono HK.out.to.size))
  refine (head_any V (HH.out.below HH.out.lt HK.out.to)).mono ?_
  rintro e w1 ⟨rfl, c1⟩
  obtain ⟨x0, x1, x2, x3, x4, x5, x6⟩ := CX.out w1 c1
  go_wp2_with fail
  clear x0 x1 x2 x3 x4 x5 x6
  refine (great_any xt xi xp xs xd XV XN w1 hv hn).mono ?_
  rintro e w2 ⟨⟨g, rfl⟩, d2⟩
  have c2 := c1.trans (d2.mono c1.size)
  obtain ⟨x0, x1, x2, x3, x4, x5, x6⟩ := CX.out w2 c2
  rcases g with _ | _
  · go_wp2_with fail
    clear x0 x1 x2 x3 x4 x5 x6
    refine (right_any xt xi xp xs xd XV XN w2 hv hn).mono ?_
    rintro e w3 ⟨rfl, d3⟩
    have c3 := c2.trans (d3.mono c2.size)
    obtain ⟨R, hR⟩ : ∃ R, Plain.rightN xt xi xp xs xd XV.size XN.size = R := ⟨_, rfl⟩
    rw [hR]
    have HR := Lib.hid hR
    clear hR
    obtain ⟨x0, x1, x2, x3, x4, x5, x6⟩ := CX.out w3 c3
    rcases R with _ | _
    · go_wp2_with fail
      clear x0 x1 x2 x3 x4 x5 x6
      refine (end_any xt xi xp xs xd XV XN w3 false hv hn HR.out).mono ?_
      rintro e w4 ⟨rfl, d4⟩
      have c4 := c3.trans (d4.mono c3.size)
      rw [show endN false xs xd = 0 from rfl]
      go_wp2
      go_ret
      exact ⟨rfl, HV.out _ c4⟩
    · have hb := (Plain.rightN_iff xt xi xp xs xd XV.size XN.size).1 HR.out
      obtain ⟨-, -, -, -, -, -, hs0, hs1, hd0, hd1, hsd, -, -, hnm⟩ := hb
      have fa : ∀ cs : Array Value, ∀ t, Below V.heap.size V (w3.alloc (.cells cs t)) := fun cs t => c3.alloc c3.size _
      have fb : ∀ (cs cs' : Array Value), ∀ t, Below V.heap.size V ((w3.alloc (.cells cs t)).alloc (.cells cs' t)) := fun cs cs' t => (fa cs t).alloc (fa cs t).size _
      have a3 := (CX.out _ (fa #[.int .i64 xt, .int .i64 xi, .int .i64 xp, .int .i64 xs, .int .i64 xd, .string XV, .string XN] 23)).2.2.2.1
      obtain ⟨b0, b1, b2, b3, b4, b5, b6⟩ := CX.out _ (fa #[.int .i64 xt, .int .i64 xi, .int .i64 xp, .int .i64 xs, .int .i64 (281474976710656 - xs + 1), .string XV, .string XN] 23)
      have e6 := (CX.out _ (fb #[.int .i64 xt, .int .i64 xi, .int .i64 xp, .int .i64 xs, .int .i64 (281474976710656 - xs + 1), .string XV, .string XN] #[.int .i64 xt, .int .i64 xi, .int .i64 xp, .int .i64 xs, .int .i64 xd, .string XV, .string XN] 23)).2.2.2.2.2.2
      have FB := Lib.hid fb
      clear fa fb
      go_wp2
      have hU : (XN ++ ⟨#[48, 49, 50, 51, 52, 53, 54, 55, 56, 57, 48, 49, 50, 51, 52, 53, 54, 55, 56, 57, 48, 49, 50, 51, 52, 53, 54, 55, 56, 57, 48, 49, 50]⟩).size = XN.size + 33 := ByteArray.size_append
      clear a3 b0 b1 b2 b3 b4 b5 b6 e6
      generalize XN ++ ⟨#[48, 49, 50, 51, 52, 53, 54, 55, 56, 57, 48, 49, 50, 51, 52, 53, 54, 55, 56, 57, 48, 49, 50, 51, 52, 53, 54, 55, 56, 57, 48, 49, 50]⟩ = XU at *
      have HU := Lib.hid hU
      clear hU
      obtain ⟨k4, bt4, bu4, hs4⟩ := two_new w3 #[.int .i64 xt, .int .i64 xi, .int .i64 xp, .int .i64 xs, .int .i64 (281474976710656 - xs + 1), .string XV, .string XN] #[.int .i64 xt, .int .i64 xi, .int .i64 xp, .int .i64 xs, .int .i64 xd, .string XV, .string XU] 23 23
      have bx4 := (Kept.of (FB.out #[.int .i64 xt, .int .i64 xi, .int .i64 xp, .int .i64 xs, .int .i64 (281474976710656 - xs + 1), .string XV, .string XN] #[.int .i64 xt, .int .i64 xi, .int .i64 xp, .int .i64 xs, .int .i64 xd, .string XV, .string XU] 23) []).blk HBX.out (by simp)
      have c4 := FB.out #[.int .i64 xt, .int .i64 xi, .int .i64 xp, .int .i64 xs, .int .i64 (281474976710656 - xs + 1), .string XV, .string XN] #[.int .i64 xt, .int .i64 xi, .int .i64 xp, .int .i64 xs, .int .i64 xd, .string XV, .string XU] 23
      clear FB k4
      generalize (w3.alloc (.cells #[.int .i64 xt, .int .i64 xi, .int .i64 xp, .int .i64 xs, .int .i64 (281474976710656 - xs + 1), .string XV, .string XN] 23)).alloc (.cells #[.int .i64 xt, .int .i64 xi, .int .i64 xp, .int .i64 xs, .int .i64 xd, .string XV, .string XU] 23) = V4 at *
      generalize w3.heap.size = NT at *
      generalize hNU : NT + 1 = NU at *
      clear hNU
      have hbd : Below V4.heap.size V4 V4.drew := (Below.refl _ _).drew
      have LX := Lib.hid (fun (W : World) (h : Below V4.heap.size V4 W) => load_span ((Kept.of h []).blk bx4 (by simp)))
      have LS := Lib.hid (fun (W : World) (h : Below V4.heap.size V4 W) => load_num (((Kept.of h []).blk bx4 (by simp)).cell 3))
      have LD := Lib.hid (fun (W : World) (h : Below V4.heap.size V4 W) => load_num (((Kept.of h []).blk bx4 (by simp)).cell 4))
      have LT := Lib.hid (fun (W : World) (h : Below V4.heap.size V4 W) => load_span ((Kept.of h []).blk bt4 (by simp)))
      have LU := Lib.hid (fun (W : World) (h : Below V4.heap.size V4 W) => load_span ((Kept.of h []).blk bu4 (by simp)))
      have HE := Lib.hid (fun (W : World) => end_any xt xi xp xs xd XV XN W true hv hn HR.out)
      rw [show endN true xs xd = xs + xd from rfl] at HE
      have hrt : Plain.rightN xt xi xp xs (281474976710656 - xs + 1) XV.size XN.size = false := by
        rw [Bool.eq_false_iff]; intro h; rw [Plain.rightN_iff] at h; omega
      have hru : Plain.rightN xt xi xp xs xd XV.size XU.size = false := by
        rw [Bool.eq_false_iff]; intro h; rw [Plain.rightN_iff, HU.out] at h; omega
      have HRT := Lib.hid (fun (W : World) => right_any xt xi xp xs (281474976710656 - xs + 1) XV XN W hv hn)
      rw [hrt] at HRT
      have HRU := Lib.hid (fun (W : World) => right_any xt xi xp xs xd XV XU W hv (by rw [HU.out]; unfold maxLen; omega))
      rw [hru] at HRU
      have GE := Lib.hid (fun (W : World) => geq_i64 W (xs + xd) xs (by omega))
      have LE := Lib.hid (fun (W : World) => leq_i64 W (xs + xd) 281474976710656 (by omega))
      have SB := Lib.hid (fun (W : World) => sub_i64 W (xs + xd) xs (by omega))
      rw [show xs + xd - xs = xd by omega] at SB
      have EQ := Lib.hid (fun (W : World) => eql_i64 W xd)
      clear hrt hru bx4 bt4 bu4
      generalize hN0 : w.heap.size = N0 at *
      have HN0 := Lib.hid hN0
      clear hN0
      refine wp_softS (by kernel_rfl) 63 [(30, [3]), (31, [30]), (32, [1, 31]), (33, [32, 31]), (34, [1, 31]), (35, [34, 31]), (36, [33, 35, 31]), (37, [31, 36]), (38, [37]), (39, [1, 38]), (40, [39, 38]), (41, [40, 38]), (42, [38, 41]), (43, [42]), (44, [4, 43]), (45, [44, 43]), (46, [45, 43]), (47, [43, 46]), (48, [47]), (49, [5, 48]), (50, [49, 48]), (51, [50, 48]), (52, [48, 51]), (53, [52]), (54, [1, 53]), (55, [54, 53]), (56, [1, 53]), (57, [56, 53]), (58, [55, 57, 53]), (59, [1, 53]), (60, [59, 53]), (61, [58, 60, 53]), (62, [53, 61]), (2, [62])]
        [Fact.is (.bool true), Fact.is (.bool true), Fact.is (.agg #[.int .i64 xt, .int .i64 xi, .int .i64 xp, .int .i64 xs, .int .i64 xd, .string XV, .string XN]), Fact.is (.int .i64 (xs + xd)), Fact.is (.pointer (some ⟨N0, 3, none⟩)), Fact.is (.int .i64 xs), Fact.is (.bool true), Fact.is (.bool true), Fact.is (.bool true), Fact.is (.agg #[.int .i64 xt, .int .i64 xi, .int .i64 xp, .int .i64 xs, .int .i64 xd, .string XV, .string XN]), Fact.is (.int .i64 (xs + xd)), Fact.is (.bool true), Fact.is (.bool true), Fact.is (.bool true), Fact.is (.agg #[.int .i64 xt, .int .i64 xi, .int .i64 xp, .int .i64 xs, .int .i64 (281474976710656 - xs + 1), .string XV, .string XN]), Fact.is (.bool false), Fact.is (.bool true), Fact.is (.bool true), Fact.is (.bool true), Fact.is (.agg #[.int .i64 xt, .int .i64 xi, .int .i64 xp, .int .i64 xs, .int .i64 xd, .string XV, .string XU]), Fact.is (.bool false), Fact.is (.bool true), Fact.is (.bool true), Fact.is (.bool true), Fact.is (.agg #[.int .i64 xt, .int .i64 xi, .int .i64 xp, .int .i64 xs, .int .i64 xd, .string XV, .string XN]), Fact.is (.int .i64 (xs + xd)), Fact.is (.pointer (some ⟨N0, 3, none⟩)), Fact.is (.int .i64 xs), Fact.is (.int .i64 xd), Fact.is (.pointer (some ⟨N0, 4, none⟩)), Fact.is (.int .i64 xd), Fact.is (.bool true), Fact.is (.bool true), Fact.is (.bool true)]
        (by kernel_rfl) rfl rfl ⟨?s0, ?s1, ?s2, ?s3, ?s4, ?s5, ?s6, ?s7, ?s8, ?s9, ?s10, ?s11, ?s12, ?s13, ?s14, ?s15, ?s16, ?s17, ?s18, ?s19, ?s20, ?s21, ?s22, ?s23, ?s24, ?s25, ?s26, ?s27, ?s28, ?s29, ?s30, ?s31, ?s32, ?s33, trivial⟩ ?fin
      case s0 =>
        intro ρ W hb hc hf hr
        obtain ⟨r3, -⟩ := hr
        have e3 : ρ (.tmp 3) = .bool true := r3
        clear r3
        refine under_none rfl ?_
        exact ⟨e3, Below.refl _ _⟩
      case s1 =>
        intro ρ W hb hc hf hr
        obtain ⟨r30, -⟩ := hr
        have e30 : ρ (.tmp 30) = .bool true := r30
        clear r30
        refine under_none rfl ?_
        exact ⟨e30, Below.refl _ _⟩
      case s2 =>
        intro ρ W hb hc hf hr
        obtain ⟨r1, r31, -⟩ := hr
        have e1 : ρ (.tmp 1) = .pointer (some ⟨N0, 0, none⟩) := r1
        clear r1
        have e31 : ρ (.tmp 31) = .bool true := r31
        clear r31
        refine ⟨31, rfl, .inl ⟨e31, ?_⟩⟩
        exact soft_load e1 (LX.out W (hbd.trans (hb.mono (by simp)))) rfl
      case s3 =>
        intro ρ W hb hc hf hr
        obtain ⟨r32, r31, -⟩ := hr
        have e32 : ρ (.tmp 32) = .agg #[.int .i64 xt, .int .i64 xi, .int .i64 xp, .int .i64 xs, .int .i64 xd, .string XV, .string XN] := r32
        clear r32
        have e31 : ρ (.tmp 31) = .bool true := r31
        clear r31
        refine ⟨31, rfl, .inl ⟨e31, ?_⟩⟩
        exact soft_call1 hf e32 (HE.out W) rfl (by kernel_rfl) below_is
      case s4 =>
        intro ρ W hb hc hf hr
        obtain ⟨r1, r31, -⟩ := hr
        have e1 : ρ (.tmp 1) = .pointer (some ⟨N0, 0, none⟩) := r1
        clear r1
        have e31 : ρ (.tmp 31) = .bool true := r31
        clear r31
        refine ⟨31, rfl, .inl ⟨e31, ?_⟩⟩
        simp [execOp, e1, go_sem, softUpon, Fact.is, Below.refl]
      case s5 =>
        intro ρ W hb hc hf hr
        obtain ⟨r34, r31, -⟩ := hr
        have e34 : ρ (.tmp 34) = .pointer (some ⟨N0, 3, none⟩) := r34
        clear r34
        have e31 : ρ (.tmp 31) = .bool true := r31
        clear r31
        refine ⟨31, rfl, .inl ⟨e31, ?_⟩⟩
        exact soft_load e34 (LS.out W (hbd.trans (hb.mono (by simp)))) rfl
      case s6 =>
        intro ρ W hb hc hf hr
        obtain ⟨r33, r35, r31, -⟩ := hr
        have e33 : ρ (.tmp 33) = .int .i64 (xs + xd) := r33
        clear r33
        have e35 : ρ (.tmp 35) = .int .i64 xs := r35
        clear r35
        have e31 : ρ (.tmp 31) = .bool true := r31
        clear r31
        refine ⟨31, rfl, .inl ⟨e31, ?_⟩⟩
        exact soft_bin e33 e35 rfl rfl (GE.out W)
      case s7 =>
        intro ρ W hb hc hf hr
        obtain ⟨r31, r36, -⟩ := hr
        have e31 : ρ (.tmp 31) = .bool true := r31
        clear r31
        have e36 : ρ (.tmp 36) = .bool true := r36
        clear r36
        refine under_none rfl ?_
        simp [execOp, e31, e36, hc, go_sem, softUpon, Fact.is, Below.refl]
      case s8 =>
        intro ρ W hb hc hf hr
        obtain ⟨r37, -⟩ := hr
        have e37 : ρ (.tmp 37) = .bool true := r37
        clear r37
        refine under_none rfl ?_
        exact ⟨e37, Below.refl _ _⟩
      case s9 =>
        intro ρ W hb hc hf hr
        obtain ⟨r1, r38, -⟩ := hr
        have e1 : ρ (.tmp 1) = .pointer (some ⟨N0, 0, none⟩) := r1
        clear r1
        have e38 : ρ (.tmp 38) = .bool true := r38
        clear r38
        refine ⟨38, rfl, .inl ⟨e38, ?_⟩⟩
        exact soft_load e1 (LX.out W (hbd.trans (hb.mono (by simp)))) rfl
      case s10 =>
        intro ρ W hb hc hf hr
        obtain ⟨r39, r38, -⟩ := hr
        have e39 : ρ (.tmp 39) = .agg #[.int .i64 xt, .int .i64 xi, .int .i64 xp, .int .i64 xs, .int .i64 xd, .string XV, .string XN] := r39
        clear r39
        have e38 : ρ (.tmp 38) = .bool true := r38
        clear r38
        refine ⟨38, rfl, .inl ⟨e38, ?_⟩⟩
        exact soft_call1 hf e39 (HE.out W) rfl (by kernel_rfl) below_is
      case s11 =>
        intro ρ W hb hc hf hr
        obtain ⟨r40, r38, -⟩ := hr
        have e40 : ρ (.tmp 40) = .int .i64 (xs + xd) := r40
        clear r40
        have e38 : ρ (.tmp 38) = .bool true := r38
        clear r38
        refine ⟨38, rfl, .inl ⟨e38, ?_⟩⟩
        exact soft_bin e40 (hc _) rfl rfl (LE.out W)
      case s12 =>
        intro ρ W hb hc hf hr
        obtain ⟨r38, r41, -⟩ := hr
        have e38 : ρ (.tmp 38) = .bool true := r38
        clear r38
        have e41 : ρ (.tmp 41) = .bool true := r41
        clear r41
        refine under_none rfl ?_
        simp [execOp, e38, e41, hc, go_sem, softUpon, Fact.is, Below.refl]
      case s13 =>
        intro ρ W hb hc hf hr
        obtain ⟨r42, -⟩ := hr
        have e42 : ρ (.tmp 42) = .bool true := r42
        clear r42
        refine under_none rfl ?_
        exact ⟨e42, Below.refl _ _⟩
      case s14 =>
        intro ρ W hb hc hf hr
        obtain ⟨r4, r43, -⟩ := hr
        have e4 : ρ (.tmp 4) = .pointer (some ⟨NT, 0, none⟩) := r4
        clear r4
        have e43 : ρ (.tmp 43) = .bool true := r43
        clear r43
        refine ⟨43, rfl, .inl ⟨e43, ?_⟩⟩
        exact soft_load e4 (LT.out W (hbd.trans (hb.mono (by simp)))) rfl
      case s15 =>
        intro ρ W hb hc hf hr
        obtain ⟨r44, r43, -⟩ := hr
        have e44 : ρ (.tmp 44) = .agg #[.int .i64 xt, .int .i64 xi, .int .i64 xp, .int .i64 xs, .int .i64 (281474976710656 - xs + 1), .string XV, .string XN] := r44
        clear r44
        have e43 : ρ (.tmp 43) = .bool true := r43
        clear r43
        refine ⟨43, rfl, .inl ⟨e43, ?_⟩⟩
        exact soft_call1 hf e44 (HRT.out W) rfl (by kernel_rfl) below_is
      case s16 =>
        intro ρ W hb hc hf hr
        obtain ⟨r45, r43, -⟩ := hr
        have e45 : ρ (.tmp 45) = .bool false := r45
        clear r45
        have e43 : ρ (.tmp 43) = .bool true := r43
        clear r43
        refine ⟨43, rfl, .inl ⟨e43, ?_⟩⟩
        simp [execOp, e45, go_sem, softUpon, Fact.is, Below.refl]
      case s17 =>
        intro ρ W hb hc hf hr
        obtain ⟨r43, r46, -⟩ := hr
        have e43 : ρ (.tmp 43) = .bool true := r43
        clear r43
        have e46 : ρ (.tmp 46) = .bool true := r46
        clear r46
        refine under_none rfl ?_
        simp [execOp, e43, e46, hc, go_sem, softUpon, Fact.is, Below.refl]
      case s18 =>
        intro ρ W hb hc hf hr
        obtain ⟨r47, -⟩ := hr
        have e47 : ρ (.tmp 47) = .bool true := r47
        clear r47
        refine under_none rfl ?_
        exact ⟨e47, Below.refl _ _⟩
      case s19 =>
        intro ρ W hb hc hf hr
        obtain ⟨r5, r48, -⟩ := hr
        have e5 : ρ (.tmp 5) = .pointer (some ⟨NU, 0, none⟩) := r5
        clear r5
        have e48 : ρ (.tmp 48) = .bool true := r48
        clear r48
        refine ⟨48, rfl, .inl ⟨e48, ?_⟩⟩
        exact soft_load e5 (LU.out W (hbd.trans (hb.mono (by simp)))) rfl
      case s20 =>
        intro ρ W hb hc hf hr
        obtain ⟨r49, r48, -⟩ := hr
        have e49 : ρ (.tmp 49) = .agg #[.int .i64 xt, .int .i64 xi, .int .i64 xp, .int .i64 xs, .int .i64 xd, .string XV, .string XU] := r49
        clear r49
        have e48 : ρ (.tmp 48) = .bool true := r48
        clear r48
        refine ⟨48, rfl, .inl ⟨e48, ?_⟩⟩
        exact soft_call1 hf e49 (HRU.out W) rfl (by kernel_rfl) below_is
      case s21 =>
        intro ρ W hb hc hf hr
        obtain ⟨r50, r48, -⟩ := hr
        have e50 : ρ (.tmp 50) = .bool false := r50
        clear r50
        have e48 : ρ (.tmp 48) = .bool true := r48
        clear r48
        refine ⟨48, rfl, .inl ⟨e48, ?_⟩⟩
        simp [execOp, e50, go_sem, softUpon, Fact.is, Below.refl]
      case s22 =>
        intro ρ W hb hc hf hr
        obtain ⟨r48, r51, -⟩ := hr
        have e48 : ρ (.tmp 48) = .bool true := r48
        clear r48
        have e51 : ρ (.tmp 51) = .bool true := r51
        clear r51
        refine under_none rfl ?_
        simp [execOp, e48, e51, hc, go_sem, softUpon, Fact.is, Below.refl]
      case s23 =>
        intro ρ W hb hc hf hr
        obtain ⟨r52, -⟩ := hr
        have e52 : ρ (.tmp 52) = .bool true := r52
        clear r52
        refine under_none rfl ?_
        exact ⟨e52, Below.refl _ _⟩
      case s24 =>
        intro ρ W hb hc hf hr
        obtain ⟨r1, r53, -⟩ := hr
        have e1 : ρ (.tmp 1) = .pointer (some ⟨N0, 0, none⟩) := r1
        clear r1
        have e53 : ρ (.tmp 53) = .bool true := r53
        clear r53
        refine ⟨53, rfl, .inl ⟨e53, ?_⟩⟩
        exact soft_load e1 (LX.out W (hbd.trans (hb.mono (by simp)))) rfl
      case s25 =>
        intro ρ W hb hc hf hr
        obtain ⟨r54, r53, -⟩ := hr
        have e54 : ρ (.tmp 54) = .agg #[.int .i64 xt, .int .i64 xi, .int .i64 xp, .int .i64 xs, .int .i64 xd, .string XV, .string XN] := r54
        clear r54
        have e53 : ρ (.tmp 53) = .bool true := r53
        clear r53
        refine ⟨53, rfl, .inl ⟨e53, ?_⟩⟩
        exact soft_call1 hf e54 (HE.out W) rfl (by kernel_rfl) below_is
      case s26 =>
        intro ρ W hb hc hf hr
        obtain ⟨r1, r53, -⟩ := hr
        have e1 : ρ (.tmp 1) = .pointer (some ⟨N0, 0, none⟩) := r1
        clear r1
        have e53 : ρ (.tmp 53) = .bool true := r53
        clear r53
        refine ⟨53, rfl, .inl ⟨e53, ?_⟩⟩
        simp [execOp, e1, go_sem, softUpon, Fact.is, Below.refl]
      case s27 =>
        intro ρ W hb hc hf hr
        obtain ⟨r56, r53, -⟩ := hr
        have e56 : ρ (.tmp 56) = .pointer (some ⟨N0, 3, none⟩) := r56
        clear r56
        have e53 : ρ (.tmp 53) = .bool true := r53
        clear r53
        refine ⟨53, rfl, .inl ⟨e53, ?_⟩⟩
        exact soft_load e56 (LS.out W (hbd.trans (hb.mono (by simp)))) rfl
      case s28 =>
        intro ρ W hb hc hf hr
        obtain ⟨r55, r57, r53, -⟩ := hr
        have e55 : ρ (.tmp 55) = .int .i64 (xs + xd) := r55
        clear r55
        have e57 : ρ (.tmp 57) = .int .i64 xs := r57
        clear r57
        have e53 : ρ (.tmp 53) = .bool true := r53
        clear r53
        refine ⟨53, rfl, .inl ⟨e53, ?_⟩⟩
        exact soft_bin e55 e57 rfl rfl (SB.out W)
      case s29 =>
        intro ρ W hb hc hf hr
        obtain ⟨r1, r53, -⟩ := hr
        have e1 : ρ (.tmp 1) = .pointer (some ⟨N0, 0, none⟩) := r1
        clear r1
        have e53 : ρ (.tmp 53) = .bool true := r53
        clear r53
        refine ⟨53, rfl, .inl ⟨e53, ?_⟩⟩
        simp [execOp, e1, go_sem, softUpon, Fact.is, Below.refl]
      case s30 =>
        intro ρ W hb hc hf hr
        obtain ⟨r59, r53, -⟩ := hr
        have e59 : ρ (.tmp 59) = .pointer (some ⟨N0, 4, none⟩) := r59
        clear r59
        have e53 : ρ (.tmp 53) = .bool true := r53
        clear r53
        refine ⟨53, rfl, .inl ⟨e53, ?_⟩⟩
        exact soft_load e59 (LD.out W (hbd.trans (hb.mono (by simp)))) rfl
      case s31 =>
        intro ρ W hb hc hf hr
        obtain ⟨r58, r60, r53, -⟩ := hr
        have e58 : ρ (.tmp 58) = .int .i64 xd := r58
        clear r58
        have e60 : ρ (.tmp 60) = .int .i64 xd := r60
        clear r60
        have e53 : ρ (.tmp 53) = .bool true := r53
        clear r53
        refine ⟨53, rfl, .inl ⟨e53, ?_⟩⟩
        exact soft_bin e58 e60 rfl rfl (EQ.out W)
      case s32 =>
        intro ρ W hb hc hf hr
        obtain ⟨r53, r61, -⟩ := hr
        have e53 : ρ (.tmp 53) = .bool true := r53
        clear r53
        have e61 : ρ (.tmp 61) = .bool true := r61
        clear r61
        refine under_none rfl ?_
        simp [execOp, e53, e61, hc, go_sem, softUpon, Fact.is, Below.refl]
      case s33 =>
        intro ρ W hb hc hf hr
        obtain ⟨r62, -⟩ := hr
        have e62 : ρ (.tmp 62) = .bool true := r62
        clear r62
        refine under_none rfl ?_
        exact ⟨e62, Below.refl _ _⟩
      case fin =>
        intro a w5 hb hd hsz hk
        have ea := act_puts hd hsz rfl hk
        have k30 : a.tmps.getD 30 undef = .bool true := hk 30
        have k31 : a.tmps.getD 31 undef = .bool true := hk 31
        have k32 : a.tmps.getD 32 undef = .agg #[.int .i64 xt, .int .i64 xi, .int .i64 xp, .int .i64 xs, .int .i64 xd, .string XV, .string XN] := hk 32
        have k33 : a.tmps.getD 33 undef = .int .i64 (xs + xd) := hk 33
        have k34 : a.tmps.getD 34 undef = .pointer (some ⟨N0, 3, none⟩) := hk 34
        have k35 : a.tmps.getD 35 undef = .int .i64 xs := hk 35
        have k36 : a.tmps.getD 36 undef = .bool true := hk 36
        have k37 : a.tmps.getD 37 undef = .bool true := hk 37
        have k38 : a.tmps.getD 38 undef = .bool true := hk 38
        have k39 : a.tmps.getD 39 undef = .agg #[.int .i64 xt, .int .i64 xi, .int .i64 xp, .int .i64 xs, .int .i64 xd, .string XV, .string XN] := hk 39
        have k40 : a.tmps.getD 40 undef = .int .i64 (xs + xd) := hk 40
        have k41 : a.tmps.getD 41 undef = .bool true := hk 41
        have k42 : a.tmps.getD 42 undef = .bool true := hk 42
        have k43 : a.tmps.getD 43 undef = .bool true := hk 43
        have k44 : a.tmps.getD 44 undef = .agg #[.int .i64 xt, .int .i64 xi, .int .i64 xp, .int .i64 xs, .int .i64 (281474976710656 - xs + 1), .string XV, .string XN] := hk 44
        have k45 : a.tmps.getD 45 undef = .bool false := hk 45
        have k46 : a.tmps.getD 46 undef = .bool true := hk 46
        have k47 : a.tmps.getD 47 undef = .bool true := hk 47
        have k48 : a.tmps.getD 48 undef = .bool true := hk 48
        have k49 : a.tmps.getD 49 undef = .agg #[.int .i64 xt, .int .i64 xi, .int .i64 xp, .int .i64 xs, .int .i64 xd, .string XV, .string XU] := hk 49
        have k50 : a.tmps.getD 50 undef = .bool false := hk 50
        have k51 : a.tmps.getD 51 undef = .bool true := hk 51
        have k52 : a.tmps.getD 52 undef = .bool true := hk 52
        have k53 : a.tmps.getD 53 undef = .bool true := hk 53
        have k54 : a.tmps.getD 54 undef = .agg #[.int .i64 xt, .int .i64 xi, .int .i64 xp, .int .i64 xs, .int .i64 xd, .string XV, .string XN] := hk 54
        have k55 : a.tmps.getD 55 undef = .int .i64 (xs + xd) := hk 55
        have k56 : a.tmps.getD 56 undef = .pointer (some ⟨N0, 3, none⟩) := hk 56
        have k57 : a.tmps.getD 57 undef = .int .i64 xs := hk 57
        have k58 : a.tmps.getD 58 undef = .int .i64 xd := hk 58
        have k59 : a.tmps.getD 59 undef = .pointer (some ⟨N0, 4, none⟩) := hk 59
        have k60 : a.tmps.getD 60 undef = .int .i64 xd := hk 60
        have k61 : a.tmps.getD 61 undef = .bool true := hk 61
        have k62 : a.tmps.getD 62 undef = .bool true := hk 62
        have k2 : a.tmps.getD 2 undef = .bool true := hk 2
        clear hk hd hsz
        simp only [List.map_cons, List.map_nil, List.foldl_cons, List.foldl_nil, k30, k31, k32, k33, k34, k35, k36, k37, k38, k39, k40, k41, k42, k43, k44, k45, k46, k47, k48, k49, k50, k51, k52, k53, k54, k55, k56, k57, k58, k59, k60, k61, k62, k2] at ea
        clear k30 k31 k32 k33 k34 k35 k36 k37 k38 k39 k40 k41 k42 k43 k44 k45 k46 k47 k48 k49 k50 k51 k52 k53 k54 k55 k56 k57 k58 k59 k60 k61 k62 k2
        simp only [Act.put, List.setIfInBounds_toArray, List.set_cons_succ, List.set_cons_zero] at ea
        subst ea
        have c5 : Below V.heap.size V w5 := c4.trans ((hbd.trans (hb.mono (by simp))).mono c4.size)
        go_wp2
        go_ret
        exact ⟨rfl, by rw [HN0.out]; exact HV.out _ c5⟩
  · go_wp2
    go_ret
    exact ⟨rfl, HV.out _ c2⟩

set_option maxRecDepth 100000 in
theorem lifted (os : Os) (started : os.Started) (H : Type) (enc : TypeId × Value → H) :
    ReturnsInHanded {} Tryd.checked os 7 .any (fun w args => (Rows.spanBoundsSpec.pre enc Tryd.prog Tryd.f7 [] false w args ∧ laidMetH Tryd.prog laidHere w) ∧ sizedMet enc Tryd.prog Tryd.f7 (OpenSpec.ofChange Rows.spanBoundsSpec) false w args) (Rows.spanBoundsSpec.post enc Tryd.prog Tryd.f7 false true false false) := by
  refine returnsInHanded_of_change_and (C := Tryd.checked) (X := fun w _ => laidMetH Tryd.prog laidHere w) (fun _ _ _ hh h => h.of_heap hh) own started (by kernel_rfl) Tryd.func7
    (ChangeSpec.witness_at (enc := enc) (C := Tryd.checked) (os := os) (X := fun w _ => laidMetH Tryd.prog laidHere w) false (laidWorld os) #[.agg #[.int .i64 0, .int .i64 0, .int .i64 0, .int .i64 0, .int .i64 0, .string .empty, .string .empty]] 8 rfl (by kernel_rfl) (by kernel_rfl) (by kernel_rfl) (by kernel_rfl) (by kernel_rfl) (laidWorld_met os _)) ?_
  intro W base args ds gs before hval0 hW _ _ hL _
  have hval : ∀ (j : Nat) t v, Tryd.f7.params[j]? = some t → args[j]? = some v → Value.okWide Tryd.prog W .any base t v := hval0
  have hfin := fun W' => law_post (enc := enc) (P := Tryd.prog) (f := Tryd.f7) (s := Rows.spanBoundsSpec) (tb := 4) (W := W) (W' := W') (args := args) (ds := ds) (gs := gs) (before := before) laidOut rfl (by kernel_rfl) Tryd.underlying4 (by kernel_rfl) (fun xs h => by rw [Tryd.params7] at h; match xs, h with | [_], _ => rfl) hW
  obtain ⟨p, q, hA0, hV, rfl, hfz, hnd⟩ := hW
  have hA : DataW.TrodAll enc Tryd.prog W 0 (fun _ => true) true Tryd.f7.params.toList args.toList ds p := hA0
  rw [Tryd.params7] at hA hval
  obtain ⟨v0, vs0, d0, ds0, p0, q0, hargs, rfl, rfl, h0, r0⟩ := trodAll_cons hA
  obtain ⟨rfl, rfl, rfl⟩ := trodAll_nil r0
  obtain rfl : args = #[v0] := by cases args; simp_all
  obtain ⟨x0, rfl, hs0, hn0⟩ := open_span (hval 0 23 v0 rfl rfl) h0
  refine (walk W (of_laid hL) x0 hs0 hn0).mono fun e W' ⟨he, hg⟩ => ?_
  subst he
  exact ⟨_, rfl, hfin W' hg⟩

theorem proved : Rows.SpanBoundsSaid :=
  OpenClaim.holds_of_wide 7 Tryd.f7 rfl rfl rfl rfl rfl rfl rfl ⟨rfl, rfl, rfl, rfl, rfl⟩ rfl rfl rfl rfl rfl (by kernel_rfl) Tryd.func7 (by kernel_rfl)
    (of_decide_eq_true (by kernel_rfl)) (by unfold Func.isWrapper; first | (rw [if_pos (by decide +kernel)]; kernel_rfl) | (rw [if_neg (by decide +kernel)]; exact ⟨rfl, rfl⟩))
    (fun os started H enc _ => lifted os started H enc)

set_option maxRecDepth 100000 in
theorem card : Rows.SpanBoundsCardSaid :=
  Claim7.holds_tied_plain_at .later [] laidKindsHere true _ true
    proved (fun _ h => by cases h) (by kernel_rfl) (fun _ h => by cases h) spanBounds_row_tie rfl ⟨rfl, rfl⟩ (by kernel_rfl) rfl
    (fun f fn hf hfn => by
      obtain rfl : f = 7 := Option.some.inj ((show Tryd.prog.funcNamed "turntable/turntablelaw03.SpanBounds" = some 7 by kernel_rfl).symm.trans hf) |>.symm
      obtain rfl : fn = Tryd.f7 := (Option.some.inj (Tryd.func7.symm.trans hfn)).symm
      exact ⟨by kernel_rfl, fun j t ht => by
        rw [Tryd.params7] at ht
        have hm : t ∈ [23] := by simpa using Array.mem_of_getElem? ht
        have hall : ([23].all fun u => !Tryd.prog.wantsStandIn u) = true := by kernel_rfl
        exact (show Tryd.prog.wantsStandIn t = false by simpa using List.all_eq_true.1 hall t hm)⟩)
    (by kernel_rfl)
#print axioms card
end Go.Proofs.YtiipcnldedjkdaaDoor.spanBounds
