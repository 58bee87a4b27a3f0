/-
  P3.2, SpanBack: for every span and all bytes the law returns true: a right one is got of its bytes, whatever is behind them; what is got of any bytes is right, and has them. No condition; what the row lists is tied to the program's text.
-/
import Derived.Test.YtiipcnldedjkdaaDoorSpanO
import Derived.Test.YtiipcnldedjkdaaDoorBase
import Derived.Deep.QuietTactic
import Derived.BigQuiet
namespace Go.Proofs.YtiipcnldedjkdaaDoor.spanBack
open Go.ChangeShapes Go.WideShapes Go.ChangeAt Go.RowKit
set_option maxRecDepth 100000

theorem leq_i (W : World) (a b : Nat) (h : a ≤ b) : (binOp .leq 3 (.int .i64 (a : Int)) (.int .i64 (b : Int))).run Tryd.prog W = .ok (.bool true) W := by
  have h' : (a : Int) ≤ (b : Int) := by omega
  go_simp
theorem eq_same (W : World) (a : List UInt8) : (binOp .eql 9 (.string (str a)) (.string (str a))).run Tryd.prog W = .ok (.bool true) W := by
  go_simp

/-- what the law does behind the first half: what is got of any bytes -/
def Tail (n cap : Nat) (A : Option Addr) (bs : List UInt8) (w : World) : Prop := Lies w A (cells bs) ∧ bs.length = n ∧ n ≤ cap ∧ cap ≤ maxLen ∧ n ≤ 900

set_option maxHeartbeats 4000000 in
theorem walk (w : World) (hh : Handle w) (x : Plain.Sp) (hxv : x.sv.length ≤ maxLen) (hxn : x.nm.length ≤ maxLen) (A : Option Addr) (cap : Nat) (bs : List UInt8) (hl : bs.length ≤ cap) (hm : cap ≤ maxLen) (hA : Lies w A (cells bs)) :
    Calls Tryd.prog 4 #[.agg #[.int .i64 x.t, .int .i64 x.i, .int .i64 x.p, .int .i64 x.s, .int .i64 x.d, .string (str x.sv), .string (str x.nm)], .slice A bs.length cap] w fun e w' => e = .returned (.bool true) ∧ Below w.heap.size w w' := by
  obtain ⟨i0, hi, hz0, hz1, hz2⟩ := info_parts infoU8
  have hPx := fun u : World => spanPut_any none 0 0 [] x u rfl (by omega) Lies.nil hxv hxn
  have hor : x.right = true → Plain.Sp.rd (x.outp ++ bs) = (x, x.outp.length, 0) := fun h => by
    have : x.outp = x.bytes := by unfold Plain.Sp.outp; rw [if_pos h]
    rw [this]; exact x.get_bytes bs h
  have hpos := x.put_pos_iff
  have hmx := x.put_max
  have hrx : x.right = Plain.rightN x.t x.i x.p x.s x.d (str x.sv).size (str x.nm).size := by rw [str_size, str_size]; rfl
  rw [← str_size x.sv] at hxv
  rw [← str_size x.nm] at hxn
  simp only [List.nil_append] at hPx
  generalize x.outp = ox at *
  generalize x.right = Rx at *
  obtain ⟨xt, xi, xp, xs, xd, xv, xn⟩ := x
  simp only at *
  have HSX := Lib.hid (show ∀ ys : List UInt8, Rx = true → ∀ (P : Plain.Sp × Nat × Nat → Prop), P (⟨xt, xi, xp, xs, xd, xv, xn⟩, ox.length, 0) → P (Plain.Sp.rd (ox ++ bs)) from fun _ h P hp => by rw [hor h]; exact hp)
  generalize hXV : str xv = XV at *
  generalize hXN : str xn = XN at *
  have HXV := Lib.hid hXV
  have HXN := Lib.hid hXN
  have HOR := Lib.hid hor
  have HH := Lib.hid hh
  have HPX := Lib.hid hPx
  have HPOS := Lib.hid hpos
  have HRX := Lib.hid hrx
  have HA := Lib.hid hA
  clear hPx hor hpos hrx hh hA hXV hXN HSX
  have HBL := Lib.hid (Plain.Sp.get_cases bs)
  generalize hn : bs.length = n at *
  have HN := Lib.hid hn
  clear hn
  have bx := Blk.new w #[.int .i64 xt, .int .i64 xi, .int .i64 xp, .int .i64 xs, .int .i64 xd, .string XV, .string XN] 23
  have k0 : Kept [] w (w.alloc (.cells #[.int .i64 xt, .int .i64 xi, .int .i64 xp, .int .i64 xs, .int .i64 xd, .string XV, .string XN] 23)) := (Kept.refl _ _).alloc _
  have HBX := Lib.hid bx
  have HK := Lib.hid k0
  clear bx k0
  have hm' := hm
  unfold maxLen at hm'
  go_enter Tryd.func4, Tryd.ntmps4
  go_wp2_with fail
  generalize w.alloc (.cells #[.int .i64 xt, .int .i64 xi, .int .i64 xp, .int .i64 xs, .int .i64 xd, .string XV, .string XN] 23) = V at *
  have CX := Lib.hid (fun (u : World) (h : Below V.heap.size V u) => ((Kept.of h []).blk HBX.out (by simp)).seven)
  have HV := Lib.hid (show ∀ u, Below V.heap.size V u → Below w.heap.size w u from fun u h => HK.out.to.trans (h.mono HK.out.to.size))
  refine (head_any V (HH.out.below HH.out.lt HK.out.to)).mono ?_
  rintro e w1 ⟨rfl, c1⟩
  obtain ⟨x0, x1, x2, x3, x4, x5, x6⟩ := CX.out w1 c1
  go_wp2_with fail
  clear x0 x1 x2 x3 x4 x5 x6
  refine (great_any xt xi xp xs xd XV XN w1 hxv hxn).mono ?_
  rintro e w2 ⟨⟨g, rfl⟩, d2⟩
  have c2 := c1.trans (d2.mono c1.size)
  rcases g with _ | _
  rotate_left
  · go_wp2
    go_ret
    exact ⟨rfl, HV.out _ c2⟩
  by_cases h9 : 900 < n
  · go_wp2
    go_ret
    exact ⟨rfl, HV.out _ c2⟩
  obtain ⟨x0, x1, x2, x3, x4, x5, x6⟩ := CX.out w2 c2
  go_wp2_with fail
  clear x0 x1 x2 x3 x4 x5 x6
  refine (HPX.out w2).mono ?_
  rintro e w3 ⟨v, rfl, ho, d3⟩
  have c3 := c2.trans (d3.mono c2.size)
  obtain ⟨A1, cap1, rfl, hlc1, hcm1, -, hL1⟩ := own_form ho
  clear ho
  obtain ⟨x0, x1, x2, x3, x4, x5, x6⟩ := CX.out w3 c3
  go_wp2_with fail
  clear x0 x1 x2 x3 x4 x5 x6
  refine (right_any xt xi xp xs xd XV XN w3 hxv hxn).mono ?_
  rintro e w4 ⟨rfl, d4⟩
  have c4 := c3.trans (d4.mono c3.size)
  rw [← HRX.out]
  have HL1 := Lib.hid (hL1.below d4)
  clear hL1
  rcases Rx with _ | _
  · have h0 : ox.length = 0 := by have := HPOS.out.1; rcases Nat.eq_zero_or_pos ox.length with h | h; exact h; exact absurd (this h) (by simp)
    generalize ox.length = L1 at *
    subst h0
    rcases HBL.out with herr | ⟨y, hy1, hy2, hy3, hy4⟩
    · rcases herr with h | h
      · have hG := spanGet_any A n cap bs w4 (HH.out.below HH.out.lt (HV.out _ c4)) HN.out hl hm (by omega) (HA.out.below (HV.out _ c4))
        rw [h] at hG
        have HG := Lib.hid hG
        clear hG h
        go_wp2_with fail
        refine HG.out.mono ?_
        rintro e u2 ⟨rfl, du⟩
        have cu2 := c4.trans (du.mono c4.size)
        simp only [Plain.Sp.zero, str]
        go_wp2
        go_quiet (fail)
        go_wp2
        go_ret
        exact ⟨rfl, below_many ((HV.out _ cu2).alloc (HV.out _ cu2).size _) _⟩
      · have hG := spanGet_any A n cap bs w4 (HH.out.below HH.out.lt (HV.out _ c4)) HN.out hl hm (by omega) (HA.out.below (HV.out _ c4))
        rw [h] at hG
        have HG := Lib.hid hG
        clear hG h
        go_wp2_with fail
        refine HG.out.mono ?_
        rintro e u2 ⟨rfl, du⟩
        have cu2 := c4.trans (du.mono c4.size)
        simp only [Plain.Sp.zero, str]
        go_wp2
        go_quiet (fail)
        go_wp2
        go_ret
        exact ⟨rfl, below_many ((HV.out _ cu2).alloc (HV.out _ cu2).size _) _⟩
    · have hG := spanGet_any A n cap bs w4 (HH.out.below HH.out.lt (HV.out _ c4)) HN.out hl hm (by omega) (HA.out.below (HV.out _ c4))
      rw [hy1] at hG
      have HG := Lib.hid hG
      have hyr := hy2
      rw [Plain.Sp.right_iff] at hyr
      have hPy := fun u : World => spanPut_any none 0 0 [] y u rfl (by omega) Lies.nil (by unfold maxLen; omega) (by unfold maxLen; omega)
      have hoy : y.outp = bs.take y.bytes.length := by unfold Plain.Sp.outp; rw [if_pos hy2, hy4]
      rw [List.nil_append, hoy] at hPy
      have hry : Plain.rightN y.t y.i y.p y.s y.d (str y.sv).size (str y.nm).size = true := by rw [str_size, str_size]; exact hy2
      have hjn : y.bytes.length ≤ n := hy3
      have CV := Lib.hid (fun (W : World) (h : Lies W A (cells bs)) => conv_take h y.bytes.length cap (by rw [HN.out]; exact hy3))
      have hyv : (str y.sv).size ≤ maxLen := by rw [str_size]; unfold maxLen; omega
      have hyn : (str y.nm).size ≤ maxLen := by rw [str_size]; unfold maxLen; omega
      clear hG hy1 hy2 hy3 hy4 hoy hyr
      generalize bs.take y.bytes.length = T at *
      generalize y.bytes.length = j at *
      obtain ⟨yt, yi, yp, ys, yd, yv, yn⟩ := y
      simp only at *
      generalize str yv = YV at *
      generalize str yn = YN at *
      have HPY := Lib.hid hPy
      have HRY := Lib.hid (fun (W : World) => right_any yt yi yp ys yd YV YN W hyv hyn)
      rw [hry] at HRY
      have LE := Lib.hid (fun (W : World) => leq_i W j n hjn)
      have EQT := Lib.hid (fun (W : World) => eq_same W T)
      have SL := Lib.hid (fun (W : World) => show (Instr.sliceAt 24 (.slice A n cap) none (some (.int .i64 (j : Int))) none).run Tryd.prog W = .ok (.slice A j cap) W from by
        have hjc : j ≤ cap := by omega
        go_simp)
      clear hPy hry
      go_wp2_with fail
      refine HG.out.mono ?_
      rintro e u2 ⟨rfl, du⟩
      have cu2 := c4.trans (du.mono c4.size)
      have by2 := Blk.new u2 #[.int .i64 yt, .int .i64 yi, .int .i64 yp, .int .i64 ys, .int .i64 yd, .string YV, .string YN] 23
      have cu3 := cu2.alloc cu2.size (.cells #[.int .i64 yt, .int .i64 yi, .int .i64 yp, .int .i64 ys, .int .i64 yd, .string YV, .string YN] 23)
      go_wp2
      generalize u2.alloc (.cells #[.int .i64 yt, .int .i64 yi, .int .i64 yp, .int .i64 ys, .int .i64 yd, .string YV, .string YN] 23) = u3 at *
      generalize u2.heap.size = NY at *
      have LY := Lib.hid (fun (W : World) (h : Below u3.heap.size u3 W) => load_span ((Kept.of h []).blk by2 (by simp)))
      have hA3 := HA.out.below (HV.out _ cu3)
      have CV := Lib.hid (fun (W : World) (h : Below u3.heap.size u3 W) => CV.out W (hA3.below h))
      have hbd : Below u3.heap.size u3 u3.drew := (Below.refl _ _).drew
      clear by2 hA3
      refine wp_soft (by kernel_rfl) 100 [(62, [5]), (63, [62]), (64, [12, 63]), (65, [64, 63]), (66, [65, 63]), (67, [10, 66]), (68, [66]), (69, [67, 68, 66]), (70, [66, 69, 63]), (71, [70, 63]), (72, [11, 71]), (73, [72, 71]), (74, [71, 73, 63]), (75, [74, 63]), (76, [12, 75]), (77, [76, 75]), (78, [77, 75]), (79, [10, 78]), (80, [79, 78]), (81, [78, 80, 75]), (82, [81, 75]), (83, [11, 82]), (84, [1, 82]), (85, [84, 82]), (86, [83, 85, 82]), (87, [82, 86, 75]), (88, [87, 75]), (89, [10, 88]), (90, [89, 88]), (91, [90, 88]), (92, [1, 88]), (93, [11, 88]), (94, [92, 93, 88]), (95, [94, 88]), (96, [91, 95, 88]), (97, [88, 96, 75]), (98, [75, 97, 63]), (99, [63, 98]), (4, [99])]
        [Fact.is (.bool true), Fact.is (.bool true), Fact.is (.int .i64 0), Fact.is (.bool false), Fact.is (.bool false), Fact.is (undef), Fact.is (undef), Fact.is (undef), Fact.is (.bool false), Fact.is (.bool false), Fact.is (undef), Fact.is (undef), Fact.is (.bool false), Fact.is (.bool false), Fact.is (.int .i64 0), Fact.is (.bool true), Fact.is (.bool true), Fact.is (.agg #[.int .i64 yt, .int .i64 yi, .int .i64 yp, .int .i64 ys, .int .i64 yd, .string YV, .string YN]), Fact.is (.bool true), Fact.is (.bool true), Fact.is (.bool true), Fact.is (.int .i64 j), Fact.is (.slice A n cap), Fact.is (.int .i64 n), Fact.is (.bool true), Fact.is (.bool true), Fact.is (.bool true), Fact.is (.agg #[.int .i64 yt, .int .i64 yi, .int .i64 yp, .int .i64 ys, .int .i64 yd, .string YV, .string YN]), Fact.own T, Fact.is (.string (str T)), Fact.is (.slice A n cap), Fact.is (.int .i64 j), Fact.is (.slice A j cap), Fact.is (.string (str T)), Fact.is (.bool true), Fact.is (.bool true), Fact.is (.bool true), Fact.is (.bool true), Fact.is (.bool true)]
        (by kernel_rfl) rfl rfl ⟨?s0, ?s1, ?s2, ?s3, ?s4, ?s5, ?s6, ?s7, ?s8, ?s9, ?s10, ?s11, ?s12, ?s13, ?s14, ?s15, ?s16, ?s17, ?s18, ?s19, ?s20, ?s21, ?s22, ?s23, ?s24, ?s25, ?s26, ?s27, ?s28, ?s29, ?s30, ?s31, ?s32, ?s33, ?s34, ?s35, ?s36, ?s37, ?s38, trivial⟩ ?fin
      case s0 =>
        intro ρ W hb hc hf hr
        obtain ⟨r5, -⟩ := hr
        have e5 : ρ (.tmp 5) = .bool true := r5
        clear r5
        refine under_none rfl ?_
        exact ⟨e5, Below.refl _ _⟩
      case s1 =>
        intro ρ W hb hc hf hr
        obtain ⟨r62, -⟩ := hr
        have e62 : ρ (.tmp 62) = .bool true := r62
        clear r62
        refine under_none rfl ?_
        exact ⟨e62, Below.refl _ _⟩
      case s2 =>
        intro ρ W hb hc hf hr
        obtain ⟨r12, r63, -⟩ := hr
        have e12 : ρ (.tmp 12) = .int .i64 0 := r12
        clear r12
        have e63 : ρ (.tmp 63) = .bool true := r63
        clear r63
        refine ⟨63, rfl, .inl ⟨e63, ?_⟩⟩
        exact ⟨e12, Below.refl _ _⟩
      case s3 =>
        intro ρ W hb hc hf hr
        obtain ⟨r64, r63, -⟩ := hr
        have e64 : ρ (.tmp 64) = .int .i64 0 := r64
        clear r64
        have e63 : ρ (.tmp 63) = .bool true := r63
        clear r63
        refine ⟨63, rfl, .inl ⟨e63, ?_⟩⟩
        simp [execOp, e64, hc, go_sem, softUpon, Fact.is, Below.refl]
      case s4 =>
        intro ρ W hb hc hf hr
        obtain ⟨r65, r63, -⟩ := hr
        have e65 : ρ (.tmp 65) = .bool false := r65
        clear r65
        have e63 : ρ (.tmp 63) = .bool true := r63
        clear r63
        refine ⟨63, rfl, .inl ⟨e63, ?_⟩⟩
        exact ⟨e65, Below.refl _ _⟩
      case s5 =>
        intro ρ W hb hc hf hr
        obtain ⟨r10, r66, -⟩ := hr
        have e10 : ρ (.tmp 10) = .pointer (some ⟨NY, 0, none⟩) := r10
        clear r10
        have e66 : ρ (.tmp 66) = .bool false := r66
        clear r66
        exact ⟨66, rfl, .inr (.inl ⟨e66, rfl⟩)⟩
      case s6 =>
        intro ρ W hb hc hf hr
        obtain ⟨r66, -⟩ := hr
        have e66 : ρ (.tmp 66) = .bool false := r66
        clear r66
        exact ⟨66, rfl, .inr (.inl ⟨e66, rfl⟩)⟩
      case s7 =>
        intro ρ W hb hc hf hr
        obtain ⟨r67, r68, r66, -⟩ := hr
        have e67 : ρ (.tmp 67) = undef := r67
        clear r67
        have e68 : ρ (.tmp 68) = undef := r68
        clear r68
        have e66 : ρ (.tmp 66) = .bool false := r66
        clear r66
        exact ⟨66, rfl, .inr (.inl ⟨e66, rfl⟩)⟩
      case s8 =>
        intro ρ W hb hc hf hr
        obtain ⟨r66, r69, r63, -⟩ := hr
        have e66 : ρ (.tmp 66) = .bool false := r66
        clear r66
        have e69 : ρ (.tmp 69) = undef := r69
        clear r69
        have e63 : ρ (.tmp 63) = .bool true := r63
        clear r63
        refine ⟨63, rfl, .inl ⟨e63, ?_⟩⟩
        simp [execOp, e66, hc, go_sem, softUpon, Fact.is, Below.refl]
      case s9 =>
        intro ρ W hb hc hf hr
        obtain ⟨r70, r63, -⟩ := hr
        have e70 : ρ (.tmp 70) = .bool false := r70
        clear r70
        have e63 : ρ (.tmp 63) = .bool true := r63
        clear r63
        refine ⟨63, rfl, .inl ⟨e63, ?_⟩⟩
        exact ⟨e70, Below.refl _ _⟩
      case s10 =>
        intro ρ W hb hc hf hr
        obtain ⟨r11, r71, -⟩ := hr
        have e11 : ρ (.tmp 11) = .int .i64 j := r11
        clear r11
        have e71 : ρ (.tmp 71) = .bool false := r71
        clear r71
        exact ⟨71, rfl, .inr (.inl ⟨e71, rfl⟩)⟩
      case s11 =>
        intro ρ W hb hc hf hr
        obtain ⟨r72, r71, -⟩ := hr
        have e72 : ρ (.tmp 72) = undef := r72
        clear r72
        have e71 : ρ (.tmp 71) = .bool false := r71
        clear r71
        exact ⟨71, rfl, .inr (.inl ⟨e71, rfl⟩)⟩
      case s12 =>
        intro ρ W hb hc hf hr
        obtain ⟨r71, r73, r63, -⟩ := hr
        have e71 : ρ (.tmp 71) = .bool false := r71
        clear r71
        have e73 : ρ (.tmp 73) = undef := r73
        clear r73
        have e63 : ρ (.tmp 63) = .bool true := r63
        clear r63
        refine ⟨63, rfl, .inl ⟨e63, ?_⟩⟩
        simp [execOp, e71, hc, go_sem, softUpon, Fact.is, Below.refl]
      case s13 =>
        intro ρ W hb hc hf hr
        obtain ⟨r74, r63, -⟩ := hr
        have e74 : ρ (.tmp 74) = .bool false := r74
        clear r74
        have e63 : ρ (.tmp 63) = .bool true := r63
        clear r63
        refine ⟨63, rfl, .inl ⟨e63, ?_⟩⟩
        exact ⟨e74, Below.refl _ _⟩
      case s14 =>
        intro ρ W hb hc hf hr
        obtain ⟨r12, r75, -⟩ := hr
        have e12 : ρ (.tmp 12) = .int .i64 0 := r12
        clear r12
        have e75 : ρ (.tmp 75) = .bool false := r75
        clear r75
        refine ⟨75, rfl, .inl ⟨e75, ?_⟩⟩
        exact ⟨e12, Below.refl _ _⟩
      case s15 =>
        intro ρ W hb hc hf hr
        obtain ⟨r76, r75, -⟩ := hr
        have e76 : ρ (.tmp 76) = .int .i64 0 := r76
        clear r76
        have e75 : ρ (.tmp 75) = .bool false := r75
        clear r75
        refine ⟨75, rfl, .inl ⟨e75, ?_⟩⟩
        simp [execOp, e76, hc, go_sem, softUpon, Fact.is, Below.refl]
      case s16 =>
        intro ρ W hb hc hf hr
        obtain ⟨r77, r75, -⟩ := hr
        have e77 : ρ (.tmp 77) = .bool true := r77
        clear r77
        have e75 : ρ (.tmp 75) = .bool false := r75
        clear r75
        refine ⟨75, rfl, .inl ⟨e75, ?_⟩⟩
        exact ⟨e77, Below.refl _ _⟩
      case s17 =>
        intro ρ W hb hc hf hr
        obtain ⟨r10, r78, -⟩ := hr
        have e10 : ρ (.tmp 10) = .pointer (some ⟨NY, 0, none⟩) := r10
        clear r10
        have e78 : ρ (.tmp 78) = .bool true := r78
        clear r78
        refine ⟨78, rfl, .inl ⟨e78, ?_⟩⟩
        exact soft_load e10 (LY.out W (hbd.trans (hb.mono (by simp)))) rfl
      case s18 =>
        intro ρ W hb hc hf hr
        obtain ⟨r79, r78, -⟩ := hr
        have e79 : ρ (.tmp 79) = .agg #[.int .i64 yt, .int .i64 yi, .int .i64 yp, .int .i64 ys, .int .i64 yd, .string YV, .string YN] := r79
        clear r79
        have e78 : ρ (.tmp 78) = .bool true := r78
        clear r78
        refine ⟨78, rfl, .inl ⟨e78, ?_⟩⟩
        exact soft_call1 hf e79 (HRY.out W) rfl (by kernel_rfl) below_is
      case s19 =>
        intro ρ W hb hc hf hr
        obtain ⟨r78, r80, r75, -⟩ := hr
        have e78 : ρ (.tmp 78) = .bool true := r78
        clear r78
        have e80 : ρ (.tmp 80) = .bool true := r80
        clear r80
        have e75 : ρ (.tmp 75) = .bool false := r75
        clear r75
        refine ⟨75, rfl, .inl ⟨e75, ?_⟩⟩
        simp [execOp, e78, e80, hc, go_sem, softUpon, Fact.is, Below.refl]
      case s20 =>
        intro ρ W hb hc hf hr
        obtain ⟨r81, r75, -⟩ := hr
        have e81 : ρ (.tmp 81) = .bool true := r81
        clear r81
        have e75 : ρ (.tmp 75) = .bool false := r75
        clear r75
        refine ⟨75, rfl, .inl ⟨e75, ?_⟩⟩
        exact ⟨e81, Below.refl _ _⟩
      case s21 =>
        intro ρ W hb hc hf hr
        obtain ⟨r11, r82, -⟩ := hr
        have e11 : ρ (.tmp 11) = .int .i64 j := r11
        clear r11
        have e82 : ρ (.tmp 82) = .bool true := r82
        clear r82
        refine ⟨82, rfl, .inl ⟨e82, ?_⟩⟩
        exact ⟨e11, Below.refl _ _⟩
      case s22 =>
        intro ρ W hb hc hf hr
        obtain ⟨r1, r82, -⟩ := hr
        have e1 : ρ (.tmp 1) = .slice A n cap := r1
        clear r1
        have e82 : ρ (.tmp 82) = .bool true := r82
        clear r82
        refine ⟨82, rfl, .inl ⟨e82, ?_⟩⟩
        exact ⟨e1, Below.refl _ _⟩
      case s23 =>
        intro ρ W hb hc hf hr
        obtain ⟨r84, r82, -⟩ := hr
        have e84 : ρ (.tmp 84) = .slice A n cap := r84
        clear r84
        have e82 : ρ (.tmp 82) = .bool true := r82
        clear r82
        refine ⟨82, rfl, .inl ⟨e82, ?_⟩⟩
        simp [e84, go_sem, softUpon, Fact.is, Below.refl]
      case s24 =>
        intro ρ W hb hc hf hr
        obtain ⟨r83, r85, r82, -⟩ := hr
        have e83 : ρ (.tmp 83) = .int .i64 j := r83
        clear r83
        have e85 : ρ (.tmp 85) = .int .i64 n := r85
        clear r85
        have e82 : ρ (.tmp 82) = .bool true := r82
        clear r82
        refine ⟨82, rfl, .inl ⟨e82, ?_⟩⟩
        exact soft_bin e83 e85 rfl rfl (LE.out W)
      case s25 =>
        intro ρ W hb hc hf hr
        obtain ⟨r82, r86, r75, -⟩ := hr
        have e82 : ρ (.tmp 82) = .bool true := r82
        clear r82
        have e86 : ρ (.tmp 86) = .bool true := r86
        clear r86
        have e75 : ρ (.tmp 75) = .bool false := r75
        clear r75
        refine ⟨75, rfl, .inl ⟨e75, ?_⟩⟩
        simp [execOp, e82, e86, hc, go_sem, softUpon, Fact.is, Below.refl]
      case s26 =>
        intro ρ W hb hc hf hr
        obtain ⟨r87, r75, -⟩ := hr
        have e87 : ρ (.tmp 87) = .bool true := r87
        clear r87
        have e75 : ρ (.tmp 75) = .bool false := r75
        clear r75
        refine ⟨75, rfl, .inl ⟨e75, ?_⟩⟩
        exact ⟨e87, Below.refl _ _⟩
      case s27 =>
        intro ρ W hb hc hf hr
        obtain ⟨r10, r88, -⟩ := hr
        have e10 : ρ (.tmp 10) = .pointer (some ⟨NY, 0, none⟩) := r10
        clear r10
        have e88 : ρ (.tmp 88) = .bool true := r88
        clear r88
        refine ⟨88, rfl, .inl ⟨e88, ?_⟩⟩
        exact soft_load e10 (LY.out W (hbd.trans (hb.mono (by simp)))) rfl
      case s28 =>
        intro ρ W hb hc hf hr
        obtain ⟨r89, r88, -⟩ := hr
        have e89 : ρ (.tmp 89) = .agg #[.int .i64 yt, .int .i64 yi, .int .i64 yp, .int .i64 ys, .int .i64 yd, .string YV, .string YN] := r89
        clear r89
        have e88 : ρ (.tmp 88) = .bool true := r88
        clear r88
        refine ⟨88, rfl, .inl ⟨e88, ?_⟩⟩
        exact soft_call2 hf (hc _) e89 (HPY.out W) rfl (by kernel_rfl) made_own
      case s29 =>
        intro ρ W hb hc hf hr
        obtain ⟨r90, r88, -⟩ := hr
        have e88 : ρ (.tmp 88) = .bool true := r88
        clear r88
        refine ⟨88, rfl, .inl ⟨e88, ?_⟩⟩
        exact soft_own r90 rfl
      case s30 =>
        intro ρ W hb hc hf hr
        obtain ⟨r1, r88, -⟩ := hr
        have e1 : ρ (.tmp 1) = .slice A n cap := r1
        clear r1
        have e88 : ρ (.tmp 88) = .bool true := r88
        clear r88
        refine ⟨88, rfl, .inl ⟨e88, ?_⟩⟩
        exact ⟨e1, Below.refl _ _⟩
      case s31 =>
        intro ρ W hb hc hf hr
        obtain ⟨r11, r88, -⟩ := hr
        have e11 : ρ (.tmp 11) = .int .i64 j := r11
        clear r11
        have e88 : ρ (.tmp 88) = .bool true := r88
        clear r88
        refine ⟨88, rfl, .inl ⟨e88, ?_⟩⟩
        exact ⟨e11, Below.refl _ _⟩
      case s32 =>
        intro ρ W hb hc hf hr
        obtain ⟨r92, r93, r88, -⟩ := hr
        have e92 : ρ (.tmp 92) = .slice A n cap := r92
        clear r92
        have e93 : ρ (.tmp 93) = .int .i64 j := r93
        clear r93
        have e88 : ρ (.tmp 88) = .bool true := r88
        clear r88
        refine ⟨88, rfl, .inl ⟨e88, ?_⟩⟩
        exact soft_slice e92 e93 (SL.out W) rfl
      case s33 =>
        intro ρ W hb hc hf hr
        obtain ⟨r94, r88, -⟩ := hr
        have e94 : ρ (.tmp 94) = .slice A j cap := r94
        clear r94
        have e88 : ρ (.tmp 88) = .bool true := r88
        clear r88
        refine ⟨88, rfl, .inl ⟨e88, ?_⟩⟩
        exact soft_conv e94 (CV.out W (hbd.trans (hb.mono (by simp)))) rfl
      case s34 =>
        intro ρ W hb hc hf hr
        obtain ⟨r91, r95, r88, -⟩ := hr
        have e91 : ρ (.tmp 91) = .string (str T) := r91
        clear r91
        have e95 : ρ (.tmp 95) = .string (str T) := r95
        clear r95
        have e88 : ρ (.tmp 88) = .bool true := r88
        clear r88
        refine ⟨88, rfl, .inl ⟨e88, ?_⟩⟩
        exact soft_bin e91 e95 rfl rfl (EQT.out W)
      case s35 =>
        intro ρ W hb hc hf hr
        obtain ⟨r88, r96, r75, -⟩ := hr
        have e88 : ρ (.tmp 88) = .bool true := r88
        clear r88
        have e96 : ρ (.tmp 96) = .bool true := r96
        clear r96
        have e75 : ρ (.tmp 75) = .bool false := r75
        clear r75
        refine ⟨75, rfl, .inl ⟨e75, ?_⟩⟩
        simp [execOp, e88, e96, hc, go_sem, softUpon, Fact.is, Below.refl]
      case s36 =>
        intro ρ W hb hc hf hr
        obtain ⟨r75, r97, r63, -⟩ := hr
        have e75 : ρ (.tmp 75) = .bool false := r75
        clear r75
        have e97 : ρ (.tmp 97) = .bool true := r97
        clear r97
        have e63 : ρ (.tmp 63) = .bool true := r63
        clear r63
        refine ⟨63, rfl, .inl ⟨e63, ?_⟩⟩
        simp [execOp, e75, e97, hc, go_sem, softUpon, Fact.is, Below.refl]
      case s37 =>
        intro ρ W hb hc hf hr
        obtain ⟨r63, r98, -⟩ := hr
        have e63 : ρ (.tmp 63) = .bool true := r63
        clear r63
        have e98 : ρ (.tmp 98) = .bool true := r98
        clear r98
        refine under_none rfl ?_
        simp [execOp, e63, e98, hc, go_sem, softUpon, Fact.is, Below.refl]
      case s38 =>
        intro ρ W hb hc hf hr
        obtain ⟨r99, -⟩ := hr
        have e99 : ρ (.tmp 99) = .bool true := r99
        clear r99
        refine under_none rfl ?_
        exact ⟨e99, Below.refl _ _⟩
      case fin =>
        intro a u4 hb hd hk
        have h4 : a.tmps.getD 4 undef = .bool true := hk 4
        clear hk
        have c8 : Below V.heap.size V u4 := cu3.trans ((hbd.trans (hb.mono (by simp))).mono cu3.size)
        go_wp2
        refine bodyPost_ret (results_tmp rfl _ _ _) hd ?_
        exact ⟨by rw [h4], HV.out _ c8⟩
  · have h0 : 0 < ox.length := HPOS.out.2 rfl
    have HRD := Lib.hid (HOR.out rfl)
    have HOL := Lib.hid (cells_length ox)
    have HO1' := Lib.hid (cells_one ox)
    have HB1' := Lib.hid (cells_one bs)
    have HBN := Lib.hid (show (cells bs).length = n by rw [cells_length, HN.out])
    have HLL := Lib.hid (show (ox ++ bs).length = ox.length + n by rw [List.length_append, HN.out])
    have HCC := Lib.hid (cells_append ox bs)
    clear HPX HOR HPOS
    generalize hL1 : ox.length = L1 at *
    clear hL1
    go_wp2_with (at_builtin; refine wpList_app rfl _ _ 24 rfl w4.heap.size 5 i0 (.int .u8 0) Tryd.underlying24 hi hz0 hz1 hz2 rfl (.slice (some ⟨w4.heap.size, 0, none⟩) 0 0) 0 [] rfl ?a1 A1 L1 cap1 (cells ox) rfl ?a2 ?a3 HO1'.out ?a4 ?a5 ?a6)
    case a1 => exact World.ownsRow_lit w4 #[] 0 (Nat.le_refl _) (by unfold maxLen; omega) rfl
    case a2 => exact HOL.out
    case a3 => exact HL1.out.keep (by simp) fun p hp => World.cell?_alloc_lt w4 _ p hp
    case a4 => omega
    case a5 => simp
    case a6 =>
      intro v1 w5 hown1 hg1 hat1
      have d5 : Below w4.heap.size w4 w5 := ((Below.refl _ _).alloc (Nat.le_refl _) _).grown hg1 (by simp) (fun g hg => by simp [Value.ownBlock] at hg; omega)
      have c5 := c4.trans (d5.mono c4.size)
      have HOW1 := Lib.hid hown1
      clear hown1 hg1 hat1
      go_wp2_with (at_builtin; refine wpList_app rfl _ _ 24 rfl w4.heap.size 5 i0 (.int .u8 0) Tryd.underlying24 hi hz0 hz1 hz2 rfl v1 L1 (cells ox) rfl HOW1.out A n cap (cells bs) rfl ?b2 ?b3 HB1'.out ?b4 ?b5 ?b6)
      case b2 => exact HBN.out
      case b3 => exact HA.out.below (HV.out _ c5)
      case b4 => omega
      case b5 => exact d5.size
      case b6 =>
        intro v2 w6 hown2 hg2 hat2
        have d6 : Below w4.heap.size w4 w6 := d5.grown hg2 d5.size (fun g hg => (HOW1.out.lt g hg).1)
        have c6 := c4.trans (d6.mono c4.size)
        rw [← HCC.out] at hown2
        obtain ⟨A6, cap6, rfl, hlc6, hcm6, -, hL6⟩ := own_form hown2
        clear hown2 hg2 hat2
        have hG := spanGet_any A6 (L1 + n) cap6 (ox ++ bs) w6 (HH.out.below HH.out.lt (HV.out _ c6)) HLL.out hlc6 hcm6 (by omega) hL6
        rw [HRD.out] at hG
        simp only at hG
        rw [HXV.out, HXN.out] at hG
        have HG0 := Lib.hid hG
        clear hG hL6
        go_wp2_with fail
        refine HG0.out.mono ?_
        rintro e w7 ⟨rfl, d7⟩
        have c7 := c6.trans (d7.mono c6.size)
        have c8 := c7.alloc c7.size (.cells #[.int .i64 xt, .int .i64 xi, .int .i64 xp, .int .i64 xs, .int .i64 xd, .string XV, .string XN] 23)
        obtain ⟨x0, x1, x2, x3, x4, x5, x6⟩ := CX.out _ c8
        obtain ⟨q0, q1, q2, q3, q4, q5, q6⟩ := (Blk.new w7 #[.int .i64 xt, .int .i64 xi, .int .i64 xp, .int .i64 xs, .int .i64 xd, .string XV, .string XN] 23).seven
        rcases HBL.out with herr | ⟨y, hy1, hy2, hy3, hy4⟩
        · rcases herr with h | h
          · have hG := spanGet_any A n cap bs (w7.alloc (.cells #[.int .i64 xt, .int .i64 xi, .int .i64 xp, .int .i64 xs, .int .i64 xd, .string XV, .string XN] 23)) (HH.out.below HH.out.lt (HV.out _ c8)) HN.out hl hm (by omega) (HA.out.below (HV.out _ c8))
            rw [h] at hG
            have HG := Lib.hid hG
            clear hG h
            go_wp2_with fail
            refine HG.out.mono ?_
            rintro e u2 ⟨rfl, du⟩
            have cu2 := c8.trans (du.mono c8.size)
            simp only [Plain.Sp.zero, str]
            go_wp2
            go_quiet (fail)
            go_wp2
            go_ret
            exact ⟨rfl, below_many ((HV.out _ cu2).alloc (HV.out _ cu2).size _) _⟩
          · have hG := spanGet_any A n cap bs (w7.alloc (.cells #[.int .i64 xt, .int .i64 xi, .int .i64 xp, .int .i64 xs, .int .i64 xd, .string XV, .string XN] 23)) (HH.out.below HH.out.lt (HV.out _ c8)) HN.out hl hm (by omega) (HA.out.below (HV.out _ c8))
            rw [h] at hG
            have HG := Lib.hid hG
            clear hG h
            go_wp2_with fail
            refine HG.out.mono ?_
            rintro e u2 ⟨rfl, du⟩
            have cu2 := c8.trans (du.mono c8.size)
            simp only [Plain.Sp.zero, str]
            go_wp2
            go_quiet (fail)
            go_wp2
            go_ret
            exact ⟨rfl, below_many ((HV.out _ cu2).alloc (HV.out _ cu2).size _) _⟩
        · have hG := spanGet_any A n cap bs (w7.alloc (.cells #[.int .i64 xt, .int .i64 xi, .int .i64 xp, .int .i64 xs, .int .i64 xd, .string XV, .string XN] 23)) (HH.out.below HH.out.lt (HV.out _ c8)) HN.out hl hm (by omega) (HA.out.below (HV.out _ c8))
          rw [hy1] at hG
          have HG := Lib.hid hG
          have hyr := hy2
          rw [Plain.Sp.right_iff] at hyr
          have hPy := fun u : World => spanPut_any none 0 0 [] y u rfl (by omega) Lies.nil (by unfold maxLen; omega) (by unfold maxLen; omega)
          have hoy : y.outp = bs.take y.bytes.length := by unfold Plain.Sp.outp; rw [if_pos hy2, hy4]
          rw [List.nil_append, hoy] at hPy
          have hry : Plain.rightN y.t y.i y.p y.s y.d (str y.sv).size (str y.nm).size = true := by rw [str_size, str_size]; exact hy2
          have hjn : y.bytes.length ≤ n := hy3
          have CV := Lib.hid (fun (W : World) (h : Lies W A (cells bs)) => conv_take h y.bytes.length cap (by rw [HN.out]; exact hy3))
          have hyv : (str y.sv).size ≤ maxLen := by rw [str_size]; unfold maxLen; omega
          have hyn : (str y.nm).size ≤ maxLen := by rw [str_size]; unfold maxLen; omega
          clear hG hy1 hy2 hy3 hy4 hoy hyr
          generalize bs.take y.bytes.length = T at *
          generalize y.bytes.length = j at *
          obtain ⟨yt, yi, yp, ys, yd, yv, yn⟩ := y
          simp only at *
          generalize str yv = YV at *
          generalize str yn = YN at *
          have HPY := Lib.hid hPy
          have HRY := Lib.hid (fun (W : World) => right_any yt yi yp ys yd YV YN W hyv hyn)
          rw [hry] at HRY
          have LE := Lib.hid (fun (W : World) => leq_i W j n hjn)
          have EQT := Lib.hid (fun (W : World) => eq_same W T)
          have SL := Lib.hid (fun (W : World) => show (Instr.sliceAt 24 (.slice A n cap) none (some (.int .i64 (j : Int))) none).run Tryd.prog W = .ok (.slice A j cap) W from by
            have hjc : j ≤ cap := by omega
            go_simp)
          clear hPy hry
          go_wp2_with fail
          refine HG.out.mono ?_
          rintro e u2 ⟨rfl, du⟩
          have cu2 := c8.trans (du.mono c8.size)
          have by2 := Blk.new u2 #[.int .i64 yt, .int .i64 yi, .int .i64 yp, .int .i64 ys, .int .i64 yd, .string YV, .string YN] 23
          have cu3 := cu2.alloc cu2.size (.cells #[.int .i64 yt, .int .i64 yi, .int .i64 yp, .int .i64 ys, .int .i64 yd, .string YV, .string YN] 23)
          go_wp2
          generalize u2.alloc (.cells #[.int .i64 yt, .int .i64 yi, .int .i64 yp, .int .i64 ys, .int .i64 yd, .string YV, .string YN] 23) = u3 at *
          generalize u2.heap.size = NY at *
          have LY := Lib.hid (fun (W : World) (h : Below u3.heap.size u3 W) => load_span ((Kept.of h []).blk by2 (by simp)))
          have hA3 := HA.out.below (HV.out _ cu3)
          have CV := Lib.hid (fun (W : World) (h : Below u3.heap.size u3 W) => CV.out W (hA3.below h))
          have hbd : Below u3.heap.size u3 u3.drew := (Below.refl _ _).drew
          clear by2 hA3
          refine wp_soft (by kernel_rfl) 100 [(62, [5]), (63, [62]), (64, [12, 63]), (65, [64, 63]), (66, [65, 63]), (67, [10, 66]), (68, [66]), (69, [67, 68, 66]), (70, [66, 69, 63]), (71, [70, 63]), (72, [11, 71]), (73, [72, 71]), (74, [71, 73, 63]), (75, [74, 63]), (76, [12, 75]), (77, [76, 75]), (78, [77, 75]), (79, [10, 78]), (80, [79, 78]), (81, [78, 80, 75]), (82, [81, 75]), (83, [11, 82]), (84, [1, 82]), (85, [84, 82]), (86, [83, 85, 82]), (87, [82, 86, 75]), (88, [87, 75]), (89, [10, 88]), (90, [89, 88]), (91, [90, 88]), (92, [1, 88]), (93, [11, 88]), (94, [92, 93, 88]), (95, [94, 88]), (96, [91, 95, 88]), (97, [88, 96, 75]), (98, [75, 97, 63]), (99, [63, 98]), (4, [99])]
            [Fact.is (.bool true), Fact.is (.bool true), Fact.is (.int .i64 0), Fact.is (.bool false), Fact.is (.bool false), Fact.is (undef), Fact.is (undef), Fact.is (undef), Fact.is (.bool false), Fact.is (.bool false), Fact.is (undef), Fact.is (undef), Fact.is (.bool false), Fact.is (.bool false), Fact.is (.int .i64 0), Fact.is (.bool true), Fact.is (.bool true), Fact.is (.agg #[.int .i64 yt, .int .i64 yi, .int .i64 yp, .int .i64 ys, .int .i64 yd, .string YV, .string YN]), Fact.is (.bool true), Fact.is (.bool true), Fact.is (.bool true), Fact.is (.int .i64 j), Fact.is (.slice A n cap), Fact.is (.int .i64 n), Fact.is (.bool true), Fact.is (.bool true), Fact.is (.bool true), Fact.is (.agg #[.int .i64 yt, .int .i64 yi, .int .i64 yp, .int .i64 ys, .int .i64 yd, .string YV, .string YN]), Fact.own T, Fact.is (.string (str T)), Fact.is (.slice A n cap), Fact.is (.int .i64 j), Fact.is (.slice A j cap), Fact.is (.string (str T)), Fact.is (.bool true), Fact.is (.bool true), Fact.is (.bool true), Fact.is (.bool true), Fact.is (.bool true)]
            (by kernel_rfl) rfl rfl ⟨?s0, ?s1, ?s2, ?s3, ?s4, ?s5, ?s6, ?s7, ?s8, ?s9, ?s10, ?s11, ?s12, ?s13, ?s14, ?s15, ?s16, ?s17, ?s18, ?s19, ?s20, ?s21, ?s22, ?s23, ?s24, ?s25, ?s26, ?s27, ?s28, ?s29, ?s30, ?s31, ?s32, ?s33, ?s34, ?s35, ?s36, ?s37, ?s38, trivial⟩ ?fin
          case s0 =>
            intro ρ W hb hc hf hr
            obtain ⟨r5, -⟩ := hr
            have e5 : ρ (.tmp 5) = .bool true := r5
            clear r5
            refine under_none rfl ?_
            exact ⟨e5, Below.refl _ _⟩
          case s1 =>
            intro ρ W hb hc hf hr
            obtain ⟨r62, -⟩ := hr
            have e62 : ρ (.tmp 62) = .bool true := r62
            clear r62
            refine under_none rfl ?_
            exact ⟨e62, Below.refl _ _⟩
          case s2 =>
            intro ρ W hb hc hf hr
            obtain ⟨r12, r63, -⟩ := hr
            have e12 : ρ (.tmp 12) = .int .i64 0 := r12
            clear r12
            have e63 : ρ (.tmp 63) = .bool true := r63
            clear r63
            refine ⟨63, rfl, .inl ⟨e63, ?_⟩⟩
            exact ⟨e12, Below.refl _ _⟩
          case s3 =>
            intro ρ W hb hc hf hr
            obtain ⟨r64, r63, -⟩ := hr
            have e64 : ρ (.tmp 64) = .int .i64 0 := r64
            clear r64
            have e63 : ρ (.tmp 63) = .bool true := r63
            clear r63
            refine ⟨63, rfl, .inl ⟨e63, ?_⟩⟩
            simp [execOp, e64, hc, go_sem, softUpon, Fact.is, Below.refl]
          case s4 =>
            intro ρ W hb hc hf hr
            obtain ⟨r65, r63, -⟩ := hr
            have e65 : ρ (.tmp 65) = .bool false := r65
            clear r65
            have e63 : ρ (.tmp 63) = .bool true := r63
            clear r63
            refine ⟨63, rfl, .inl ⟨e63, ?_⟩⟩
            exact ⟨e65, Below.refl _ _⟩
          case s5 =>
            intro ρ W hb hc hf hr
            obtain ⟨r10, r66, -⟩ := hr
            have e10 : ρ (.tmp 10) = .pointer (some ⟨NY, 0, none⟩) := r10
            clear r10
            have e66 : ρ (.tmp 66) = .bool false := r66
            clear r66
            exact ⟨66, rfl, .inr (.inl ⟨e66, rfl⟩)⟩
          case s6 =>
            intro ρ W hb hc hf hr
            obtain ⟨r66, -⟩ := hr
            have e66 : ρ (.tmp 66) = .bool false := r66
            clear r66
            exact ⟨66, rfl, .inr (.inl ⟨e66, rfl⟩)⟩
          case s7 =>
            intro ρ W hb hc hf hr
            obtain ⟨r67, r68, r66, -⟩ := hr
            have e67 : ρ (.tmp 67) = undef := r67
            clear r67
            have e68 : ρ (.tmp 68) = undef := r68
            clear r68
            have e66 : ρ (.tmp 66) = .bool false := r66
            clear r66
            exact ⟨66, rfl, .inr (.inl ⟨e66, rfl⟩)⟩
          case s8 =>
            intro ρ W hb hc hf hr
            obtain ⟨r66, r69, r63, -⟩ := hr
            have e66 : ρ (.tmp 66) = .bool false := r66
            clear r66
            have e69 : ρ (.tmp 69) = undef := r69
            clear r69
            have e63 : ρ (.tmp 63) = .bool true := r63
            clear r63
            refine ⟨63, rfl, .inl ⟨e63, ?_⟩⟩
            simp [execOp, e66, hc, go_sem, softUpon, Fact.is, Below.refl]
          case s9 =>
            intro ρ W hb hc hf hr
            obtain ⟨r70, r63, -⟩ := hr
            have e70 : ρ (.tmp 70) = .bool false := r70
            clear r70
            have e63 : ρ (.tmp 63) = .bool true := r63
            clear r63
            refine ⟨63, rfl, .inl ⟨e63, ?_⟩⟩
            exact ⟨e70, Below.refl _ _⟩
          case s10 =>
            intro ρ W hb hc hf hr
            obtain ⟨r11, r71, -⟩ := hr
            have e11 : ρ (.tmp 11) = .int .i64 j := r11
            clear r11
            have e71 : ρ (.tmp 71) = .bool false := r71
            clear r71
            exact ⟨71, rfl, .inr (.inl ⟨e71, rfl⟩)⟩
          case s11 =>
            intro ρ W hb hc hf hr
            obtain ⟨r72, r71, -⟩ := hr
            have e72 : ρ (.tmp 72) = undef := r72
            clear r72
            have e71 : ρ (.tmp 71) = .bool false := r71
            clear r71
            exact ⟨71, rfl, .inr (.inl ⟨e71, rfl⟩)⟩
          case s12 =>
            intro ρ W hb hc hf hr
            obtain ⟨r71, r73, r63, -⟩ := hr
            have e71 : ρ (.tmp 71) = .bool false := r71
            clear r71
            have e73 : ρ (.tmp 73) = undef := r73
            clear r73
            have e63 : ρ (.tmp 63) = .bool true := r63
            clear r63
            refine ⟨63, rfl, .inl ⟨e63, ?_⟩⟩
            simp [execOp, e71, hc, go_sem, softUpon, Fact.is, Below.refl]
          case s13 =>
            intro ρ W hb hc hf hr
            obtain ⟨r74, r63, -⟩ := hr
            have e74 : ρ (.tmp 74) = .bool false := r74
            clear r74
            have e63 : ρ (.tmp 63) = .bool true := r63
            clear r63
            refine ⟨63, rfl, .inl ⟨e63, ?_⟩⟩
            exact ⟨e74, Below.refl _ _⟩
          case s14 =>
            intro ρ W hb hc hf hr
            obtain ⟨r12, r75, -⟩ := hr
            have e12 : ρ (.tmp 12) = .int .i64 0 := r12
            clear r12
            have e75 : ρ (.tmp 75) = .bool false := r75
            clear r75
            refine ⟨75, rfl, .inl ⟨e75, ?_⟩⟩
            exact ⟨e12, Below.refl _ _⟩
          case s15 =>
            intro ρ W hb hc hf hr
            obtain ⟨r76, r75, -⟩ := hr
            have e76 : ρ (.tmp 76) = .int .i64 0 := r76
            clear r76
            have e75 : ρ (.tmp 75) = .bool false := r75
            clear r75
            refine ⟨75, rfl, .inl ⟨e75, ?_⟩⟩
            simp [execOp, e76, hc, go_sem, softUpon, Fact.is, Below.refl]
          case s16 =>
            intro ρ W hb hc hf hr
            obtain ⟨r77, r75, -⟩ := hr
            have e77 : ρ (.tmp 77) = .bool true := r77
            clear r77
            have e75 : ρ (.tmp 75) = .bool false := r75
            clear r75
            refine ⟨75, rfl, .inl ⟨e75, ?_⟩⟩
            exact ⟨e77, Below.refl _ _⟩
          case s17 =>
            intro ρ W hb hc hf hr
            obtain ⟨r10, r78, -⟩ := hr
            have e10 : ρ (.tmp 10) = .pointer (some ⟨NY, 0, none⟩) := r10
            clear r10
            have e78 : ρ (.tmp 78) = .bool true := r78
            clear r78
            refine ⟨78, rfl, .inl ⟨e78, ?_⟩⟩
            exact soft_load e10 (LY.out W (hbd.trans (hb.mono (by simp)))) rfl
          case s18 =>
            intro ρ W hb hc hf hr
            obtain ⟨r79, r78, -⟩ := hr
            have e79 : ρ (.tmp 79) = .agg #[.int .i64 yt, .int .i64 yi, .int .i64 yp, .int .i64 ys, .int .i64 yd, .string YV, .string YN] := r79
            clear r79
            have e78 : ρ (.tmp 78) = .bool true := r78
            clear r78
            refine ⟨78, rfl, .inl ⟨e78, ?_⟩⟩
            exact soft_call1 hf e79 (HRY.out W) rfl (by kernel_rfl) below_is
          case s19 =>
            intro ρ W hb hc hf hr
            obtain ⟨r78, r80, r75, -⟩ := hr
            have e78 : ρ (.tmp 78) = .bool true := r78
            clear r78
            have e80 : ρ (.tmp 80) = .bool true := r80
            clear r80
            have e75 : ρ (.tmp 75) = .bool false := r75
            clear r75
            refine ⟨75, rfl, .inl ⟨e75, ?_⟩⟩
            simp [execOp, e78, e80, hc, go_sem, softUpon, Fact.is, Below.refl]
          case s20 =>
            intro ρ W hb hc hf hr
            obtain ⟨r81, r75, -⟩ := hr
            have e81 : ρ (.tmp 81) = .bool true := r81
            clear r81
            have e75 : ρ (.tmp 75) = .bool false := r75
            clear r75
            refine ⟨75, rfl, .inl ⟨e75, ?_⟩⟩
            exact ⟨e81, Below.refl _ _⟩
          case s21 =>
            intro ρ W hb hc hf hr
            obtain ⟨r11, r82, -⟩ := hr
            have e11 : ρ (.tmp 11) = .int .i64 j := r11
            clear r11
            have e82 : ρ (.tmp 82) = .bool true := r82
            clear r82
            refine ⟨82, rfl, .inl ⟨e82, ?_⟩⟩
            exact ⟨e11, Below.refl _ _⟩
          case s22 =>
            intro ρ W hb hc hf hr
            obtain ⟨r1, r82, -⟩ := hr
            have e1 : ρ (.tmp 1) = .slice A n cap := r1
            clear r1
            have e82 : ρ (.tmp 82) = .bool true := r82
            clear r82
            refine ⟨82, rfl, .inl ⟨e82, ?_⟩⟩
            exact ⟨e1, Below.refl _ _⟩
          case s23 =>
            intro ρ W hb hc hf hr
            obtain ⟨r84, r82, -⟩ := hr
            have e84 : ρ (.tmp 84) = .slice A n cap := r84
            clear r84
            have e82 : ρ (.tmp 82) = .bool true := r82
            clear r82
            refine ⟨82, rfl, .inl ⟨e82, ?_⟩⟩
            simp [e84, go_sem, softUpon, Fact.is, Below.refl]
          case s24 =>
            intro ρ W hb hc hf hr
            obtain ⟨r83, r85, r82, -⟩ := hr
            have e83 : ρ (.tmp 83) = .int .i64 j := r83
            clear r83
            have e85 : ρ (.tmp 85) = .int .i64 n := r85
            clear r85
            have e82 : ρ (.tmp 82) = .bool true := r82
            clear r82
            refine ⟨82, rfl, .inl ⟨e82, ?_⟩⟩
            exact soft_bin e83 e85 rfl rfl (LE.out W)
          case s25 =>
            intro ρ W hb hc hf hr
            obtain ⟨r82, r86, r75, -⟩ := hr
            have e82 : ρ (.tmp 82) = .bool true := r82
            clear r82
            have e86 : ρ (.tmp 86) = .bool true := r86
            clear r86
            have e75 : ρ (.tmp 75) = .bool false := r75
            clear r75
            refine ⟨75, rfl, .inl ⟨e75, ?_⟩⟩
            simp [execOp, e82, e86, hc, go_sem, softUpon, Fact.is, Below.refl]
          case s26 =>
            intro ρ W hb hc hf hr
            obtain ⟨r87, r75, -⟩ := hr
            have e87 : ρ (.tmp 87) = .bool true := r87
            clear r87
            have e75 : ρ (.tmp 75) = .bool false := r75
            clear r75
            refine ⟨75, rfl, .inl ⟨e75, ?_⟩⟩
            exact ⟨e87, Below.refl _ _⟩
          case s27 =>
            intro ρ W hb hc hf hr
            obtain ⟨r10, r88, -⟩ := hr
            have e10 : ρ (.tmp 10) = .pointer (some ⟨NY, 0, none⟩) := r10
            clear r10
            have e88 : ρ (.tmp 88) = .bool true := r88
            clear r88
            refine ⟨88, rfl, .inl ⟨e88, ?_⟩⟩
            exact soft_load e10 (LY.out W (hbd.trans (hb.mono (by simp)))) rfl
          case s28 =>
            intro ρ W hb hc hf hr
            obtain ⟨r89, r88, -⟩ := hr
            have e89 : ρ (.tmp 89) = .agg #[.int .i64 yt, .int .i64 yi, .int .i64 yp, .int .i64 ys, .int .i64 yd, .string YV, .string YN] := r89
            clear r89
            have e88 : ρ (.tmp 88) = .bool true := r88
            clear r88
            refine ⟨88, rfl, .inl ⟨e88, ?_⟩⟩
            exact soft_call2 hf (hc _) e89 (HPY.out W) rfl (by kernel_rfl) made_own
          case s29 =>
            intro ρ W hb hc hf hr
            obtain ⟨r90, r88, -⟩ := hr
            have e88 : ρ (.tmp 88) = .bool true := r88
            clear r88
            refine ⟨88, rfl, .inl ⟨e88, ?_⟩⟩
            exact soft_own r90 rfl
          case s30 =>
            intro ρ W hb hc hf hr
            obtain ⟨r1, r88, -⟩ := hr
            have e1 : ρ (.tmp 1) = .slice A n cap := r1
            clear r1
            have e88 : ρ (.tmp 88) = .bool true := r88
            clear r88
            refine ⟨88, rfl, .inl ⟨e88, ?_⟩⟩
            exact ⟨e1, Below.refl _ _⟩
          case s31 =>
            intro ρ W hb hc hf hr
            obtain ⟨r11, r88, -⟩ := hr
            have e11 : ρ (.tmp 11) = .int .i64 j := r11
            clear r11
            have e88 : ρ (.tmp 88) = .bool true := r88
            clear r88
            refine ⟨88, rfl, .inl ⟨e88, ?_⟩⟩
            exact ⟨e11, Below.refl _ _⟩
          case s32 =>
            intro ρ W hb hc hf hr
            obtain ⟨r92, r93, r88, -⟩ := hr
            have e92 : ρ (.tmp 92) = .slice A n cap := r92
            clear r92
            have e93 : ρ (.tmp 93) = .int .i64 j := r93
            clear r93
            have e88 : ρ (.tmp 88) = .bool true := r88
            clear r88
            refine ⟨88, rfl, .inl ⟨e88, ?_⟩⟩
            exact soft_slice e92 e93 (SL.out W) rfl
          case s33 =>
            intro ρ W hb hc hf hr
            obtain ⟨r94, r88, -⟩ := hr
            have e94 : ρ (.tmp 94) = .slice A j cap := r94
            clear r94
            have e88 : ρ (.tmp 88) = .bool true := r88
            clear r88
            refine ⟨88, rfl, .inl ⟨e88, ?_⟩⟩
            exact soft_conv e94 (CV.out W (hbd.trans (hb.mono (by simp)))) rfl
          case s34 =>
            intro ρ W hb hc hf hr
            obtain ⟨r91, r95, r88, -⟩ := hr
            have e91 : ρ (.tmp 91) = .string (str T) := r91
            clear r91
            have e95 : ρ (.tmp 95) = .string (str T) := r95
            clear r95
            have e88 : ρ (.tmp 88) = .bool true := r88
            clear r88
            refine ⟨88, rfl, .inl ⟨e88, ?_⟩⟩
            exact soft_bin e91 e95 rfl rfl (EQT.out W)
          case s35 =>
            intro ρ W hb hc hf hr
            obtain ⟨r88, r96, r75, -⟩ := hr
            have e88 : ρ (.tmp 88) = .bool true := r88
            clear r88
            have e96 : ρ (.tmp 96) = .bool true := r96
            clear r96
            have e75 : ρ (.tmp 75) = .bool false := r75
            clear r75
            refine ⟨75, rfl, .inl ⟨e75, ?_⟩⟩
            simp [execOp, e88, e96, hc, go_sem, softUpon, Fact.is, Below.refl]
          case s36 =>
            intro ρ W hb hc hf hr
            obtain ⟨r75, r97, r63, -⟩ := hr
            have e75 : ρ (.tmp 75) = .bool false := r75
            clear r75
            have e97 : ρ (.tmp 97) = .bool true := r97
            clear r97
            have e63 : ρ (.tmp 63) = .bool true := r63
            clear r63
            refine ⟨63, rfl, .inl ⟨e63, ?_⟩⟩
            simp [execOp, e75, e97, hc, go_sem, softUpon, Fact.is, Below.refl]
          case s37 =>
            intro ρ W hb hc hf hr
            obtain ⟨r63, r98, -⟩ := hr
            have e63 : ρ (.tmp 63) = .bool true := r63
            clear r63
            have e98 : ρ (.tmp 98) = .bool true := r98
            clear r98
            refine under_none rfl ?_
            simp [execOp, e63, e98, hc, go_sem, softUpon, Fact.is, Below.refl]
          case s38 =>
            intro ρ W hb hc hf hr
            obtain ⟨r99, -⟩ := hr
            have e99 : ρ (.tmp 99) = .bool true := r99
            clear r99
            refine under_none rfl ?_
            exact ⟨e99, Below.refl _ _⟩
          case fin =>
            intro a u4 hb hd hk
            have h4 : a.tmps.getD 4 undef = .bool true := hk 4
            clear hk
            have c8 : Below V.heap.size V u4 := cu3.trans ((hbd.trans (hb.mono (by simp))).mono cu3.size)
            go_wp2
            refine bodyPost_ret (results_tmp rfl _ _ _) hd ?_
            exact ⟨by rw [h4], HV.out _ c8⟩

set_option maxRecDepth 100000 in
theorem lifted (os : Os) (started : os.Started) (H : Type) (enc : TypeId × Value → H) :
    ReturnsInHanded {} Tryd.checked os 4 .any (fun w args => (Rows.spanBackSpec.pre enc Tryd.prog Tryd.f4 [] false w args ∧ laidMetH Tryd.prog laidHere w) ∧ sizedMet enc Tryd.prog Tryd.f4 (OpenSpec.ofChange Rows.spanBackSpec) false w args) (Rows.spanBackSpec.post enc Tryd.prog Tryd.f4 false true false false) := by
  refine returnsInHanded_of_change_and (C := Tryd.checked) (X := fun w _ => laidMetH Tryd.prog laidHere w) (fun _ _ _ hh h => h.of_heap hh) own started (by kernel_rfl) Tryd.func4
    (ChangeSpec.witness_at (enc := enc) (C := Tryd.checked) (os := os) (X := fun w _ => laidMetH Tryd.prog laidHere w) false (laidWorld os) #[.agg #[.int .i64 0, .int .i64 0, .int .i64 0, .int .i64 0, .int .i64 0, .string .empty, .string .empty], .slice none 0 0] 8 rfl (by kernel_rfl) (by kernel_rfl) (by kernel_rfl) (by kernel_rfl) (by kernel_rfl) (laidWorld_met os _)) ?_
  intro W base args ds gs before hval0 hW _ _ hL _
  have hval : ∀ (j : Nat) t v, Tryd.f4.params[j]? = some t → args[j]? = some v → Value.okWide Tryd.prog W .any base t v := hval0
  have hfin := fun W' => law_post (enc := enc) (P := Tryd.prog) (f := Tryd.f4) (s := Rows.spanBackSpec) (tb := 4) (W := W) (W' := W') (args := args) (ds := ds) (gs := gs) (before := before) laidOut rfl (by kernel_rfl) Tryd.underlying4 (by kernel_rfl) (fun xs h => by rw [Tryd.params4] at h; match xs, h with | [_, _], _ => rfl) hW
  have hlt : ∀ x ∈ before, x.block < W.heap.size := fun x hx => hW.lt x hx
  obtain ⟨p, q, hA0, hV, rfl, hfz, hnd⟩ := hW
  have hA : DataW.TrodAll enc Tryd.prog W 0 (fun _ => true) true Tryd.f4.params.toList args.toList ds p := hA0
  rw [Tryd.params4] at hA hval
  obtain ⟨v0, vs0, d0, ds0, p0, q0, hargs, rfl, rfl, h0, r0⟩ := trodAll_cons hA
  obtain ⟨v1, vs1, d1, ds1, p1, q1, rfl, rfl, rfl, h1, r1⟩ := trodAll_cons r0
  obtain ⟨rfl, rfl, rfl⟩ := trodAll_nil r1
  obtain rfl : args = #[v0, v1] := by cases args; simp_all
  obtain ⟨x0, rfl, hs0, hn0⟩ := open_span (hval 0 23 v0 rfl rfl) h0
  obtain ⟨A1, cap1, b1, rfl, hl1, hm1, hB1⟩ := open_bytes (hval 1 24 v1 rfl rfl) h1 (fun x hx => hlt x (by simp [hx]))
  refine (walk W (of_laid hL) x0 hs0 hn0 A1 cap1 b1 hl1 hm1 hB1).mono fun e W' ⟨he, hg⟩ => ?_
  subst he
  exact ⟨_, rfl, hfin W' hg⟩

theorem proved : Rows.SpanBackSaid :=
  OpenClaim.holds_of_wide 4 Tryd.f4 rfl rfl rfl rfl rfl rfl rfl ⟨rfl, rfl, rfl, rfl, rfl⟩ rfl rfl rfl rfl rfl (by kernel_rfl) Tryd.func4 (by kernel_rfl)
    (of_decide_eq_true (by kernel_rfl)) (by unfold Func.isWrapper; first | (rw [if_pos (by decide +kernel)]; kernel_rfl) | (rw [if_neg (by decide +kernel)]; exact ⟨rfl, rfl⟩))
    (fun os started H enc _ => lifted os started H enc)

set_option maxRecDepth 100000 in
theorem card : Rows.SpanBackCardSaid :=
  Claim7.holds_tied_plain_at .later [] laidKindsHere true _ true
    proved (fun _ h => by cases h) (by kernel_rfl) (fun _ h => by cases h) spanBack_row_tie rfl ⟨rfl, rfl⟩ (by kernel_rfl) rfl
    (fun f fn hf hfn => by
      obtain rfl : f = 4 := Option.some.inj ((show Tryd.prog.funcNamed "turntable/turntablelaw03.SpanBack" = some 4 by kernel_rfl).symm.trans hf) |>.symm
      obtain rfl : fn = Tryd.f4 := (Option.some.inj (Tryd.func4.symm.trans hfn)).symm
      exact ⟨by kernel_rfl, fun j t ht => by
        rw [Tryd.params4] at ht
        have hm : t ∈ [23, 24] := by simpa using Array.mem_of_getElem? ht
        have hall : ([23, 24].all fun u => !Tryd.prog.wantsStandIn u) = true := by kernel_rfl
        exact (show Tryd.prog.wantsStandIn t = false by simpa using List.all_eq_true.1 hall t hm)⟩)
    (by kernel_rfl)
#print axioms card
end Go.Proofs.YtiipcnldedjkdaaDoor.spanBack
