/-
  P1.2, VintBack: for every number and all bytes the law returns true: a number is got of its bytes, whatever is behind them; what any bytes begin with has just these. No condition.
-/
import Derived.Test.YtldophaccbakoaaHead1
import Derived.Test.YtldophaccbakoaaClose
import Derived.Test.YtldophaccbakoaaVUse
import Derived.Test.YtldophaccbakoaaVApp
import Derived.Test.YtldophaccbakoaaSoftV
import Derived.Deep.QuietTactic
import Derived.BigQuiet
namespace Go.Proofs.Ytldophaccbakoaa.vintBack
open Go.ChangeShapes Go.WideShapes Go.ChangeAt Go.RowKit

set_option maxHeartbeats 1000000 in
set_option maxRecDepth 100000 in
theorem walk (w : World) (a : Int) (ha : 0 ≤ a ∧ a ≤ 18446744073709551615) (A : Option Addr) (cap : Nat) (bs : List UInt8) (hl : bs.length ≤ cap) (hm : cap ≤ maxLen) (hA : Lies w A (cells bs)) :
    Calls Try.prog 5 #[.int .u64 a, .slice A bs.length cap] w fun e w' => e = .returned (.bool true) ∧ Below w.heap.size w w' := by
  obtain ⟨a0, a1⟩ := ha
  obtain ⟨i0, hi, hz0, hz1, hz2⟩ := info_parts infoU8
  have hM := Lib.hid hm
  unfold maxLen at hm
  by_cases h9 : 9000 < bs.length
  · go_enter Try.func5, Try.ntmps5
    go_wp2_with fail
    refine (head_any _).mono ?_
    rintro e w1 ⟨rfl, hb1⟩
    go_wp2
    go_ret
    exact ⟨rfl, hb1⟩
  · go_enter Try.func5, Try.ntmps5
    go_wp2_with fail
    refine (head_any _).mono ?_
    rintro e w1 ⟨rfl, hb1⟩
    go_wp2_with fail
    have x0 : 0 ≤ a % 281474976710657 := by omega
    have x1 : a % 281474976710657 ≤ 281474976710656 := by omega
    generalize a % 281474976710657 = X at *
    clear a0 a1
    obtain ⟨x, rfl⟩ := Int.eq_ofNat_of_zero_le x0
    refine (put_yes none 0 [] x _ (by simp) (by omega) Lies.nil).mono ?_
    rintro e w2 ⟨v, rfl, hown, hb2⟩
    rw [List.nil_append, Plain.enc_length] at hown
    obtain ⟨A1, cap1, rfl, hnc, hcm, -, hA1⟩ := own_form hown
    clear hown
    have hA2 := (hA.below hb1).below hb2
    have hn0 := Plain.sz_pos x
    have hn7 := Plain.sz_le x
    have HEL := Lib.hid (Plain.enc_length (Plain.sz x) x)
    have HP := Lib.hid (Plain.get_put x (by omega) bs)
    have HS := Lib.hid (fun W => size_yes x W (by omega))
    clear x0 x1
    generalize Plain.enc (Plain.sz x) x = E at *
    generalize Plain.sz x = n at *
    go_wp2_with (at_builtin; refine wpList_app rfl _ _ 22 rfl w2.heap.size 5 i0 (.int .u8 0) Try.underlying22 hi hz0 hz1 hz2 rfl (.slice (some ⟨w2.heap.size, 0, none⟩) 0 0) 0 [] rfl ?a1 A1 n cap1 (cells E) rfl ?a2 ?a3 (cells_one E) ?a4 ?a5 ?a6)
    case a1 => exact World.ownsRow_lit w2 #[] 0 (Nat.le_refl _) (by unfold maxLen; omega) rfl
    case a2 => rw [cells_length, HEL.out]
    case a3 => exact hA1.keep (by simp) fun p hp => World.cell?_alloc_lt w2 _ p hp
    case a4 => omega
    case a5 => simp
    case a6 =>
      intro v1 w3 hown1 hg1 hat1
      have hb3 : Below w2.heap.size w2 w3 := ((Below.refl _ _).alloc (Nat.le_refl _) _).grown hg1 (by simp) (fun g hg => by simp [Value.ownBlock] at hg; omega)
      have HO1 := Lib.hid hown1
      clear hown1 hg1 hat1
      have hA3 := hA2.below hb3
      go_wp2_with (at_builtin; refine wpList_app rfl _ _ 22 rfl w2.heap.size 5 i0 (.int .u8 0) Try.underlying22 hi hz0 hz1 hz2 rfl v1 n (cells E) rfl ?b1 A bs.length cap (cells bs) rfl ?b2 ?b3 (cells_one bs) ?b4 ?b5 ?b6)
      case b1 => exact HO1.out
      case b2 => exact cells_length bs
      case b3 => exact hA3
      case b4 => omega
      case b5 => exact hb3.size
      case b6 =>
        intro v2 w4 hown2 hg2 hat2
        have hb4 : Below w2.heap.size w2 w4 := hb3.grown hg2 hb3.size (fun g hg => (HO1.out.lt g hg).1)
        rw [← cells_append] at hown2
        obtain ⟨A4, cap4, rfl, hnc4, hcm4, hl4, hA4⟩ := own_form hown2
        clear hown2 hg2 hat2
        have HL4 := Lib.hid hl4
        clear hl4
        go_wp2_with fail
        refine (get_is A4 (n + bs.length) cap4 (E ++ bs) _ x n 0 (by have := HL4.out; rwa [cells_length] at this) (by unfold maxLen; omega) hA4 (by rw [HP.out]) (by rw [HP.out]) (by rw [HP.out]; rfl)).mono ?_
        rintro e w5 ⟨rfl, hb5⟩
        go_wp2_with fail
        refine (HS.out _).mono ?_
        rintro e w' ⟨rfl, rfl⟩
        have hA5 := (hA2.below hb4).below hb5
        have hbl : bs.length ≤ maxLen := by unfold maxLen; omega
        have hb5w : Below w.heap.size w w5 := by
          have s1 := hb1.size; have s2 := hb2.size; have s4 := hb4.size
          exact hb1.trans ((hb2.mono (by omega)).trans ((hb4.mono (by omega)).trans (hb5.mono (by omega))))
        clear hA hA1 hA2 hA3 hA4 hb1 hb2 hb3 hb4 hb5 HP HS HO1 HL4 HEL
        rcases Plain.get_err bs with h | h | h
        · have hk := Plain.get_back bs (Plain.get bs).1 (Plain.get bs).2.1 (by rw [← h])
          have HG := Lib.hid (show Plain.get bs = ((Plain.get bs).1, (Plain.get bs).2.1, 0) by rw [← h])
          clear h
          generalize (Plain.get bs).1 = y at *
          generalize (Plain.get bs).2.1 = j at *
          obtain ⟨hy, -, hj, ht⟩ := hk
          have HT := Lib.hid ht
          clear ht
          go_wp2_with fail
          refine (get_is A bs.length cap bs _ y j 0 rfl hbl hA5 (by rw [HG.out]) (by rw [HG.out]) (by rw [HG.out]; rfl)).mono ?_
          rintro e w6 ⟨rfl, hb6⟩
          have hA6 := hA5.below hb6
          have hput := fun W : World => (put_yes none 0 [] y W (by simp) hy Lies.nil)
          rw [List.nil_append, ← HT.out] at hput
          have HPUT := Lib.hid hput
          have HCV := Lib.hid (fun W (h : Lies W A (cells bs)) => conv_take h j cap hj)
          generalize bs.take j = T at *
          have hA6d : Lies w6.drew A (cells bs) := hA6.drew1
          have hbd : Below w.heap.size w w6.drew := (hb5w.trans (hb6.mono hb5w.size)).drew
          have hslice : ∀ W : World, (Instr.sliceAt 22 (.slice A bs.length cap) none (some (.int .i64 (j : Int))) none).run Try.prog W = .ok (.slice A j cap) W := by
            intro W
            have hjc : j ≤ cap := by omega
            go_simp
          clear hput hy
          go_wp2
          refine wp_soft (by kernel_rfl) 92 [(59, [5]), (60, [59]), (61, [13, 60]), (62, [61, 60]), (63, [62, 60]), (64, [11, 63]), (65, [64, 63]), (66, [63, 65, 60]), (67, [66, 60]), (68, [12, 67]), (69, [68, 67]), (70, [67, 69, 60]), (71, [70, 60]), (72, [13, 71]), (73, [72, 71]), (74, [73, 71]), (75, [12, 74]), (76, [1, 74]), (77, [76, 74]), (78, [75, 77, 74]), (79, [74, 78, 71]), (80, [79, 71]), (81, [11, 80]), (82, [81, 80]), (83, [82, 80]), (84, [1, 80]), (85, [12, 80]), (86, [84, 85, 80]), (87, [86, 80]), (88, [83, 87, 80]), (89, [80, 88, 71]), (90, [71, 89, 60]), (91, [60, 90]), (4, [91])]
            [Fact.is (.bool true), Fact.is (.bool true), Fact.is (.int .i64 0), Fact.is (.bool false), Fact.is (.bool false), Fact.is (undef), Fact.is (undef), Fact.is (.bool false), Fact.is (.bool false), Fact.is (undef), Fact.is (undef), Fact.is (.bool false), Fact.is (.bool false), Fact.is (.int .i64 0), Fact.is (.bool true), Fact.is (.bool true), Fact.is (.int .i64 j), Fact.is (.slice A bs.length cap), Fact.is (.int .i64 bs.length), Fact.is (.bool true), Fact.is (.bool true), Fact.is (.bool true), Fact.is (.int .i64 y), Fact.own T, Fact.is (.string (str T)), Fact.is (.slice A bs.length cap), Fact.is (.int .i64 j), Fact.is (.slice A j cap), Fact.is (.string (str T)), Fact.is (.bool true), Fact.is (.bool true), Fact.is (.bool true), Fact.is (.bool true), Fact.is (.bool true)]
            (by kernel_rfl) rfl rfl ⟨?s0, ?s1, ?s2, ?s3, ?s4, ?s5, ?s6, ?s7, ?s8, ?s9, ?s10, ?s11, ?s12, ?s13, ?s14, ?s15, ?s16, ?s17, ?s18, ?s19, ?s20, ?s21, ?s22, ?s23, ?s24, ?s25, ?s26, ?s27, ?s28, ?s29, ?s30, ?s31, ?s32, ?s33, trivial⟩ ?fin
          case s0 =>
            intro ρ W hb hc hf hr
            obtain ⟨r5, -⟩ := hr
            have e5 : ρ (.tmp 5) = .bool true := r5
            clear r5
            refine under_none rfl ?_
            exact ⟨e5, Below.refl _ _⟩
          case s1 =>
            intro ρ W hb hc hf hr
            obtain ⟨r59, -⟩ := hr
            have e59 : ρ (.tmp 59) = .bool true := r59
            clear r59
            refine under_none rfl ?_
            exact ⟨e59, Below.refl _ _⟩
          case s2 =>
            intro ρ W hb hc hf hr
            obtain ⟨r13, r60, -⟩ := hr
            have e13 : ρ (.tmp 13) = .int .i64 0 := r13
            clear r13
            have e60 : ρ (.tmp 60) = .bool true := r60
            clear r60
            refine ⟨60, rfl, .inl ⟨e60, ?_⟩⟩
            exact ⟨e13, Below.refl _ _⟩
          case s3 =>
            intro ρ W hb hc hf hr
            obtain ⟨r61, r60, -⟩ := hr
            have e61 : ρ (.tmp 61) = .int .i64 0 := r61
            clear r61
            have e60 : ρ (.tmp 60) = .bool true := r60
            clear r60
            refine ⟨60, rfl, .inl ⟨e60, ?_⟩⟩
            simp [execOp, e61, hc, go_sem, softUpon, Fact.is, Below.refl]
          case s4 =>
            intro ρ W hb hc hf hr
            obtain ⟨r62, r60, -⟩ := hr
            have e62 : ρ (.tmp 62) = .bool false := r62
            clear r62
            have e60 : ρ (.tmp 60) = .bool true := r60
            clear r60
            refine ⟨60, rfl, .inl ⟨e60, ?_⟩⟩
            exact ⟨e62, Below.refl _ _⟩
          case s5 =>
            intro ρ W hb hc hf hr
            obtain ⟨r11, r63, -⟩ := hr
            have e11 : ρ (.tmp 11) = .int .i64 y := r11
            clear r11
            have e63 : ρ (.tmp 63) = .bool false := r63
            clear r63
            exact ⟨63, rfl, .inr ⟨e63, rfl⟩⟩
          case s6 =>
            intro ρ W hb hc hf hr
            obtain ⟨r64, r63, -⟩ := hr
            have e64 : ρ (.tmp 64) = undef := r64
            clear r64
            have e63 : ρ (.tmp 63) = .bool false := r63
            clear r63
            exact ⟨63, rfl, .inr ⟨e63, rfl⟩⟩
          case s7 =>
            intro ρ W hb hc hf hr
            obtain ⟨r63, r65, r60, -⟩ := hr
            have e63 : ρ (.tmp 63) = .bool false := r63
            clear r63
            have e65 : ρ (.tmp 65) = undef := r65
            clear r65
            have e60 : ρ (.tmp 60) = .bool true := r60
            clear r60
            refine ⟨60, rfl, .inl ⟨e60, ?_⟩⟩
            simp [execOp, e63, hc, go_sem, softUpon, Fact.is, Below.refl]
          case s8 =>
            intro ρ W hb hc hf hr
            obtain ⟨r66, r60, -⟩ := hr
            have e66 : ρ (.tmp 66) = .bool false := r66
            clear r66
            have e60 : ρ (.tmp 60) = .bool true := r60
            clear r60
            refine ⟨60, rfl, .inl ⟨e60, ?_⟩⟩
            exact ⟨e66, Below.refl _ _⟩
          case s9 =>
            intro ρ W hb hc hf hr
            obtain ⟨r12, r67, -⟩ := hr
            have e12 : ρ (.tmp 12) = .int .i64 j := r12
            clear r12
            have e67 : ρ (.tmp 67) = .bool false := r67
            clear r67
            exact ⟨67, rfl, .inr ⟨e67, rfl⟩⟩
          case s10 =>
            intro ρ W hb hc hf hr
            obtain ⟨r68, r67, -⟩ := hr
            have e68 : ρ (.tmp 68) = undef := r68
            clear r68
            have e67 : ρ (.tmp 67) = .bool false := r67
            clear r67
            exact ⟨67, rfl, .inr ⟨e67, rfl⟩⟩
          case s11 =>
            intro ρ W hb hc hf hr
            obtain ⟨r67, r69, r60, -⟩ := hr
            have e67 : ρ (.tmp 67) = .bool false := r67
            clear r67
            have e69 : ρ (.tmp 69) = undef := r69
            clear r69
            have e60 : ρ (.tmp 60) = .bool true := r60
            clear r60
            refine ⟨60, rfl, .inl ⟨e60, ?_⟩⟩
            simp [execOp, e67, hc, go_sem, softUpon, Fact.is, Below.refl]
          case s12 =>
            intro ρ W hb hc hf hr
            obtain ⟨r70, r60, -⟩ := hr
            have e70 : ρ (.tmp 70) = .bool false := r70
            clear r70
            have e60 : ρ (.tmp 60) = .bool true := r60
            clear r60
            refine ⟨60, rfl, .inl ⟨e60, ?_⟩⟩
            exact ⟨e70, Below.refl _ _⟩
          case s13 =>
            intro ρ W hb hc hf hr
            obtain ⟨r13, r71, -⟩ := hr
            have e13 : ρ (.tmp 13) = .int .i64 0 := r13
            clear r13
            have e71 : ρ (.tmp 71) = .bool false := r71
            clear r71
            refine ⟨71, rfl, .inl ⟨e71, ?_⟩⟩
            exact ⟨e13, Below.refl _ _⟩
          case s14 =>
            intro ρ W hb hc hf hr
            obtain ⟨r72, r71, -⟩ := hr
            have e72 : ρ (.tmp 72) = .int .i64 0 := r72
            clear r72
            have e71 : ρ (.tmp 71) = .bool false := r71
            clear r71
            refine ⟨71, rfl, .inl ⟨e71, ?_⟩⟩
            simp [execOp, e72, hc, go_sem, softUpon, Fact.is, Below.refl]
          case s15 =>
            intro ρ W hb hc hf hr
            obtain ⟨r73, r71, -⟩ := hr
            have e73 : ρ (.tmp 73) = .bool true := r73
            clear r73
            have e71 : ρ (.tmp 71) = .bool false := r71
            clear r71
            refine ⟨71, rfl, .inl ⟨e71, ?_⟩⟩
            exact ⟨e73, Below.refl _ _⟩
          case s16 =>
            intro ρ W hb hc hf hr
            obtain ⟨r12, r74, -⟩ := hr
            have e12 : ρ (.tmp 12) = .int .i64 j := r12
            clear r12
            have e74 : ρ (.tmp 74) = .bool true := r74
            clear r74
            refine ⟨74, rfl, .inl ⟨e74, ?_⟩⟩
            exact ⟨e12, Below.refl _ _⟩
          case s17 =>
            intro ρ W hb hc hf hr
            obtain ⟨r1, r74, -⟩ := hr
            have e1 : ρ (.tmp 1) = .slice A bs.length cap := r1
            clear r1
            have e74 : ρ (.tmp 74) = .bool true := r74
            clear r74
            refine ⟨74, rfl, .inl ⟨e74, ?_⟩⟩
            exact ⟨e1, Below.refl _ _⟩
          case s18 =>
            intro ρ W hb hc hf hr
            obtain ⟨r76, r74, -⟩ := hr
            have e76 : ρ (.tmp 76) = .slice A bs.length cap := r76
            clear r76
            have e74 : ρ (.tmp 74) = .bool true := r74
            clear r74
            refine ⟨74, rfl, .inl ⟨e74, ?_⟩⟩
            simp [e76, go_sem, softUpon, Fact.is, Below.refl]
          case s19 =>
            intro ρ W hb hc hf hr
            obtain ⟨r75, r77, r74, -⟩ := hr
            have e75 : ρ (.tmp 75) = .int .i64 j := r75
            clear r75
            have e77 : ρ (.tmp 77) = .int .i64 bs.length := r77
            clear r77
            have e74 : ρ (.tmp 74) = .bool true := r74
            clear r74
            refine ⟨74, rfl, .inl ⟨e74, ?_⟩⟩
            simp [execOp, e75, e77, go_sem, softUpon, Fact.is, Below.refl, hj]
          case s20 =>
            intro ρ W hb hc hf hr
            obtain ⟨r74, r78, r71, -⟩ := hr
            have e74 : ρ (.tmp 74) = .bool true := r74
            clear r74
            have e78 : ρ (.tmp 78) = .bool true := r78
            clear r78
            have e71 : ρ (.tmp 71) = .bool false := r71
            clear r71
            refine ⟨71, rfl, .inl ⟨e71, ?_⟩⟩
            simp [execOp, e74, e78, go_sem, softUpon, Fact.is, Below.refl]
          case s21 =>
            intro ρ W hb hc hf hr
            obtain ⟨r79, r71, -⟩ := hr
            have e79 : ρ (.tmp 79) = .bool true := r79
            clear r79
            have e71 : ρ (.tmp 71) = .bool false := r71
            clear r71
            refine ⟨71, rfl, .inl ⟨e71, ?_⟩⟩
            exact ⟨e79, Below.refl _ _⟩
          case s22 =>
            intro ρ W hb hc hf hr
            obtain ⟨r11, r80, -⟩ := hr
            have e11 : ρ (.tmp 11) = .int .i64 y := r11
            clear r11
            have e80 : ρ (.tmp 80) = .bool true := r80
            clear r80
            refine ⟨80, rfl, .inl ⟨e80, ?_⟩⟩
            exact ⟨e11, Below.refl _ _⟩
          case s23 =>
            intro ρ W hb hc hf hr
            obtain ⟨r81, r80, -⟩ := hr
            have e81 : ρ (.tmp 81) = .int .i64 y := r81
            clear r81
            have e80 : ρ (.tmp 80) = .bool true := r80
            clear r80
            refine ⟨80, rfl, .inl ⟨e80, ?_⟩⟩
            exact soft_call2 hf (hc _) e81 (HPUT.out W) rfl (by kernel_rfl) made_own
          case s24 =>
            intro ρ W hb hc hf hr
            obtain ⟨r82, r80, -⟩ := hr
            have e80 : ρ (.tmp 80) = .bool true := r80
            clear r80
            refine ⟨80, rfl, .inl ⟨e80, ?_⟩⟩
            exact soft_own r82 rfl
          case s25 =>
            intro ρ W hb hc hf hr
            obtain ⟨r1, r80, -⟩ := hr
            have e1 : ρ (.tmp 1) = .slice A bs.length cap := r1
            clear r1
            have e80 : ρ (.tmp 80) = .bool true := r80
            clear r80
            refine ⟨80, rfl, .inl ⟨e80, ?_⟩⟩
            exact ⟨e1, Below.refl _ _⟩
          case s26 =>
            intro ρ W hb hc hf hr
            obtain ⟨r12, r80, -⟩ := hr
            have e12 : ρ (.tmp 12) = .int .i64 j := r12
            clear r12
            have e80 : ρ (.tmp 80) = .bool true := r80
            clear r80
            refine ⟨80, rfl, .inl ⟨e80, ?_⟩⟩
            exact ⟨e12, Below.refl _ _⟩
          case s27 =>
            intro ρ W hb hc hf hr
            obtain ⟨r84, r85, r80, -⟩ := hr
            have e84 : ρ (.tmp 84) = .slice A bs.length cap := r84
            clear r84
            have e85 : ρ (.tmp 85) = .int .i64 j := r85
            clear r85
            have e80 : ρ (.tmp 80) = .bool true := r80
            clear r80
            refine ⟨80, rfl, .inl ⟨e80, ?_⟩⟩
            exact soft_slice e84 e85 (hslice W) rfl
          case s28 =>
            intro ρ W hb hc hf hr
            obtain ⟨r86, r80, -⟩ := hr
            have e86 : ρ (.tmp 86) = .slice A j cap := r86
            clear r86
            have e80 : ρ (.tmp 80) = .bool true := r80
            clear r80
            refine ⟨80, rfl, .inl ⟨e80, ?_⟩⟩
            exact soft_conv e86 (HCV.out W (hA6d.below hb)) rfl
          case s29 =>
            intro ρ W hb hc hf hr
            obtain ⟨r83, r87, r80, -⟩ := hr
            have e83 : ρ (.tmp 83) = .string (str T) := r83
            clear r83
            have e87 : ρ (.tmp 87) = .string (str T) := r87
            clear r87
            have e80 : ρ (.tmp 80) = .bool true := r80
            clear r80
            refine ⟨80, rfl, .inl ⟨e80, ?_⟩⟩
            simp [execOp, e83, e87, go_sem, softUpon, Fact.is, Below.refl]
          case s30 =>
            intro ρ W hb hc hf hr
            obtain ⟨r80, r88, r71, -⟩ := hr
            have e80 : ρ (.tmp 80) = .bool true := r80
            clear r80
            have e88 : ρ (.tmp 88) = .bool true := r88
            clear r88
            have e71 : ρ (.tmp 71) = .bool false := r71
            clear r71
            refine ⟨71, rfl, .inl ⟨e71, ?_⟩⟩
            simp [execOp, e80, e88, go_sem, softUpon, Fact.is, Below.refl]
          case s31 =>
            intro ρ W hb hc hf hr
            obtain ⟨r71, r89, r60, -⟩ := hr
            have e71 : ρ (.tmp 71) = .bool false := r71
            clear r71
            have e89 : ρ (.tmp 89) = .bool true := r89
            clear r89
            have e60 : ρ (.tmp 60) = .bool true := r60
            clear r60
            refine ⟨60, rfl, .inl ⟨e60, ?_⟩⟩
            simp [execOp, e71, e89, go_sem, softUpon, Fact.is, Below.refl]
          case s32 =>
            intro ρ W hb hc hf hr
            obtain ⟨r60, r90, -⟩ := hr
            have e60 : ρ (.tmp 60) = .bool true := r60
            clear r60
            have e90 : ρ (.tmp 90) = .bool true := r90
            clear r90
            refine under_none rfl ?_
            simp [execOp, e60, e90, go_sem, softUpon, Fact.is, Below.refl]
          case s33 =>
            intro ρ W hb hc hf hr
            obtain ⟨r91, -⟩ := hr
            have e91 : ρ (.tmp 91) = .bool true := r91
            clear r91
            refine under_none rfl ?_
            exact ⟨e91, Below.refl _ _⟩
          case fin =>
            intro a w' hb hd hk
            have h4 : a.tmps.getD 4 undef = .bool true := hk 4
            clear hk
            go_wp2
            refine bodyPost_ret (results_tmp rfl _ _ _) hd ?_
            exact ⟨by rw [h4], hbd.trans (hb.mono hbd.size)⟩
        · go_wp2_with fail
          refine (get_is A bs.length cap bs _ 0 0 11 rfl hbl hA5 (by rw [h]; rfl) (by rw [h]; rfl) (by rw [h]; rfl)).mono ?_
          rintro e w6 ⟨rfl, hb6⟩
          go_wp2
          go_quiet (fail)
          go_wp2
          go_ret
          exact ⟨rfl, below_many (hb5w.trans (hb6.mono hb5w.size)) _⟩
        · go_wp2_with fail
          refine (get_is A bs.length cap bs _ 0 0 12 rfl hbl hA5 (by rw [h]; rfl) (by rw [h]; rfl) (by rw [h]; rfl)).mono ?_
          rintro e w6 ⟨rfl, hb6⟩
          go_wp2
          go_quiet (fail)
          go_wp2
          go_ret
          exact ⟨rfl, below_many (hb5w.trans (hb6.mono hb5w.size)) _⟩

set_option maxRecDepth 100000 in
theorem lifted (os : Os) (started : os.Started) (H : Type) (enc : TypeId × Value → H) :
    ReturnsInHanded {} Try.checked os 5 .any (Rows.vintBackSpec.pre6 enc Try.prog Try.f5 Rows.vintBackRow.domain false) (Rows.vintBackSpec.post enc Try.prog Try.f5 false true false false) := by
  refine returnsInHanded_of_change (C := Try.checked) own started (by kernel_rfl) Try.func5
    (ChangeSpec.witness6 (enc := enc) (C := Try.checked) false ⟨#[], #[.int .u64 0, .slice none 0 0], []⟩ 8 (by kernel_rfl) (by kernel_rfl) (by kernel_rfl) (by kernel_rfl)) ?_
  intro W base args ds gs before hval0 hW hcnd _
  have hval : ∀ (j : Nat) t v, Try.f5.params[j]? = some t → args[j]? = some v → Value.okWide Try.prog W .any base t v := hval0
  have hfin := fun W' => law_post (enc := enc) (P := Try.prog) (f := Try.f5) (s := Rows.vintBackSpec) (tb := 4) (W := W) (W' := W') (args := args) (ds := ds) (gs := gs) (before := before) laidOut rfl (by kernel_rfl) Try.underlying4 (by kernel_rfl) (fun xs h => by rw [Try.params5] at h; match xs, h with | [_, _], _ => rfl) hW
  have hlt : ∀ x ∈ before, x.block < W.heap.size := fun x hx => hW.lt x hx
  obtain ⟨p, q, hA0, hV, rfl, hfz, hnd⟩ := hW
  have hA : DataW.TrodAll enc Try.prog W 0 (fun _ => true) true Try.f5.params.toList args.toList ds p := hA0
  rw [Try.params5] at hA hval
  obtain ⟨v0, vs0, d0, ds0, p0, q0, hargs, rfl, rfl, h0, r0⟩ := trodAll_cons hA
  obtain ⟨v1, vs1, d1, ds1, p1, q1, rfl, rfl, rfl, h1, r1⟩ := trodAll_cons r0
  obtain ⟨rfl, rfl, rfl⟩ := trodAll_nil r1
  obtain rfl : args = #[v0, v1] := by cases args; simp_all
  obtain ⟨a0, rfl, rfl, rfl, w0⟩ := open_int Try.underlying34 (hval 0 34 v0 rfl rfl) h0
  obtain ⟨A1, cap1, b1, rfl, hl1, hm1, hB1⟩ := open_bytes (hval 1 22 v1 rfl rfl) h1 (fun x hx => hlt x (by simp [hx]))
  refine (walk W a0 (bounds_u64 w0) A1 cap1 b1 hl1 hm1 hB1).mono fun e W' ⟨he, hg⟩ => ?_
  subst he
  exact ⟨_, rfl, hfin W' hg⟩

theorem proved : Rows.VintBackSaid :=
  OpenClaim.holds_of_wide 5 Try.f5 rfl rfl rfl rfl rfl rfl rfl ⟨rfl, rfl, rfl, rfl, rfl⟩ rfl rfl rfl rfl rfl (by kernel_rfl) Try.func5 (by kernel_rfl)
    (of_decide_eq_true (by kernel_rfl)) (by unfold Func.isWrapper; first | (rw [if_pos (by decide +kernel)]; kernel_rfl) | (rw [if_neg (by decide +kernel)]; exact ⟨rfl, rfl⟩))
    (fun os started H enc _ => lifted os started H enc)
#print axioms proved
end Go.Proofs.Ytldophaccbakoaa.vintBack
