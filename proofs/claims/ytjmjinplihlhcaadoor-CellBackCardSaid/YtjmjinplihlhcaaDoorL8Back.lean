/-
  P8.2, CellBack: for all numbers, places and bytes the law returns true: what was put is got, with its number and place; what is got of any bytes has them. No condition but that the program's table starts as its text lays it.
-/
import Derived.Test.YtjmjinplihlhcaaDoorL8S
import Derived.Test.YtjmjinplihlhcaaDoorLaid2
namespace Go.Proofs.YtjmjinplihlhcaaDoor.cellBack
open Go.ChangeShapes Go.WideShapes Go.ChangeAt Go.RowKit

set_option maxHeartbeats 2000000 in
set_option maxRecDepth 100000 in
theorem walkN (w : World) (hT : Tab w) (q p : Int) (A : Option Addr) (cap n : Nat) (bs : List UInt8) (hn : bs.length = n) (hA : Lies w A (cells bs)) (D : Option Addr) (dap m : Nat) (s : List UInt8) (hm : s.length = m) (hD : Lies w D (cells s)) :
    Calls Tryd.prog 4 #[.int .i64 q, .int .i64 p, .slice A n cap, .slice D m dap] w fun e w' => e = .returned (.bool true) ∧ Below w.heap.size w w' := by
  have HT := Lib.hid hT
  clear hT
  by_cases h9 : n ≤ 900 ∧ m ≤ 900
  · have hd1 : decide ((900 : Int) < (n : Int)) = false := by simp; omega
    have hd2 : decide ((900 : Int) < (m : Int)) = false := by simp; omega
    have HN := Lib.hid hn
    have HM := Lib.hid hm
    have HA := Lib.hid hA
    have HD := Lib.hid hD
    have HCA := Lib.hid (fun (W : World) (h : Lies W A (cells bs)) => conv_at h n cap hn)
    have HCD0 := Lib.hid (fun (W : World) (h : Lies W D (cells s)) => conv_at h m dap hm)
    obtain ⟨SS, hSS⟩ : ∃ SS, str s = SS := ⟨_, rfl⟩
    have HSS := Lib.hid hSS
    rw [hSS] at HCD0
    clear hn hm hA hD hSS
    by_cases hr : Ce.right q p = true
    · by_cases h59 : n ≤ 59
      · have HR := Lib.hid hr
        have hdn : decide ((n : Int) ≤ 59) = true := by simp; omega
        have HGP := Lib.hid (Ce.got_put (bs := bs) hr (by rw [HN.out]; exact h59))
        have HPL := Lib.hid (show (Ce.put q p bs).length = 64 by rw [Ce.put_length, if_pos ⟨hr, by rw [HN.out]; exact h59⟩])
        clear hr
        go_enter Tryd.func4, Tryd.ntmps4
        go_wp2_with fail
        refine (head_any _ HT.out).mono ?_
        rintro e w1 ⟨rfl, hb1⟩
        have T1 := Lib.hid (HT.out.below hb1 (Nat.le_refl _))
        have A1 := Lib.hid (HA.out.below hb1)
        have D1 := Lib.hid (HD.out.below hb1)
        go_wp2_with fail
        refine (cput_yes q p A cap n bs w1 HN.out HR.out h59 A1.out T1.out).mono ?_
        rintro e w2 ⟨g, rfl, -, hb2, b2⟩
        have T2 := Lib.hid (T1.out.below b2 (Nat.le_refl _))
        have A2 := Lib.hid (A1.out.below b2)
        have D2 := Lib.hid (D1.out.below b2)
        have L2 := Lib.hid hb2.liesAll
        have B2 := Lib.hid (hb1.trans (b2.mono hb1.size))
        clear hb2 b2
        generalize Ce.put q p bs = PB at *
        go_wp2_with fail
        refine (right_is q p true HR.out _).mono ?_
        rintro e w' ⟨rfl, rfl⟩
        go_wp2_with fail
        refine (cget_yes q p _ 64 64 n PB w2 HPL.out (by rw [HGP.out.2]; exact HN.out) HGP.out.1 L2.out T2.out).mono ?_
        rintro e w3 ⟨g2, rfl, hl, b3⟩
        rw [HGP.out.2] at hl
        have T3 := Lib.hid (T2.out.below b3 (Nat.le_refl _))
        have D3 := Lib.hid (D2.out.below b3)
        have B3 := Lib.hid (B2.out.trans (b3.mono B2.out.size))
        have hc1 := conv_at hl n n HN.out
        have hc2 := HCA.out w3 (A2.out.below b3)
        generalize str bs = SB at *
        generalize partAt g2 n = P2 at *
        clear hl b3
        by_cases hok : Ce.ok q p s = true
        · obtain ⟨k, hk⟩ : ∃ k, (Ce.nb s).length = k := ⟨_, rfl⟩
          have HPW0 := Lib.hid (fun (A : Option Addr) (W : World) (hA : Lies W A (cells (Ce.nb s))) (hT : Tab W) => cput_lies q p A k k m (Ce.nb s) W hk (by rw [Ce.ok_put hok]; exact HM.out) hA hT)
          rw [Ce.ok_put hok] at HPW0
          have HCG := Lib.hid (cget_yes q p D dap m k s w3 HM.out hk hok D3.out T3.out)
          clear hk hok
          go_wp2_with fail
          refine HCG.out.mono ?_
          rintro e w4 ⟨g3, rfl, hl3, b4⟩
          have HPW := Lib.hid (fun (W : World) (hW : Below w4.heap.size w4 W) => HPW0.out (some (partAt g3 k)) W (hl3.below hW) ((T3.out.below b4 (Nat.le_refl _)).below hW (Nat.le_refl _)))
          have HCD := Lib.hid (fun (W : World) (hW : Below w4.heap.size w4 W) => HCD0.out W ((D3.out.below b4).below hW))
          have B4 := Lib.hid (B3.out.trans (b4.mono B3.out.size))
          generalize partAt g3 k = P3 at *
          clear hl3 b4 HPW0 HCG
          go_wp2
          refine wp_softS (by kernel_rfl) 100 [(77, [9]), (78, [77]), (79, [14, 78]), (80, [79, 78]), (81, [80, 78]), (82, [13, 81]), (83, [82, 81]), (84, [83, 81]), (85, [81, 84, 78]), (86, [85, 78]), (87, [14, 86]), (88, [87, 86]), (89, [0, 88]), (90, [1, 88]), (91, [13, 88]), (92, [89, 90, 91, 88]), (93, [92, 88]), (94, [3, 88]), (95, [94, 88]), (96, [93, 95, 88]), (97, [88, 96, 86]), (98, [86, 97, 78]), (99, [78, 98]), (8, [99])]
            [Fact.is (.bool true), Fact.is (.bool true), Fact.is (.bool true), Fact.is (.bool false), Fact.is (.bool false), Fact.is (undef), Fact.is (undef), Fact.is (undef), Fact.is (.bool false), Fact.is (.bool false), Fact.is (.bool true), Fact.is (.bool true), Fact.is (.int .i64 q), Fact.is (.int .i64 p), Fact.is (.slice (some P3) k k), Fact.lies s m, Fact.is (.string SS), Fact.is (.slice D m dap), Fact.is (.string SS), Fact.is (.bool true), Fact.is (.bool true), Fact.is (.bool true), Fact.is (.bool true), Fact.is (.bool true)]
            (by kernel_rfl) rfl rfl ⟨?s0, ?s1, ?s2, ?s3, ?s4, ?s5, ?s6, ?s7, ?s8, ?s9, ?s10, ?s11, ?s12, ?s13, ?s14, ?s15, ?s16, ?s17, ?s18, ?s19, ?s20, ?s21, ?s22, ?s23, trivial⟩ ?fin
          case s0 =>
            intro ρ W hb hc hf hr
            obtain ⟨r9, -⟩ := hr
            have e9 : ρ (.tmp 9) = .bool true := r9
            clear r9
            refine under_none rfl ?_
            exact ⟨e9, Below.refl _ _⟩
          case s1 =>
            intro ρ W hb hc hf hr
            obtain ⟨r77, -⟩ := hr
            have e77 : ρ (.tmp 77) = .bool true := r77
            clear r77
            refine under_none rfl ?_
            exact ⟨e77, Below.refl _ _⟩
          case s2 =>
            intro ρ W hb hc hf hr
            obtain ⟨r14, r78, -⟩ := hr
            have e14 : ρ (.tmp 14) = .bool true := r14
            clear r14
            have e78 : ρ (.tmp 78) = .bool true := r78
            clear r78
            refine ⟨78, rfl, .inl ⟨e78, ?_⟩⟩
            exact ⟨e14, Below.refl _ _⟩
          case s3 =>
            intro ρ W hb hc hf hr
            obtain ⟨r79, r78, -⟩ := hr
            have e79 : ρ (.tmp 79) = .bool true := r79
            clear r79
            have e78 : ρ (.tmp 78) = .bool true := r78
            clear r78
            refine ⟨78, rfl, .inl ⟨e78, ?_⟩⟩
            simp [execOp, e79, go_sem, softUpon, Fact.is, Below.refl]
          case s4 =>
            intro ρ W hb hc hf hr
            obtain ⟨r80, r78, -⟩ := hr
            have e80 : ρ (.tmp 80) = .bool false := r80
            clear r80
            have e78 : ρ (.tmp 78) = .bool true := r78
            clear r78
            refine ⟨78, rfl, .inl ⟨e78, ?_⟩⟩
            exact ⟨e80, Below.refl _ _⟩
          case s5 =>
            intro ρ W hb hc hf hr
            obtain ⟨r13, r81, -⟩ := hr
            have e13 : ρ (.tmp 13) = .slice (some P3) k k := r13
            clear r13
            have e81 : ρ (.tmp 81) = .bool false := r81
            clear r81
            exact ⟨81, rfl, .inr (.inl ⟨e81, rfl⟩)⟩
          case s6 =>
            intro ρ W hb hc hf hr
            obtain ⟨r82, r81, -⟩ := hr
            have e82 : ρ (.tmp 82) = undef := r82
            clear r82
            have e81 : ρ (.tmp 81) = .bool false := r81
            clear r81
            exact ⟨81, rfl, .inr (.inl ⟨e81, rfl⟩)⟩
          case s7 =>
            intro ρ W hb hc hf hr
            obtain ⟨r83, r81, -⟩ := hr
            have e83 : ρ (.tmp 83) = undef := r83
            clear r83
            have e81 : ρ (.tmp 81) = .bool false := r81
            clear r81
            exact ⟨81, rfl, .inr (.inl ⟨e81, rfl⟩)⟩
          case s8 =>
            intro ρ W hb hc hf hr
            obtain ⟨r81, r84, r78, -⟩ := hr
            have e81 : ρ (.tmp 81) = .bool false := r81
            clear r81
            have e84 : ρ (.tmp 84) = undef := r84
            clear r84
            have e78 : ρ (.tmp 78) = .bool true := r78
            clear r78
            refine ⟨78, rfl, .inl ⟨e78, ?_⟩⟩
            simp [execOp, e81, hc, go_sem, softUpon, Fact.is, Below.refl]
          case s9 =>
            intro ρ W hb hc hf hr
            obtain ⟨r85, r78, -⟩ := hr
            have e85 : ρ (.tmp 85) = .bool false := r85
            clear r85
            have e78 : ρ (.tmp 78) = .bool true := r78
            clear r78
            refine ⟨78, rfl, .inl ⟨e78, ?_⟩⟩
            exact ⟨e85, Below.refl _ _⟩
          case s10 =>
            intro ρ W hb hc hf hr
            obtain ⟨r14, r86, -⟩ := hr
            have e14 : ρ (.tmp 14) = .bool true := r14
            clear r14
            have e86 : ρ (.tmp 86) = .bool false := r86
            clear r86
            refine ⟨86, rfl, .inl ⟨e86, ?_⟩⟩
            exact ⟨e14, Below.refl _ _⟩
          case s11 =>
            intro ρ W hb hc hf hr
            obtain ⟨r87, r86, -⟩ := hr
            have e87 : ρ (.tmp 87) = .bool true := r87
            clear r87
            have e86 : ρ (.tmp 86) = .bool false := r86
            clear r86
            refine ⟨86, rfl, .inl ⟨e86, ?_⟩⟩
            exact ⟨e87, Below.refl _ _⟩
          case s12 =>
            intro ρ W hb hc hf hr
            obtain ⟨r0, r88, -⟩ := hr
            have e0 : ρ (.tmp 0) = .int .i64 q := r0
            clear r0
            have e88 : ρ (.tmp 88) = .bool true := r88
            clear r88
            refine ⟨88, rfl, .inl ⟨e88, ?_⟩⟩
            exact ⟨e0, Below.refl _ _⟩
          case s13 =>
            intro ρ W hb hc hf hr
            obtain ⟨r1, r88, -⟩ := hr
            have e1 : ρ (.tmp 1) = .int .i64 p := r1
            clear r1
            have e88 : ρ (.tmp 88) = .bool true := r88
            clear r88
            refine ⟨88, rfl, .inl ⟨e88, ?_⟩⟩
            exact ⟨e1, Below.refl _ _⟩
          case s14 =>
            intro ρ W hb hc hf hr
            obtain ⟨r13, r88, -⟩ := hr
            have e13 : ρ (.tmp 13) = .slice (some P3) k k := r13
            clear r13
            have e88 : ρ (.tmp 88) = .bool true := r88
            clear r88
            refine ⟨88, rfl, .inl ⟨e88, ?_⟩⟩
            exact ⟨e13, Below.refl _ _⟩
          case s15 =>
            intro ρ W hb hc hf hr
            obtain ⟨r89, r90, r91, r88, -⟩ := hr
            have e89 : ρ (.tmp 89) = .int .i64 q := r89
            clear r89
            have e90 : ρ (.tmp 90) = .int .i64 p := r90
            clear r90
            have e91 : ρ (.tmp 91) = .slice (some P3) k k := r91
            clear r91
            have e88 : ρ (.tmp 88) = .bool true := r88
            clear r88
            refine ⟨88, rfl, .inl ⟨e88, ?_⟩⟩
            exact soft_call3 hf e89 e90 e91 (HPW.out W (undrew hb)) rfl (by kernel_rfl) lies_is
          case s16 =>
            intro ρ W hb hc hf hr
            obtain ⟨r92, r88, -⟩ := hr
            have e88 : ρ (.tmp 88) = .bool true := r88
            clear r88
            refine ⟨88, rfl, .inl ⟨e88, ?_⟩⟩
            exact soft_lies r92 HM.out HSS.out rfl
          case s17 =>
            intro ρ W hb hc hf hr
            obtain ⟨r3, r88, -⟩ := hr
            have e3 : ρ (.tmp 3) = .slice D m dap := r3
            clear r3
            have e88 : ρ (.tmp 88) = .bool true := r88
            clear r88
            refine ⟨88, rfl, .inl ⟨e88, ?_⟩⟩
            exact ⟨e3, Below.refl _ _⟩
          case s18 =>
            intro ρ W hb hc hf hr
            obtain ⟨r94, r88, -⟩ := hr
            have e94 : ρ (.tmp 94) = .slice D m dap := r94
            clear r94
            have e88 : ρ (.tmp 88) = .bool true := r88
            clear r88
            refine ⟨88, rfl, .inl ⟨e88, ?_⟩⟩
            exact soft_conv e94 (HCD.out W (undrew hb)) rfl
          case s19 =>
            intro ρ W hb hc hf hr
            obtain ⟨r93, r95, r88, -⟩ := hr
            have e93 : ρ (.tmp 93) = .string SS := r93
            clear r93
            have e95 : ρ (.tmp 95) = .string SS := r95
            clear r95
            have e88 : ρ (.tmp 88) = .bool true := r88
            clear r88
            refine ⟨88, rfl, .inl ⟨e88, ?_⟩⟩
            exact soft_bin e93 e95 rfl rfl (eqs8 W SS)
          case s20 =>
            intro ρ W hb hc hf hr
            obtain ⟨r88, r96, r86, -⟩ := hr
            have e88 : ρ (.tmp 88) = .bool true := r88
            clear r88
            have e96 : ρ (.tmp 96) = .bool true := r96
            clear r96
            have e86 : ρ (.tmp 86) = .bool false := r86
            clear r86
            refine ⟨86, rfl, .inl ⟨e86, ?_⟩⟩
            simp [execOp, e88, e96, go_sem, softUpon, Fact.is, Below.refl]
          case s21 =>
            intro ρ W hb hc hf hr
            obtain ⟨r86, r97, r78, -⟩ := hr
            have e86 : ρ (.tmp 86) = .bool false := r86
            clear r86
            have e97 : ρ (.tmp 97) = .bool true := r97
            clear r97
            have e78 : ρ (.tmp 78) = .bool true := r78
            clear r78
            refine ⟨78, rfl, .inl ⟨e78, ?_⟩⟩
            simp [execOp, e86, e97, go_sem, softUpon, Fact.is, Below.refl]
          case s22 =>
            intro ρ W hb hc hf hr
            obtain ⟨r78, r98, -⟩ := hr
            have e78 : ρ (.tmp 78) = .bool true := r78
            clear r78
            have e98 : ρ (.tmp 98) = .bool true := r98
            clear r98
            refine under_none rfl ?_
            simp [execOp, e78, e98, go_sem, softUpon, Fact.is, Below.refl]
          case s23 =>
            intro ρ W hb hc hf hr
            obtain ⟨r99, -⟩ := hr
            have e99 : ρ (.tmp 99) = .bool true := r99
            clear r99
            refine under_none rfl ?_
            exact ⟨e99, Below.refl _ _⟩
          case fin =>
            intro a w1 hb hd hsz hk
            have ea := act_puts hd hsz rfl hk
            have k77 : a.tmps.getD 77 undef = .bool true := hk 77
            have k78 : a.tmps.getD 78 undef = .bool true := hk 78
            have k79 : a.tmps.getD 79 undef = .bool true := hk 79
            have k80 : a.tmps.getD 80 undef = .bool false := hk 80
            have k81 : a.tmps.getD 81 undef = .bool false := hk 81
            have k82 : a.tmps.getD 82 undef = undef := hk 82
            have k83 : a.tmps.getD 83 undef = undef := hk 83
            have k84 : a.tmps.getD 84 undef = undef := hk 84
            have k85 : a.tmps.getD 85 undef = .bool false := hk 85
            have k86 : a.tmps.getD 86 undef = .bool false := hk 86
            have k87 : a.tmps.getD 87 undef = .bool true := hk 87
            have k88 : a.tmps.getD 88 undef = .bool true := hk 88
            have k89 : a.tmps.getD 89 undef = .int .i64 q := hk 89
            have k90 : a.tmps.getD 90 undef = .int .i64 p := hk 90
            have k91 : a.tmps.getD 91 undef = .slice (some P3) k k := hk 91
            have k92 : (Fact.lies s m).φ (a.tmps.getD 92 undef) w1 := hk 92
            have k93 : a.tmps.getD 93 undef = .string SS := hk 93
            have k94 : a.tmps.getD 94 undef = .slice D m dap := hk 94
            have k95 : a.tmps.getD 95 undef = .string SS := hk 95
            have k96 : a.tmps.getD 96 undef = .bool true := hk 96
            have k97 : a.tmps.getD 97 undef = .bool true := hk 97
            have k98 : a.tmps.getD 98 undef = .bool true := hk 98
            have k99 : a.tmps.getD 99 undef = .bool true := hk 99
            have k8 : a.tmps.getD 8 undef = .bool true := hk 8
            clear hk hd hsz
            simp only [List.map_cons, List.map_nil, List.foldl_cons, List.foldl_nil, k77, k78, k79, k80, k81, k82, k83, k84, k85, k86, k87, k88, k89, k90, k91, k93, k94, k95, k96, k97, k98, k99, k8] at ea
            clear k77 k78 k79 k80 k81 k82 k83 k84 k85 k86 k87 k88 k89 k90 k91 k93 k94 k95 k96 k97 k98 k99 k8
            generalize a.tmps.getD 92 undef = v92 at ea k92
            simp only [Act.put, List.setIfInBounds_toArray, List.set_cons_succ, List.set_cons_zero] at ea
            subst ea
            have c5 := B4.out.trans ((undrew hb).mono B4.out.size)
            go_wp2
            go_ret
            exact ⟨rfl, c5⟩
        · have HCG := Lib.hid (cget_no q p D dap m s w3 HM.out (by simpa using hok) D3.out T3.out)
          clear hok
          go_wp2_with fail
          refine HCG.out.mono ?_
          rintro e w4 ⟨rfl, b4⟩
          have B4 := Lib.hid (B3.out.trans (b4.mono B3.out.size))
          clear b4 HCG
          go_wp2
          refine wp_softS (by kernel_rfl) 100 [(77, [9]), (78, [77]), (79, [14, 78]), (80, [79, 78]), (81, [80, 78]), (82, [13, 81]), (83, [82, 81]), (84, [83, 81]), (85, [81, 84, 78]), (86, [85, 78]), (87, [14, 86]), (88, [87, 86]), (89, [0, 88]), (90, [1, 88]), (91, [13, 88]), (92, [89, 90, 91, 88]), (93, [92, 88]), (94, [3, 88]), (95, [94, 88]), (96, [93, 95, 88]), (97, [88, 96, 86]), (98, [86, 97, 78]), (99, [78, 98]), (8, [99])]
            [Fact.is (.bool true), Fact.is (.bool true), Fact.is (.bool false), Fact.is (.bool true), Fact.is (.bool true), Fact.is (.slice none 0 0), Fact.is (.int .i64 0), Fact.is (.bool true), Fact.is (.bool true), Fact.is (.bool true), Fact.is (undef), Fact.is (undef), Fact.is (undef), Fact.is (undef), Fact.is (undef), Fact.is (undef), Fact.is (undef), Fact.is (undef), Fact.is (undef), Fact.is (undef), Fact.is (undef), Fact.is (.bool true), Fact.is (.bool true), Fact.is (.bool true)]
            (by kernel_rfl) rfl rfl ⟨?s0, ?s1, ?s2, ?s3, ?s4, ?s5, ?s6, ?s7, ?s8, ?s9, ?s10, ?s11, ?s12, ?s13, ?s14, ?s15, ?s16, ?s17, ?s18, ?s19, ?s20, ?s21, ?s22, ?s23, trivial⟩ ?fin
          case s0 =>
            intro ρ W hb hc hf hr
            obtain ⟨r9, -⟩ := hr
            have e9 : ρ (.tmp 9) = .bool true := r9
            clear r9
            refine under_none rfl ?_
            exact ⟨e9, Below.refl _ _⟩
          case s1 =>
            intro ρ W hb hc hf hr
            obtain ⟨r77, -⟩ := hr
            have e77 : ρ (.tmp 77) = .bool true := r77
            clear r77
            refine under_none rfl ?_
            exact ⟨e77, Below.refl _ _⟩
          case s2 =>
            intro ρ W hb hc hf hr
            obtain ⟨r14, r78, -⟩ := hr
            have e14 : ρ (.tmp 14) = .bool false := r14
            clear r14
            have e78 : ρ (.tmp 78) = .bool true := r78
            clear r78
            refine ⟨78, rfl, .inl ⟨e78, ?_⟩⟩
            exact ⟨e14, Below.refl _ _⟩
          case s3 =>
            intro ρ W hb hc hf hr
            obtain ⟨r79, r78, -⟩ := hr
            have e79 : ρ (.tmp 79) = .bool false := r79
            clear r79
            have e78 : ρ (.tmp 78) = .bool true := r78
            clear r78
            refine ⟨78, rfl, .inl ⟨e78, ?_⟩⟩
            simp [execOp, e79, go_sem, softUpon, Fact.is, Below.refl]
          case s4 =>
            intro ρ W hb hc hf hr
            obtain ⟨r80, r78, -⟩ := hr
            have e80 : ρ (.tmp 80) = .bool true := r80
            clear r80
            have e78 : ρ (.tmp 78) = .bool true := r78
            clear r78
            refine ⟨78, rfl, .inl ⟨e78, ?_⟩⟩
            exact ⟨e80, Below.refl _ _⟩
          case s5 =>
            intro ρ W hb hc hf hr
            obtain ⟨r13, r81, -⟩ := hr
            have e13 : ρ (.tmp 13) = .slice none 0 0 := r13
            clear r13
            have e81 : ρ (.tmp 81) = .bool true := r81
            clear r81
            refine ⟨81, rfl, .inl ⟨e81, ?_⟩⟩
            exact ⟨e13, Below.refl _ _⟩
          case s6 =>
            intro ρ W hb hc hf hr
            obtain ⟨r82, r81, -⟩ := hr
            have e82 : ρ (.tmp 82) = .slice none 0 0 := r82
            clear r82
            have e81 : ρ (.tmp 81) = .bool true := r81
            clear r81
            refine ⟨81, rfl, .inl ⟨e81, ?_⟩⟩
            simp [e82, go_sem, softUpon, Fact.is, Below.refl]
          case s7 =>
            intro ρ W hb hc hf hr
            obtain ⟨r83, r81, -⟩ := hr
            have e83 : ρ (.tmp 83) = .int .i64 0 := r83
            clear r83
            have e81 : ρ (.tmp 81) = .bool true := r81
            clear r81
            refine ⟨81, rfl, .inl ⟨e81, ?_⟩⟩
            exact soft_bin e83 (hc _) rfl rfl (by go_simp)
          case s8 =>
            intro ρ W hb hc hf hr
            obtain ⟨r81, r84, r78, -⟩ := hr
            have e81 : ρ (.tmp 81) = .bool true := r81
            clear r81
            have e84 : ρ (.tmp 84) = .bool true := r84
            clear r84
            have e78 : ρ (.tmp 78) = .bool true := r78
            clear r78
            refine ⟨78, rfl, .inl ⟨e78, ?_⟩⟩
            simp [execOp, e81, e84, go_sem, softUpon, Fact.is, Below.refl]
          case s9 =>
            intro ρ W hb hc hf hr
            obtain ⟨r85, r78, -⟩ := hr
            have e85 : ρ (.tmp 85) = .bool true := r85
            clear r85
            have e78 : ρ (.tmp 78) = .bool true := r78
            clear r78
            refine ⟨78, rfl, .inl ⟨e78, ?_⟩⟩
            exact ⟨e85, Below.refl _ _⟩
          case s10 =>
            intro ρ W hb hc hf hr
            obtain ⟨r14, r86, -⟩ := hr
            have e14 : ρ (.tmp 14) = .bool false := r14
            clear r14
            have e86 : ρ (.tmp 86) = .bool true := r86
            clear r86
            exact ⟨86, rfl, .inr (.inl ⟨e86, rfl⟩)⟩
          case s11 =>
            intro ρ W hb hc hf hr
            obtain ⟨r87, r86, -⟩ := hr
            have e87 : ρ (.tmp 87) = undef := r87
            clear r87
            have e86 : ρ (.tmp 86) = .bool true := r86
            clear r86
            exact ⟨86, rfl, .inr (.inl ⟨e86, rfl⟩)⟩
          case s12 =>
            intro ρ W hb hc hf hr
            obtain ⟨r0, r88, -⟩ := hr
            have e0 : ρ (.tmp 0) = .int .i64 q := r0
            clear r0
            have e88 : ρ (.tmp 88) = undef := r88
            clear r88
            exact ⟨88, rfl, .inr (.inr ⟨e88, rfl⟩)⟩
          case s13 =>
            intro ρ W hb hc hf hr
            obtain ⟨r1, r88, -⟩ := hr
            have e1 : ρ (.tmp 1) = .int .i64 p := r1
            clear r1
            have e88 : ρ (.tmp 88) = undef := r88
            clear r88
            exact ⟨88, rfl, .inr (.inr ⟨e88, rfl⟩)⟩
          case s14 =>
            intro ρ W hb hc hf hr
            obtain ⟨r13, r88, -⟩ := hr
            have e13 : ρ (.tmp 13) = .slice none 0 0 := r13
            clear r13
            have e88 : ρ (.tmp 88) = undef := r88
            clear r88
            exact ⟨88, rfl, .inr (.inr ⟨e88, rfl⟩)⟩
          case s15 =>
            intro ρ W hb hc hf hr
            obtain ⟨r89, r90, r91, r88, -⟩ := hr
            have e89 : ρ (.tmp 89) = undef := r89
            clear r89
            have e90 : ρ (.tmp 90) = undef := r90
            clear r90
            have e91 : ρ (.tmp 91) = undef := r91
            clear r91
            have e88 : ρ (.tmp 88) = undef := r88
            clear r88
            exact ⟨88, rfl, .inr (.inr ⟨e88, rfl⟩)⟩
          case s16 =>
            intro ρ W hb hc hf hr
            obtain ⟨r92, r88, -⟩ := hr
            have e92 : ρ (.tmp 92) = undef := r92
            clear r92
            have e88 : ρ (.tmp 88) = undef := r88
            clear r88
            exact ⟨88, rfl, .inr (.inr ⟨e88, rfl⟩)⟩
          case s17 =>
            intro ρ W hb hc hf hr
            obtain ⟨r3, r88, -⟩ := hr
            have e3 : ρ (.tmp 3) = .slice D m dap := r3
            clear r3
            have e88 : ρ (.tmp 88) = undef := r88
            clear r88
            exact ⟨88, rfl, .inr (.inr ⟨e88, rfl⟩)⟩
          case s18 =>
            intro ρ W hb hc hf hr
            obtain ⟨r94, r88, -⟩ := hr
            have e94 : ρ (.tmp 94) = undef := r94
            clear r94
            have e88 : ρ (.tmp 88) = undef := r88
            clear r88
            exact ⟨88, rfl, .inr (.inr ⟨e88, rfl⟩)⟩
          case s19 =>
            intro ρ W hb hc hf hr
            obtain ⟨r93, r95, r88, -⟩ := hr
            have e93 : ρ (.tmp 93) = undef := r93
            clear r93
            have e95 : ρ (.tmp 95) = undef := r95
            clear r95
            have e88 : ρ (.tmp 88) = undef := r88
            clear r88
            exact ⟨88, rfl, .inr (.inr ⟨e88, rfl⟩)⟩
          case s20 =>
            intro ρ W hb hc hf hr
            obtain ⟨r88, r96, r86, -⟩ := hr
            have e88 : ρ (.tmp 88) = undef := r88
            clear r88
            have e96 : ρ (.tmp 96) = undef := r96
            clear r96
            have e86 : ρ (.tmp 86) = .bool true := r86
            clear r86
            exact ⟨86, rfl, .inr (.inl ⟨e86, rfl⟩)⟩
          case s21 =>
            intro ρ W hb hc hf hr
            obtain ⟨r86, r97, r78, -⟩ := hr
            have e86 : ρ (.tmp 86) = .bool true := r86
            clear r86
            have e97 : ρ (.tmp 97) = undef := r97
            clear r97
            have e78 : ρ (.tmp 78) = .bool true := r78
            clear r78
            refine ⟨78, rfl, .inl ⟨e78, ?_⟩⟩
            simp [execOp, e86, hc, go_sem, softUpon, Fact.is, Below.refl]
          case s22 =>
            intro ρ W hb hc hf hr
            obtain ⟨r78, r98, -⟩ := hr
            have e78 : ρ (.tmp 78) = .bool true := r78
            clear r78
            have e98 : ρ (.tmp 98) = .bool true := r98
            clear r98
            refine under_none rfl ?_
            simp [execOp, e78, e98, go_sem, softUpon, Fact.is, Below.refl]
          case s23 =>
            intro ρ W hb hc hf hr
            obtain ⟨r99, -⟩ := hr
            have e99 : ρ (.tmp 99) = .bool true := r99
            clear r99
            refine under_none rfl ?_
            exact ⟨e99, Below.refl _ _⟩
          case fin =>
            intro a w1 hb hd hsz hk
            have ea := act_puts hd hsz rfl hk
            have k77 : a.tmps.getD 77 undef = .bool true := hk 77
            have k78 : a.tmps.getD 78 undef = .bool true := hk 78
            have k79 : a.tmps.getD 79 undef = .bool false := hk 79
            have k80 : a.tmps.getD 80 undef = .bool true := hk 80
            have k81 : a.tmps.getD 81 undef = .bool true := hk 81
            have k82 : a.tmps.getD 82 undef = .slice none 0 0 := hk 82
            have k83 : a.tmps.getD 83 undef = .int .i64 0 := hk 83
            have k84 : a.tmps.getD 84 undef = .bool true := hk 84
            have k85 : a.tmps.getD 85 undef = .bool true := hk 85
            have k86 : a.tmps.getD 86 undef = .bool true := hk 86
            have k87 : a.tmps.getD 87 undef = undef := hk 87
            have k88 : a.tmps.getD 88 undef = undef := hk 88
            have k89 : a.tmps.getD 89 undef = undef := hk 89
            have k90 : a.tmps.getD 90 undef = undef := hk 90
            have k91 : a.tmps.getD 91 undef = undef := hk 91
            have k92 : a.tmps.getD 92 undef = undef := hk 92
            have k93 : a.tmps.getD 93 undef = undef := hk 93
            have k94 : a.tmps.getD 94 undef = undef := hk 94
            have k95 : a.tmps.getD 95 undef = undef := hk 95
            have k96 : a.tmps.getD 96 undef = undef := hk 96
            have k97 : a.tmps.getD 97 undef = undef := hk 97
            have k98 : a.tmps.getD 98 undef = .bool true := hk 98
            have k99 : a.tmps.getD 99 undef = .bool true := hk 99
            have k8 : a.tmps.getD 8 undef = .bool true := hk 8
            clear hk hd hsz
            simp only [List.map_cons, List.map_nil, List.foldl_cons, List.foldl_nil, k77, k78, k79, k80, k81, k82, k83, k84, k85, k86, k87, k88, k89, k90, k91, k92, k93, k94, k95, k96, k97, k98, k99, k8] at ea
            clear k77 k78 k79 k80 k81 k82 k83 k84 k85 k86 k87 k88 k89 k90 k91 k92 k93 k94 k95 k96 k97 k98 k99 k8
            simp only [Act.put, List.setIfInBounds_toArray, List.set_cons_succ, List.set_cons_zero] at ea
            subst ea
            have c5 := B4.out.trans ((undrew hb).mono B4.out.size)
            go_wp2
            go_ret
            exact ⟨rfl, c5⟩
      · have HR := Lib.hid hr
        have hdn : decide ((n : Int) ≤ 59) = false := by simp; omega
        have HNO := Lib.hid (show ¬ (Ce.right q p = true ∧ n ≤ 59) from fun h => h59 h.2)
        clear hr
        go_enter Tryd.func4, Tryd.ntmps4
        go_wp2_with fail
        refine (head_any _ HT.out).mono ?_
        rintro e w1 ⟨rfl, hb1⟩
        have T1 := Lib.hid (HT.out.below hb1 (Nat.le_refl _))
        have A1 := Lib.hid (HA.out.below hb1)
        have D1 := Lib.hid (HD.out.below hb1)
        go_wp2_with fail
        refine (cput_no q p A cap n bs w1 HN.out HNO.out A1.out T1.out).mono ?_
        rintro e w2 ⟨rfl, b2⟩
        have T2 := Lib.hid (T1.out.below b2 (Nat.le_refl _))
        have D2 := Lib.hid (D1.out.below b2)
        have B2 := Lib.hid (hb1.trans (b2.mono hb1.size))
        clear b2
        go_wp2_with fail
        refine (right_is q p true HR.out _).mono ?_
        rintro e w' ⟨rfl, rfl⟩
        by_cases hok : Ce.ok q p s = true
        · obtain ⟨k, hk⟩ : ∃ k, (Ce.nb s).length = k := ⟨_, rfl⟩
          have HPW0 := Lib.hid (fun (A : Option Addr) (W : World) (hA : Lies W A (cells (Ce.nb s))) (hT : Tab W) => cput_lies q p A k k m (Ce.nb s) W hk (by rw [Ce.ok_put hok]; exact HM.out) hA hT)
          rw [Ce.ok_put hok] at HPW0
          have HCG := Lib.hid (cget_yes q p D dap m k s w2 HM.out hk hok D2.out T2.out)
          clear hk hok
          go_wp2_with fail
          refine HCG.out.mono ?_
          rintro e w4 ⟨g3, rfl, hl3, b4⟩
          have HPW := Lib.hid (fun (W : World) (hW : Below w4.heap.size w4 W) => HPW0.out (some (partAt g3 k)) W (hl3.below hW) ((T2.out.below b4 (Nat.le_refl _)).below hW (Nat.le_refl _)))
          have HCD := Lib.hid (fun (W : World) (hW : Below w4.heap.size w4 W) => HCD0.out W ((D2.out.below b4).below hW))
          have B4 := Lib.hid (B2.out.trans (b4.mono B2.out.size))
          generalize partAt g3 k = P3 at *
          clear hl3 b4 HPW0 HCG
          go_wp2
          refine wp_softS (by kernel_rfl) 100 [(77, [9]), (78, [77]), (79, [14, 78]), (80, [79, 78]), (81, [80, 78]), (82, [13, 81]), (83, [82, 81]), (84, [83, 81]), (85, [81, 84, 78]), (86, [85, 78]), (87, [14, 86]), (88, [87, 86]), (89, [0, 88]), (90, [1, 88]), (91, [13, 88]), (92, [89, 90, 91, 88]), (93, [92, 88]), (94, [3, 88]), (95, [94, 88]), (96, [93, 95, 88]), (97, [88, 96, 86]), (98, [86, 97, 78]), (99, [78, 98]), (8, [99])]
            [Fact.is (.bool true), Fact.is (.bool true), Fact.is (.bool true), Fact.is (.bool false), Fact.is (.bool false), Fact.is (undef), Fact.is (undef), Fact.is (undef), Fact.is (.bool false), Fact.is (.bool false), Fact.is (.bool true), Fact.is (.bool true), Fact.is (.int .i64 q), Fact.is (.int .i64 p), Fact.is (.slice (some P3) k k), Fact.lies s m, Fact.is (.string SS), Fact.is (.slice D m dap), Fact.is (.string SS), Fact.is (.bool true), Fact.is (.bool true), Fact.is (.bool true), Fact.is (.bool true), Fact.is (.bool true)]
            (by kernel_rfl) rfl rfl ⟨?s0, ?s1, ?s2, ?s3, ?s4, ?s5, ?s6, ?s7, ?s8, ?s9, ?s10, ?s11, ?s12, ?s13, ?s14, ?s15, ?s16, ?s17, ?s18, ?s19, ?s20, ?s21, ?s22, ?s23, trivial⟩ ?fin
          case s0 =>
            intro ρ W hb hc hf hr
            obtain ⟨r9, -⟩ := hr
            have e9 : ρ (.tmp 9) = .bool true := r9
            clear r9
            refine under_none rfl ?_
            exact ⟨e9, Below.refl _ _⟩
          case s1 =>
            intro ρ W hb hc hf hr
            obtain ⟨r77, -⟩ := hr
            have e77 : ρ (.tmp 77) = .bool true := r77
            clear r77
            refine under_none rfl ?_
            exact ⟨e77, Below.refl _ _⟩
          case s2 =>
            intro ρ W hb hc hf hr
            obtain ⟨r14, r78, -⟩ := hr
            have e14 : ρ (.tmp 14) = .bool true := r14
            clear r14
            have e78 : ρ (.tmp 78) = .bool true := r78
            clear r78
            refine ⟨78, rfl, .inl ⟨e78, ?_⟩⟩
            exact ⟨e14, Below.refl _ _⟩
          case s3 =>
            intro ρ W hb hc hf hr
            obtain ⟨r79, r78, -⟩ := hr
            have e79 : ρ (.tmp 79) = .bool true := r79
            clear r79
            have e78 : ρ (.tmp 78) = .bool true := r78
            clear r78
            refine ⟨78, rfl, .inl ⟨e78, ?_⟩⟩
            simp [execOp, e79, go_sem, softUpon, Fact.is, Below.refl]
          case s4 =>
            intro ρ W hb hc hf hr
            obtain ⟨r80, r78, -⟩ := hr
            have e80 : ρ (.tmp 80) = .bool false := r80
            clear r80
            have e78 : ρ (.tmp 78) = .bool true := r78
            clear r78
            refine ⟨78, rfl, .inl ⟨e78, ?_⟩⟩
            exact ⟨e80, Below.refl _ _⟩
          case s5 =>
            intro ρ W hb hc hf hr
            obtain ⟨r13, r81, -⟩ := hr
            have e13 : ρ (.tmp 13) = .slice (some P3) k k := r13
            clear r13
            have e81 : ρ (.tmp 81) = .bool false := r81
            clear r81
            exact ⟨81, rfl, .inr (.inl ⟨e81, rfl⟩)⟩
          case s6 =>
            intro ρ W hb hc hf hr
            obtain ⟨r82, r81, -⟩ := hr
            have e82 : ρ (.tmp 82) = undef := r82
            clear r82
            have e81 : ρ (.tmp 81) = .bool false := r81
            clear r81
            exact ⟨81, rfl, .inr (.inl ⟨e81, rfl⟩)⟩
          case s7 =>
            intro ρ W hb hc hf hr
            obtain ⟨r83, r81, -⟩ := hr
            have e83 : ρ (.tmp 83) = undef := r83
            clear r83
            have e81 : ρ (.tmp 81) = .bool false := r81
            clear r81
            exact ⟨81, rfl, .inr (.inl ⟨e81, rfl⟩)⟩
          case s8 =>
            intro ρ W hb hc hf hr
            obtain ⟨r81, r84, r78, -⟩ := hr
            have e81 : ρ (.tmp 81) = .bool false := r81
            clear r81
            have e84 : ρ (.tmp 84) = undef := r84
            clear r84
            have e78 : ρ (.tmp 78) = .bool true := r78
            clear r78
            refine ⟨78, rfl, .inl ⟨e78, ?_⟩⟩
            simp [execOp, e81, hc, go_sem, softUpon, Fact.is, Below.refl]
          case s9 =>
            intro ρ W hb hc hf hr
            obtain ⟨r85, r78, -⟩ := hr
            have e85 : ρ (.tmp 85) = .bool false := r85
            clear r85
            have e78 : ρ (.tmp 78) = .bool true := r78
            clear r78
            refine ⟨78, rfl, .inl ⟨e78, ?_⟩⟩
            exact ⟨e85, Below.refl _ _⟩
          case s10 =>
            intro ρ W hb hc hf hr
            obtain ⟨r14, r86, -⟩ := hr
            have e14 : ρ (.tmp 14) = .bool true := r14
            clear r14
            have e86 : ρ (.tmp 86) = .bool false := r86
            clear r86
            refine ⟨86, rfl, .inl ⟨e86, ?_⟩⟩
            exact ⟨e14, Below.refl _ _⟩
          case s11 =>
            intro ρ W hb hc hf hr
            obtain ⟨r87, r86, -⟩ := hr
            have e87 : ρ (.tmp 87) = .bool true := r87
            clear r87
            have e86 : ρ (.tmp 86) = .bool false := r86
            clear r86
            refine ⟨86, rfl, .inl ⟨e86, ?_⟩⟩
            exact ⟨e87, Below.refl _ _⟩
          case s12 =>
            intro ρ W hb hc hf hr
            obtain ⟨r0, r88, -⟩ := hr
            have e0 : ρ (.tmp 0) = .int .i64 q := r0
            clear r0
            have e88 : ρ (.tmp 88) = .bool true := r88
            clear r88
            refine ⟨88, rfl, .inl ⟨e88, ?_⟩⟩
            exact ⟨e0, Below.refl _ _⟩
          case s13 =>
            intro ρ W hb hc hf hr
            obtain ⟨r1, r88, -⟩ := hr
            have e1 : ρ (.tmp 1) = .int .i64 p := r1
            clear r1
            have e88 : ρ (.tmp 88) = .bool true := r88
            clear r88
            refine ⟨88, rfl, .inl ⟨e88, ?_⟩⟩
            exact ⟨e1, Below.refl _ _⟩
          case s14 =>
            intro ρ W hb hc hf hr
            obtain ⟨r13, r88, -⟩ := hr
            have e13 : ρ (.tmp 13) = .slice (some P3) k k := r13
            clear r13
            have e88 : ρ (.tmp 88) = .bool true := r88
            clear r88
            refine ⟨88, rfl, .inl ⟨e88, ?_⟩⟩
            exact ⟨e13, Below.refl _ _⟩
          case s15 =>
            intro ρ W hb hc hf hr
            obtain ⟨r89, r90, r91, r88, -⟩ := hr
            have e89 : ρ (.tmp 89) = .int .i64 q := r89
            clear r89
            have e90 : ρ (.tmp 90) = .int .i64 p := r90
            clear r90
            have e91 : ρ (.tmp 91) = .slice (some P3) k k := r91
            clear r91
            have e88 : ρ (.tmp 88) = .bool true := r88
            clear r88
            refine ⟨88, rfl, .inl ⟨e88, ?_⟩⟩
            exact soft_call3 hf e89 e90 e91 (HPW.out W (undrew hb)) rfl (by kernel_rfl) lies_is
          case s16 =>
            intro ρ W hb hc hf hr
            obtain ⟨r92, r88, -⟩ := hr
            have e88 : ρ (.tmp 88) = .bool true := r88
            clear r88
            refine ⟨88, rfl, .inl ⟨e88, ?_⟩⟩
            exact soft_lies r92 HM.out HSS.out rfl
          case s17 =>
            intro ρ W hb hc hf hr
            obtain ⟨r3, r88, -⟩ := hr
            have e3 : ρ (.tmp 3) = .slice D m dap := r3
            clear r3
            have e88 : ρ (.tmp 88) = .bool true := r88
            clear r88
            refine ⟨88, rfl, .inl ⟨e88, ?_⟩⟩
            exact ⟨e3, Below.refl _ _⟩
          case s18 =>
            intro ρ W hb hc hf hr
            obtain ⟨r94, r88, -⟩ := hr
            have e94 : ρ (.tmp 94) = .slice D m dap := r94
            clear r94
            have e88 : ρ (.tmp 88) = .bool true := r88
            clear r88
            refine ⟨88, rfl, .inl ⟨e88, ?_⟩⟩
            exact soft_conv e94 (HCD.out W (undrew hb)) rfl
          case s19 =>
            intro ρ W hb hc hf hr
            obtain ⟨r93, r95, r88, -⟩ := hr
            have e93 : ρ (.tmp 93) = .string SS := r93
            clear r93
            have e95 : ρ (.tmp 95) = .string SS := r95
            clear r95
            have e88 : ρ (.tmp 88) = .bool true := r88
            clear r88
            refine ⟨88, rfl, .inl ⟨e88, ?_⟩⟩
            exact soft_bin e93 e95 rfl rfl (eqs8 W SS)
          case s20 =>
            intro ρ W hb hc hf hr
            obtain ⟨r88, r96, r86, -⟩ := hr
            have e88 : ρ (.tmp 88) = .bool true := r88
            clear r88
            have e96 : ρ (.tmp 96) = .bool true := r96
            clear r96
            have e86 : ρ (.tmp 86) = .bool false := r86
            clear r86
            refine ⟨86, rfl, .inl ⟨e86, ?_⟩⟩
            simp [execOp, e88, e96, go_sem, softUpon, Fact.is, Below.refl]
          case s21 =>
            intro ρ W hb hc hf hr
            obtain ⟨r86, r97, r78, -⟩ := hr
            have e86 : ρ (.tmp 86) = .bool false := r86
            clear r86
            have e97 : ρ (.tmp 97) = .bool true := r97
            clear r97
            have e78 : ρ (.tmp 78) = .bool true := r78
            clear r78
            refine ⟨78, rfl, .inl ⟨e78, ?_⟩⟩
            simp [execOp, e86, e97, go_sem, softUpon, Fact.is, Below.refl]
          case s22 =>
            intro ρ W hb hc hf hr
            obtain ⟨r78, r98, -⟩ := hr
            have e78 : ρ (.tmp 78) = .bool true := r78
            clear r78
            have e98 : ρ (.tmp 98) = .bool true := r98
            clear r98
            refine under_none rfl ?_
            simp [execOp, e78, e98, go_sem, softUpon, Fact.is, Below.refl]
          case s23 =>
            intro ρ W hb hc hf hr
            obtain ⟨r99, -⟩ := hr
            have e99 : ρ (.tmp 99) = .bool true := r99
            clear r99
            refine under_none rfl ?_
            exact ⟨e99, Below.refl _ _⟩
          case fin =>
            intro a w1 hb hd hsz hk
            have ea := act_puts hd hsz rfl hk
            have k77 : a.tmps.getD 77 undef = .bool true := hk 77
            have k78 : a.tmps.getD 78 undef = .bool true := hk 78
            have k79 : a.tmps.getD 79 undef = .bool true := hk 79
            have k80 : a.tmps.getD 80 undef = .bool false := hk 80
            have k81 : a.tmps.getD 81 undef = .bool false := hk 81
            have k82 : a.tmps.getD 82 undef = undef := hk 82
            have k83 : a.tmps.getD 83 undef = undef := hk 83
            have k84 : a.tmps.getD 84 undef = undef := hk 84
            have k85 : a.tmps.getD 85 undef = .bool false := hk 85
            have k86 : a.tmps.getD 86 undef = .bool false := hk 86
            have k87 : a.tmps.getD 87 undef = .bool true := hk 87
            have k88 : a.tmps.getD 88 undef = .bool true := hk 88
            have k89 : a.tmps.getD 89 undef = .int .i64 q := hk 89
            have k90 : a.tmps.getD 90 undef = .int .i64 p := hk 90
            have k91 : a.tmps.getD 91 undef = .slice (some P3) k k := hk 91
            have k92 : (Fact.lies s m).φ (a.tmps.getD 92 undef) w1 := hk 92
            have k93 : a.tmps.getD 93 undef = .string SS := hk 93
            have k94 : a.tmps.getD 94 undef = .slice D m dap := hk 94
            have k95 : a.tmps.getD 95 undef = .string SS := hk 95
            have k96 : a.tmps.getD 96 undef = .bool true := hk 96
            have k97 : a.tmps.getD 97 undef = .bool true := hk 97
            have k98 : a.tmps.getD 98 undef = .bool true := hk 98
            have k99 : a.tmps.getD 99 undef = .bool true := hk 99
            have k8 : a.tmps.getD 8 undef = .bool true := hk 8
            clear hk hd hsz
            simp only [List.map_cons, List.map_nil, List.foldl_cons, List.foldl_nil, k77, k78, k79, k80, k81, k82, k83, k84, k85, k86, k87, k88, k89, k90, k91, k93, k94, k95, k96, k97, k98, k99, k8] at ea
            clear k77 k78 k79 k80 k81 k82 k83 k84 k85 k86 k87 k88 k89 k90 k91 k93 k94 k95 k96 k97 k98 k99 k8
            generalize a.tmps.getD 92 undef = v92 at ea k92
            simp only [Act.put, List.setIfInBounds_toArray, List.set_cons_succ, List.set_cons_zero] at ea
            subst ea
            have c5 := B4.out.trans ((undrew hb).mono B4.out.size)
            go_wp2
            go_ret
            exact ⟨rfl, c5⟩
        · have HCG := Lib.hid (cget_no q p D dap m s w2 HM.out (by simpa using hok) D2.out T2.out)
          clear hok
          go_wp2_with fail
          refine HCG.out.mono ?_
          rintro e w4 ⟨rfl, b4⟩
          have B4 := Lib.hid (B2.out.trans (b4.mono B2.out.size))
          clear b4 HCG
          go_wp2
          refine wp_softS (by kernel_rfl) 100 [(77, [9]), (78, [77]), (79, [14, 78]), (80, [79, 78]), (81, [80, 78]), (82, [13, 81]), (83, [82, 81]), (84, [83, 81]), (85, [81, 84, 78]), (86, [85, 78]), (87, [14, 86]), (88, [87, 86]), (89, [0, 88]), (90, [1, 88]), (91, [13, 88]), (92, [89, 90, 91, 88]), (93, [92, 88]), (94, [3, 88]), (95, [94, 88]), (96, [93, 95, 88]), (97, [88, 96, 86]), (98, [86, 97, 78]), (99, [78, 98]), (8, [99])]
            [Fact.is (.bool true), Fact.is (.bool true), Fact.is (.bool false), Fact.is (.bool true), Fact.is (.bool true), Fact.is (.slice none 0 0), Fact.is (.int .i64 0), Fact.is (.bool true), Fact.is (.bool true), Fact.is (.bool true), Fact.is (undef), Fact.is (undef), Fact.is (undef), Fact.is (undef), Fact.is (undef), Fact.is (undef), Fact.is (undef), Fact.is (undef), Fact.is (undef), Fact.is (undef), Fact.is (undef), Fact.is (.bool true), Fact.is (.bool true), Fact.is (.bool true)]
            (by kernel_rfl) rfl rfl ⟨?s0, ?s1, ?s2, ?s3, ?s4, ?s5, ?s6, ?s7, ?s8, ?s9, ?s10, ?s11, ?s12, ?s13, ?s14, ?s15, ?s16, ?s17, ?s18, ?s19, ?s20, ?s21, ?s22, ?s23, trivial⟩ ?fin
          case s0 =>
            intro ρ W hb hc hf hr
            obtain ⟨r9, -⟩ := hr
            have e9 : ρ (.tmp 9) = .bool true := r9
            clear r9
            refine under_none rfl ?_
            exact ⟨e9, Below.refl _ _⟩
          case s1 =>
            intro ρ W hb hc hf hr
            obtain ⟨r77, -⟩ := hr
            have e77 : ρ (.tmp 77) = .bool true := r77
            clear r77
            refine under_none rfl ?_
            exact ⟨e77, Below.refl _ _⟩
          case s2 =>
            intro ρ W hb hc hf hr
            obtain ⟨r14, r78, -⟩ := hr
            have e14 : ρ (.tmp 14) = .bool false := r14
            clear r14
            have e78 : ρ (.tmp 78) = .bool true := r78
            clear r78
            refine ⟨78, rfl, .inl ⟨e78, ?_⟩⟩
            exact ⟨e14, Below.refl _ _⟩
          case s3 =>
            intro ρ W hb hc hf hr
            obtain ⟨r79, r78, -⟩ := hr
            have e79 : ρ (.tmp 79) = .bool false := r79
            clear r79
            have e78 : ρ (.tmp 78) = .bool true := r78
            clear r78
            refine ⟨78, rfl, .inl ⟨e78, ?_⟩⟩
            simp [execOp, e79, go_sem, softUpon, Fact.is, Below.refl]
          case s4 =>
            intro ρ W hb hc hf hr
            obtain ⟨r80, r78, -⟩ := hr
            have e80 : ρ (.tmp 80) = .bool true := r80
            clear r80
            have e78 : ρ (.tmp 78) = .bool true := r78
            clear r78
            refine ⟨78, rfl, .inl ⟨e78, ?_⟩⟩
            exact ⟨e80, Below.refl _ _⟩
          case s5 =>
            intro ρ W hb hc hf hr
            obtain ⟨r13, r81, -⟩ := hr
            have e13 : ρ (.tmp 13) = .slice none 0 0 := r13
            clear r13
            have e81 : ρ (.tmp 81) = .bool true := r81
            clear r81
            refine ⟨81, rfl, .inl ⟨e81, ?_⟩⟩
            exact ⟨e13, Below.refl _ _⟩
          case s6 =>
            intro ρ W hb hc hf hr
            obtain ⟨r82, r81, -⟩ := hr
            have e82 : ρ (.tmp 82) = .slice none 0 0 := r82
            clear r82
            have e81 : ρ (.tmp 81) = .bool true := r81
            clear r81
            refine ⟨81, rfl, .inl ⟨e81, ?_⟩⟩
            simp [e82, go_sem, softUpon, Fact.is, Below.refl]
          case s7 =>
            intro ρ W hb hc hf hr
            obtain ⟨r83, r81, -⟩ := hr
            have e83 : ρ (.tmp 83) = .int .i64 0 := r83
            clear r83
            have e81 : ρ (.tmp 81) = .bool true := r81
            clear r81
            refine ⟨81, rfl, .inl ⟨e81, ?_⟩⟩
            exact soft_bin e83 (hc _) rfl rfl (by go_simp)
          case s8 =>
            intro ρ W hb hc hf hr
            obtain ⟨r81, r84, r78, -⟩ := hr
            have e81 : ρ (.tmp 81) = .bool true := r81
            clear r81
            have e84 : ρ (.tmp 84) = .bool true := r84
            clear r84
            have e78 : ρ (.tmp 78) = .bool true := r78
            clear r78
            refine ⟨78, rfl, .inl ⟨e78, ?_⟩⟩
            simp [execOp, e81, e84, go_sem, softUpon, Fact.is, Below.refl]
          case s9 =>
            intro ρ W hb hc hf hr
            obtain ⟨r85, r78, -⟩ := hr
            have e85 : ρ (.tmp 85) = .bool true := r85
            clear r85
            have e78 : ρ (.tmp 78) = .bool true := r78
            clear r78
            refine ⟨78, rfl, .inl ⟨e78, ?_⟩⟩
            exact ⟨e85, Below.refl _ _⟩
          case s10 =>
            intro ρ W hb hc hf hr
            obtain ⟨r14, r86, -⟩ := hr
            have e14 : ρ (.tmp 14) = .bool false := r14
            clear r14
            have e86 : ρ (.tmp 86) = .bool true := r86
            clear r86
            exact ⟨86, rfl, .inr (.inl ⟨e86, rfl⟩)⟩
          case s11 =>
            intro ρ W hb hc hf hr
            obtain ⟨r87, r86, -⟩ := hr
            have e87 : ρ (.tmp 87) = undef := r87
            clear r87
            have e86 : ρ (.tmp 86) = .bool true := r86
            clear r86
            exact ⟨86, rfl, .inr (.inl ⟨e86, rfl⟩)⟩
          case s12 =>
            intro ρ W hb hc hf hr
            obtain ⟨r0, r88, -⟩ := hr
            have e0 : ρ (.tmp 0) = .int .i64 q := r0
            clear r0
            have e88 : ρ (.tmp 88) = undef := r88
            clear r88
            exact ⟨88, rfl, .inr (.inr ⟨e88, rfl⟩)⟩
          case s13 =>
            intro ρ W hb hc hf hr
            obtain ⟨r1, r88, -⟩ := hr
            have e1 : ρ (.tmp 1) = .int .i64 p := r1
            clear r1
            have e88 : ρ (.tmp 88) = undef := r88
            clear r88
            exact ⟨88, rfl, .inr (.inr ⟨e88, rfl⟩)⟩
          case s14 =>
            intro ρ W hb hc hf hr
            obtain ⟨r13, r88, -⟩ := hr
            have e13 : ρ (.tmp 13) = .slice none 0 0 := r13
            clear r13
            have e88 : ρ (.tmp 88) = undef := r88
            clear r88
            exact ⟨88, rfl, .inr (.inr ⟨e88, rfl⟩)⟩
          case s15 =>
            intro ρ W hb hc hf hr
            obtain ⟨r89, r90, r91, r88, -⟩ := hr
            have e89 : ρ (.tmp 89) = undef := r89
            clear r89
            have e90 : ρ (.tmp 90) = undef := r90
            clear r90
            have e91 : ρ (.tmp 91) = undef := r91
            clear r91
            have e88 : ρ (.tmp 88) = undef := r88
            clear r88
            exact ⟨88, rfl, .inr (.inr ⟨e88, rfl⟩)⟩
          case s16 =>
            intro ρ W hb hc hf hr
            obtain ⟨r92, r88, -⟩ := hr
            have e92 : ρ (.tmp 92) = undef := r92
            clear r92
            have e88 : ρ (.tmp 88) = undef := r88
            clear r88
            exact ⟨88, rfl, .inr (.inr ⟨e88, rfl⟩)⟩
          case s17 =>
            intro ρ W hb hc hf hr
            obtain ⟨r3, r88, -⟩ := hr
            have e3 : ρ (.tmp 3) = .slice D m dap := r3
            clear r3
            have e88 : ρ (.tmp 88) = undef := r88
            clear r88
            exact ⟨88, rfl, .inr (.inr ⟨e88, rfl⟩)⟩
          case s18 =>
            intro ρ W hb hc hf hr
            obtain ⟨r94, r88, -⟩ := hr
            have e94 : ρ (.tmp 94) = undef := r94
            clear r94
            have e88 : ρ (.tmp 88) = undef := r88
            clear r88
            exact ⟨88, rfl, .inr (.inr ⟨e88, rfl⟩)⟩
          case s19 =>
            intro ρ W hb hc hf hr
            obtain ⟨r93, r95, r88, -⟩ := hr
            have e93 : ρ (.tmp 93) = undef := r93
            clear r93
            have e95 : ρ (.tmp 95) = undef := r95
            clear r95
            have e88 : ρ (.tmp 88) = undef := r88
            clear r88
            exact ⟨88, rfl, .inr (.inr ⟨e88, rfl⟩)⟩
          case s20 =>
            intro ρ W hb hc hf hr
            obtain ⟨r88, r96, r86, -⟩ := hr
            have e88 : ρ (.tmp 88) = undef := r88
            clear r88
            have e96 : ρ (.tmp 96) = undef := r96
            clear r96
            have e86 : ρ (.tmp 86) = .bool true := r86
            clear r86
            exact ⟨86, rfl, .inr (.inl ⟨e86, rfl⟩)⟩
          case s21 =>
            intro ρ W hb hc hf hr
            obtain ⟨r86, r97, r78, -⟩ := hr
            have e86 : ρ (.tmp 86) = .bool true := r86
            clear r86
            have e97 : ρ (.tmp 97) = undef := r97
            clear r97
            have e78 : ρ (.tmp 78) = .bool true := r78
            clear r78
            refine ⟨78, rfl, .inl ⟨e78, ?_⟩⟩
            simp [execOp, e86, hc, go_sem, softUpon, Fact.is, Below.refl]
          case s22 =>
            intro ρ W hb hc hf hr
            obtain ⟨r78, r98, -⟩ := hr
            have e78 : ρ (.tmp 78) = .bool true := r78
            clear r78
            have e98 : ρ (.tmp 98) = .bool true := r98
            clear r98
            refine under_none rfl ?_
            simp [execOp, e78, e98, go_sem, softUpon, Fact.is, Below.refl]
          case s23 =>
            intro ρ W hb hc hf hr
            obtain ⟨r99, -⟩ := hr
            have e99 : ρ (.tmp 99) = .bool true := r99
            clear r99
            refine under_none rfl ?_
            exact ⟨e99, Below.refl _ _⟩
          case fin =>
            intro a w1 hb hd hsz hk
            have ea := act_puts hd hsz rfl hk
            have k77 : a.tmps.getD 77 undef = .bool true := hk 77
            have k78 : a.tmps.getD 78 undef = .bool true := hk 78
            have k79 : a.tmps.getD 79 undef = .bool false := hk 79
            have k80 : a.tmps.getD 80 undef = .bool true := hk 80
            have k81 : a.tmps.getD 81 undef = .bool true := hk 81
            have k82 : a.tmps.getD 82 undef = .slice none 0 0 := hk 82
            have k83 : a.tmps.getD 83 undef = .int .i64 0 := hk 83
            have k84 : a.tmps.getD 84 undef = .bool true := hk 84
            have k85 : a.tmps.getD 85 undef = .bool true := hk 85
            have k86 : a.tmps.getD 86 undef = .bool true := hk 86
            have k87 : a.tmps.getD 87 undef = undef := hk 87
            have k88 : a.tmps.getD 88 undef = undef := hk 88
            have k89 : a.tmps.getD 89 undef = undef := hk 89
            have k90 : a.tmps.getD 90 undef = undef := hk 90
            have k91 : a.tmps.getD 91 undef = undef := hk 91
            have k92 : a.tmps.getD 92 undef = undef := hk 92
            have k93 : a.tmps.getD 93 undef = undef := hk 93
            have k94 : a.tmps.getD 94 undef = undef := hk 94
            have k95 : a.tmps.getD 95 undef = undef := hk 95
            have k96 : a.tmps.getD 96 undef = undef := hk 96
            have k97 : a.tmps.getD 97 undef = undef := hk 97
            have k98 : a.tmps.getD 98 undef = .bool true := hk 98
            have k99 : a.tmps.getD 99 undef = .bool true := hk 99
            have k8 : a.tmps.getD 8 undef = .bool true := hk 8
            clear hk hd hsz
            simp only [List.map_cons, List.map_nil, List.foldl_cons, List.foldl_nil, k77, k78, k79, k80, k81, k82, k83, k84, k85, k86, k87, k88, k89, k90, k91, k92, k93, k94, k95, k96, k97, k98, k99, k8] at ea
            clear k77 k78 k79 k80 k81 k82 k83 k84 k85 k86 k87 k88 k89 k90 k91 k92 k93 k94 k95 k96 k97 k98 k99 k8
            simp only [Act.put, List.setIfInBounds_toArray, List.set_cons_succ, List.set_cons_zero] at ea
            subst ea
            have c5 := B4.out.trans ((undrew hb).mono B4.out.size)
            go_wp2
            go_ret
            exact ⟨rfl, c5⟩
    · have HR := Lib.hid (show Ce.right q p = false by simpa using hr)
      have HNO := Lib.hid (show ¬ (Ce.right q p = true ∧ n ≤ 59) from fun h => hr h.1)
      clear hr
      go_enter Tryd.func4, Tryd.ntmps4
      go_wp2_with fail
      refine (head_any _ HT.out).mono ?_
      rintro e w1 ⟨rfl, hb1⟩
      have T1 := Lib.hid (HT.out.below hb1 (Nat.le_refl _))
      have A1 := Lib.hid (HA.out.below hb1)
      have D1 := Lib.hid (HD.out.below hb1)
      go_wp2_with fail
      refine (cput_no q p A cap n bs w1 HN.out HNO.out A1.out T1.out).mono ?_
      rintro e w2 ⟨rfl, b2⟩
      have T2 := Lib.hid (T1.out.below b2 (Nat.le_refl _))
      have D2 := Lib.hid (D1.out.below b2)
      have B2 := Lib.hid (hb1.trans (b2.mono hb1.size))
      clear b2
      go_wp2_with fail
      refine (right_is q p false HR.out _).mono ?_
      rintro e w' ⟨rfl, rfl⟩
      by_cases hok : Ce.ok q p s = true
      · obtain ⟨k, hk⟩ : ∃ k, (Ce.nb s).length = k := ⟨_, rfl⟩
        have HPW0 := Lib.hid (fun (A : Option Addr) (W : World) (hA : Lies W A (cells (Ce.nb s))) (hT : Tab W) => cput_lies q p A k k m (Ce.nb s) W hk (by rw [Ce.ok_put hok]; exact HM.out) hA hT)
        rw [Ce.ok_put hok] at HPW0
        have HCG := Lib.hid (cget_yes q p D dap m k s w2 HM.out hk hok D2.out T2.out)
        clear hk hok
        go_wp2_with fail
        refine HCG.out.mono ?_
        rintro e w4 ⟨g3, rfl, hl3, b4⟩
        have HPW := Lib.hid (fun (W : World) (hW : Below w4.heap.size w4 W) => HPW0.out (some (partAt g3 k)) W (hl3.below hW) ((T2.out.below b4 (Nat.le_refl _)).below hW (Nat.le_refl _)))
        have HCD := Lib.hid (fun (W : World) (hW : Below w4.heap.size w4 W) => HCD0.out W ((D2.out.below b4).below hW))
        have B4 := Lib.hid (B2.out.trans (b4.mono B2.out.size))
        generalize partAt g3 k = P3 at *
        clear hl3 b4 HPW0 HCG
        go_wp2
        refine wp_softS (by kernel_rfl) 100 [(77, [9]), (78, [77]), (79, [14, 78]), (80, [79, 78]), (81, [80, 78]), (82, [13, 81]), (83, [82, 81]), (84, [83, 81]), (85, [81, 84, 78]), (86, [85, 78]), (87, [14, 86]), (88, [87, 86]), (89, [0, 88]), (90, [1, 88]), (91, [13, 88]), (92, [89, 90, 91, 88]), (93, [92, 88]), (94, [3, 88]), (95, [94, 88]), (96, [93, 95, 88]), (97, [88, 96, 86]), (98, [86, 97, 78]), (99, [78, 98]), (8, [99])]
          [Fact.is (.bool true), Fact.is (.bool true), Fact.is (.bool true), Fact.is (.bool false), Fact.is (.bool false), Fact.is (undef), Fact.is (undef), Fact.is (undef), Fact.is (.bool false), Fact.is (.bool false), Fact.is (.bool true), Fact.is (.bool true), Fact.is (.int .i64 q), Fact.is (.int .i64 p), Fact.is (.slice (some P3) k k), Fact.lies s m, Fact.is (.string SS), Fact.is (.slice D m dap), Fact.is (.string SS), Fact.is (.bool true), Fact.is (.bool true), Fact.is (.bool true), Fact.is (.bool true), Fact.is (.bool true)]
          (by kernel_rfl) rfl rfl ⟨?s0, ?s1, ?s2, ?s3, ?s4, ?s5, ?s6, ?s7, ?s8, ?s9, ?s10, ?s11, ?s12, ?s13, ?s14, ?s15, ?s16, ?s17, ?s18, ?s19, ?s20, ?s21, ?s22, ?s23, trivial⟩ ?fin
        case s0 =>
          intro ρ W hb hc hf hr
          obtain ⟨r9, -⟩ := hr
          have e9 : ρ (.tmp 9) = .bool true := r9
          clear r9
          refine under_none rfl ?_
          exact ⟨e9, Below.refl _ _⟩
        case s1 =>
          intro ρ W hb hc hf hr
          obtain ⟨r77, -⟩ := hr
          have e77 : ρ (.tmp 77) = .bool true := r77
          clear r77
          refine under_none rfl ?_
          exact ⟨e77, Below.refl _ _⟩
        case s2 =>
          intro ρ W hb hc hf hr
          obtain ⟨r14, r78, -⟩ := hr
          have e14 : ρ (.tmp 14) = .bool true := r14
          clear r14
          have e78 : ρ (.tmp 78) = .bool true := r78
          clear r78
          refine ⟨78, rfl, .inl ⟨e78, ?_⟩⟩
          exact ⟨e14, Below.refl _ _⟩
        case s3 =>
          intro ρ W hb hc hf hr
          obtain ⟨r79, r78, -⟩ := hr
          have e79 : ρ (.tmp 79) = .bool true := r79
          clear r79
          have e78 : ρ (.tmp 78) = .bool true := r78
          clear r78
          refine ⟨78, rfl, .inl ⟨e78, ?_⟩⟩
          simp [execOp, e79, go_sem, softUpon, Fact.is, Below.refl]
        case s4 =>
          intro ρ W hb hc hf hr
          obtain ⟨r80, r78, -⟩ := hr
          have e80 : ρ (.tmp 80) = .bool false := r80
          clear r80
          have e78 : ρ (.tmp 78) = .bool true := r78
          clear r78
          refine ⟨78, rfl, .inl ⟨e78, ?_⟩⟩
          exact ⟨e80, Below.refl _ _⟩
        case s5 =>
          intro ρ W hb hc hf hr
          obtain ⟨r13, r81, -⟩ := hr
          have e13 : ρ (.tmp 13) = .slice (some P3) k k := r13
          clear r13
          have e81 : ρ (.tmp 81) = .bool false := r81
          clear r81
          exact ⟨81, rfl, .inr (.inl ⟨e81, rfl⟩)⟩
        case s6 =>
          intro ρ W hb hc hf hr
          obtain ⟨r82, r81, -⟩ := hr
          have e82 : ρ (.tmp 82) = undef := r82
          clear r82
          have e81 : ρ (.tmp 81) = .bool false := r81
          clear r81
          exact ⟨81, rfl, .inr (.inl ⟨e81, rfl⟩)⟩
        case s7 =>
          intro ρ W hb hc hf hr
          obtain ⟨r83, r81, -⟩ := hr
          have e83 : ρ (.tmp 83) = undef := r83
          clear r83
          have e81 : ρ (.tmp 81) = .bool false := r81
          clear r81
          exact ⟨81, rfl, .inr (.inl ⟨e81, rfl⟩)⟩
        case s8 =>
          intro ρ W hb hc hf hr
          obtain ⟨r81, r84, r78, -⟩ := hr
          have e81 : ρ (.tmp 81) = .bool false := r81
          clear r81
          have e84 : ρ (.tmp 84) = undef := r84
          clear r84
          have e78 : ρ (.tmp 78) = .bool true := r78
          clear r78
          refine ⟨78, rfl, .inl ⟨e78, ?_⟩⟩
          simp [execOp, e81, hc, go_sem, softUpon, Fact.is, Below.refl]
        case s9 =>
          intro ρ W hb hc hf hr
          obtain ⟨r85, r78, -⟩ := hr
          have e85 : ρ (.tmp 85) = .bool false := r85
          clear r85
          have e78 : ρ (.tmp 78) = .bool true := r78
          clear r78
          refine ⟨78, rfl, .inl ⟨e78, ?_⟩⟩
          exact ⟨e85, Below.refl _ _⟩
        case s10 =>
          intro ρ W hb hc hf hr
          obtain ⟨r14, r86, -⟩ := hr
          have e14 : ρ (.tmp 14) = .bool true := r14
          clear r14
          have e86 : ρ (.tmp 86) = .bool false := r86
          clear r86
          refine ⟨86, rfl, .inl ⟨e86, ?_⟩⟩
          exact ⟨e14, Below.refl _ _⟩
        case s11 =>
          intro ρ W hb hc hf hr
          obtain ⟨r87, r86, -⟩ := hr
          have e87 : ρ (.tmp 87) = .bool true := r87
          clear r87
          have e86 : ρ (.tmp 86) = .bool false := r86
          clear r86
          refine ⟨86, rfl, .inl ⟨e86, ?_⟩⟩
          exact ⟨e87, Below.refl _ _⟩
        case s12 =>
          intro ρ W hb hc hf hr
          obtain ⟨r0, r88, -⟩ := hr
          have e0 : ρ (.tmp 0) = .int .i64 q := r0
          clear r0
          have e88 : ρ (.tmp 88) = .bool true := r88
          clear r88
          refine ⟨88, rfl, .inl ⟨e88, ?_⟩⟩
          exact ⟨e0, Below.refl _ _⟩
        case s13 =>
          intro ρ W hb hc hf hr
          obtain ⟨r1, r88, -⟩ := hr
          have e1 : ρ (.tmp 1) = .int .i64 p := r1
          clear r1
          have e88 : ρ (.tmp 88) = .bool true := r88
          clear r88
          refine ⟨88, rfl, .inl ⟨e88, ?_⟩⟩
          exact ⟨e1, Below.refl _ _⟩
        case s14 =>
          intro ρ W hb hc hf hr
          obtain ⟨r13, r88, -⟩ := hr
          have e13 : ρ (.tmp 13) = .slice (some P3) k k := r13
          clear r13
          have e88 : ρ (.tmp 88) = .bool true := r88
          clear r88
          refine ⟨88, rfl, .inl ⟨e88, ?_⟩⟩
          exact ⟨e13, Below.refl _ _⟩
        case s15 =>
          intro ρ W hb hc hf hr
          obtain ⟨r89, r90, r91, r88, -⟩ := hr
          have e89 : ρ (.tmp 89) = .int .i64 q := r89
          clear r89
          have e90 : ρ (.tmp 90) = .int .i64 p := r90
          clear r90
          have e91 : ρ (.tmp 91) = .slice (some P3) k k := r91
          clear r91
          have e88 : ρ (.tmp 88) = .bool true := r88
          clear r88
          refine ⟨88, rfl, .inl ⟨e88, ?_⟩⟩
          exact soft_call3 hf e89 e90 e91 (HPW.out W (undrew hb)) rfl (by kernel_rfl) lies_is
        case s16 =>
          intro ρ W hb hc hf hr
          obtain ⟨r92, r88, -⟩ := hr
          have e88 : ρ (.tmp 88) = .bool true := r88
          clear r88
          refine ⟨88, rfl, .inl ⟨e88, ?_⟩⟩
          exact soft_lies r92 HM.out HSS.out rfl
        case s17 =>
          intro ρ W hb hc hf hr
          obtain ⟨r3, r88, -⟩ := hr
          have e3 : ρ (.tmp 3) = .slice D m dap := r3
          clear r3
          have e88 : ρ (.tmp 88) = .bool true := r88
          clear r88
          refine ⟨88, rfl, .inl ⟨e88, ?_⟩⟩
          exact ⟨e3, Below.refl _ _⟩
        case s18 =>
          intro ρ W hb hc hf hr
          obtain ⟨r94, r88, -⟩ := hr
          have e94 : ρ (.tmp 94) = .slice D m dap := r94
          clear r94
          have e88 : ρ (.tmp 88) = .bool true := r88
          clear r88
          refine ⟨88, rfl, .inl ⟨e88, ?_⟩⟩
          exact soft_conv e94 (HCD.out W (undrew hb)) rfl
        case s19 =>
          intro ρ W hb hc hf hr
          obtain ⟨r93, r95, r88, -⟩ := hr
          have e93 : ρ (.tmp 93) = .string SS := r93
          clear r93
          have e95 : ρ (.tmp 95) = .string SS := r95
          clear r95
          have e88 : ρ (.tmp 88) = .bool true := r88
          clear r88
          refine ⟨88, rfl, .inl ⟨e88, ?_⟩⟩
          exact soft_bin e93 e95 rfl rfl (eqs8 W SS)
        case s20 =>
          intro ρ W hb hc hf hr
          obtain ⟨r88, r96, r86, -⟩ := hr
          have e88 : ρ (.tmp 88) = .bool true := r88
          clear r88
          have e96 : ρ (.tmp 96) = .bool true := r96
          clear r96
          have e86 : ρ (.tmp 86) = .bool false := r86
          clear r86
          refine ⟨86, rfl, .inl ⟨e86, ?_⟩⟩
          simp [execOp, e88, e96, go_sem, softUpon, Fact.is, Below.refl]
        case s21 =>
          intro ρ W hb hc hf hr
          obtain ⟨r86, r97, r78, -⟩ := hr
          have e86 : ρ (.tmp 86) = .bool false := r86
          clear r86
          have e97 : ρ (.tmp 97) = .bool true := r97
          clear r97
          have e78 : ρ (.tmp 78) = .bool true := r78
          clear r78
          refine ⟨78, rfl, .inl ⟨e78, ?_⟩⟩
          simp [execOp, e86, e97, go_sem, softUpon, Fact.is, Below.refl]
        case s22 =>
          intro ρ W hb hc hf hr
          obtain ⟨r78, r98, -⟩ := hr
          have e78 : ρ (.tmp 78) = .bool true := r78
          clear r78
          have e98 : ρ (.tmp 98) = .bool true := r98
          clear r98
          refine under_none rfl ?_
          simp [execOp, e78, e98, go_sem, softUpon, Fact.is, Below.refl]
        case s23 =>
          intro ρ W hb hc hf hr
          obtain ⟨r99, -⟩ := hr
          have e99 : ρ (.tmp 99) = .bool true := r99
          clear r99
          refine under_none rfl ?_
          exact ⟨e99, Below.refl _ _⟩
        case fin =>
          intro a w1 hb hd hsz hk
          have ea := act_puts hd hsz rfl hk
          have k77 : a.tmps.getD 77 undef = .bool true := hk 77
          have k78 : a.tmps.getD 78 undef = .bool true := hk 78
          have k79 : a.tmps.getD 79 undef = .bool true := hk 79
          have k80 : a.tmps.getD 80 undef = .bool false := hk 80
          have k81 : a.tmps.getD 81 undef = .bool false := hk 81
          have k82 : a.tmps.getD 82 undef = undef := hk 82
          have k83 : a.tmps.getD 83 undef = undef := hk 83
          have k84 : a.tmps.getD 84 undef = undef := hk 84
          have k85 : a.tmps.getD 85 undef = .bool false := hk 85
          have k86 : a.tmps.getD 86 undef = .bool false := hk 86
          have k87 : a.tmps.getD 87 undef = .bool true := hk 87
          have k88 : a.tmps.getD 88 undef = .bool true := hk 88
          have k89 : a.tmps.getD 89 undef = .int .i64 q := hk 89
          have k90 : a.tmps.getD 90 undef = .int .i64 p := hk 90
          have k91 : a.tmps.getD 91 undef = .slice (some P3) k k := hk 91
          have k92 : (Fact.lies s m).φ (a.tmps.getD 92 undef) w1 := hk 92
          have k93 : a.tmps.getD 93 undef = .string SS := hk 93
          have k94 : a.tmps.getD 94 undef = .slice D m dap := hk 94
          have k95 : a.tmps.getD 95 undef = .string SS := hk 95
          have k96 : a.tmps.getD 96 undef = .bool true := hk 96
          have k97 : a.tmps.getD 97 undef = .bool true := hk 97
          have k98 : a.tmps.getD 98 undef = .bool true := hk 98
          have k99 : a.tmps.getD 99 undef = .bool true := hk 99
          have k8 : a.tmps.getD 8 undef = .bool true := hk 8
          clear hk hd hsz
          simp only [List.map_cons, List.map_nil, List.foldl_cons, List.foldl_nil, k77, k78, k79, k80, k81, k82, k83, k84, k85, k86, k87, k88, k89, k90, k91, k93, k94, k95, k96, k97, k98, k99, k8] at ea
          clear k77 k78 k79 k80 k81 k82 k83 k84 k85 k86 k87 k88 k89 k90 k91 k93 k94 k95 k96 k97 k98 k99 k8
          generalize a.tmps.getD 92 undef = v92 at ea k92
          simp only [Act.put, List.setIfInBounds_toArray, List.set_cons_succ, List.set_cons_zero] at ea
          subst ea
          have c5 := B4.out.trans ((undrew hb).mono B4.out.size)
          go_wp2
          go_ret
          exact ⟨rfl, c5⟩
      · have HCG := Lib.hid (cget_no q p D dap m s w2 HM.out (by simpa using hok) D2.out T2.out)
        clear hok
        go_wp2_with fail
        refine HCG.out.mono ?_
        rintro e w4 ⟨rfl, b4⟩
        have B4 := Lib.hid (B2.out.trans (b4.mono B2.out.size))
        clear b4 HCG
        go_wp2
        refine wp_softS (by kernel_rfl) 100 [(77, [9]), (78, [77]), (79, [14, 78]), (80, [79, 78]), (81, [80, 78]), (82, [13, 81]), (83, [82, 81]), (84, [83, 81]), (85, [81, 84, 78]), (86, [85, 78]), (87, [14, 86]), (88, [87, 86]), (89, [0, 88]), (90, [1, 88]), (91, [13, 88]), (92, [89, 90, 91, 88]), (93, [92, 88]), (94, [3, 88]), (95, [94, 88]), (96, [93, 95, 88]), (97, [88, 96, 86]), (98, [86, 97, 78]), (99, [78, 98]), (8, [99])]
          [Fact.is (.bool true), Fact.is (.bool true), Fact.is (.bool false), Fact.is (.bool true), Fact.is (.bool true), Fact.is (.slice none 0 0), Fact.is (.int .i64 0), Fact.is (.bool true), Fact.is (.bool true), Fact.is (.bool true), Fact.is (undef), Fact.is (undef), Fact.is (undef), Fact.is (undef), Fact.is (undef), Fact.is (undef), Fact.is (undef), Fact.is (undef), Fact.is (undef), Fact.is (undef), Fact.is (undef), Fact.is (.bool true), Fact.is (.bool true), Fact.is (.bool true)]
          (by kernel_rfl) rfl rfl ⟨?s0, ?s1, ?s2, ?s3, ?s4, ?s5, ?s6, ?s7, ?s8, ?s9, ?s10, ?s11, ?s12, ?s13, ?s14, ?s15, ?s16, ?s17, ?s18, ?s19, ?s20, ?s21, ?s22, ?s23, trivial⟩ ?fin
        case s0 =>
          intro ρ W hb hc hf hr
          obtain ⟨r9, -⟩ := hr
          have e9 : ρ (.tmp 9) = .bool true := r9
          clear r9
          refine under_none rfl ?_
          exact ⟨e9, Below.refl _ _⟩
        case s1 =>
          intro ρ W hb hc hf hr
          obtain ⟨r77, -⟩ := hr
          have e77 : ρ (.tmp 77) = .bool true := r77
          clear r77
          refine under_none rfl ?_
          exact ⟨e77, Below.refl _ _⟩
        case s2 =>
          intro ρ W hb hc hf hr
          obtain ⟨r14, r78, -⟩ := hr
          have e14 : ρ (.tmp 14) = .bool false := r14
          clear r14
          have e78 : ρ (.tmp 78) = .bool true := r78
          clear r78
          refine ⟨78, rfl, .inl ⟨e78, ?_⟩⟩
          exact ⟨e14, Below.refl _ _⟩
        case s3 =>
          intro ρ W hb hc hf hr
          obtain ⟨r79, r78, -⟩ := hr
          have e79 : ρ (.tmp 79) = .bool false := r79
          clear r79
          have e78 : ρ (.tmp 78) = .bool true := r78
          clear r78
          refine ⟨78, rfl, .inl ⟨e78, ?_⟩⟩
          simp [execOp, e79, go_sem, softUpon, Fact.is, Below.refl]
        case s4 =>
          intro ρ W hb hc hf hr
          obtain ⟨r80, r78, -⟩ := hr
          have e80 : ρ (.tmp 80) = .bool true := r80
          clear r80
          have e78 : ρ (.tmp 78) = .bool true := r78
          clear r78
          refine ⟨78, rfl, .inl ⟨e78, ?_⟩⟩
          exact ⟨e80, Below.refl _ _⟩
        case s5 =>
          intro ρ W hb hc hf hr
          obtain ⟨r13, r81, -⟩ := hr
          have e13 : ρ (.tmp 13) = .slice none 0 0 := r13
          clear r13
          have e81 : ρ (.tmp 81) = .bool true := r81
          clear r81
          refine ⟨81, rfl, .inl ⟨e81, ?_⟩⟩
          exact ⟨e13, Below.refl _ _⟩
        case s6 =>
          intro ρ W hb hc hf hr
          obtain ⟨r82, r81, -⟩ := hr
          have e82 : ρ (.tmp 82) = .slice none 0 0 := r82
          clear r82
          have e81 : ρ (.tmp 81) = .bool true := r81
          clear r81
          refine ⟨81, rfl, .inl ⟨e81, ?_⟩⟩
          simp [e82, go_sem, softUpon, Fact.is, Below.refl]
        case s7 =>
          intro ρ W hb hc hf hr
          obtain ⟨r83, r81, -⟩ := hr
          have e83 : ρ (.tmp 83) = .int .i64 0 := r83
          clear r83
          have e81 : ρ (.tmp 81) = .bool true := r81
          clear r81
          refine ⟨81, rfl, .inl ⟨e81, ?_⟩⟩
          exact soft_bin e83 (hc _) rfl rfl (by go_simp)
        case s8 =>
          intro ρ W hb hc hf hr
          obtain ⟨r81, r84, r78, -⟩ := hr
          have e81 : ρ (.tmp 81) = .bool true := r81
          clear r81
          have e84 : ρ (.tmp 84) = .bool true := r84
          clear r84
          have e78 : ρ (.tmp 78) = .bool true := r78
          clear r78
          refine ⟨78, rfl, .inl ⟨e78, ?_⟩⟩
          simp [execOp, e81, e84, go_sem, softUpon, Fact.is, Below.refl]
        case s9 =>
          intro ρ W hb hc hf hr
          obtain ⟨r85, r78, -⟩ := hr
          have e85 : ρ (.tmp 85) = .bool true := r85
          clear r85
          have e78 : ρ (.tmp 78) = .bool true := r78
          clear r78
          refine ⟨78, rfl, .inl ⟨e78, ?_⟩⟩
          exact ⟨e85, Below.refl _ _⟩
        case s10 =>
          intro ρ W hb hc hf hr
          obtain ⟨r14, r86, -⟩ := hr
          have e14 : ρ (.tmp 14) = .bool false := r14
          clear r14
          have e86 : ρ (.tmp 86) = .bool true := r86
          clear r86
          exact ⟨86, rfl, .inr (.inl ⟨e86, rfl⟩)⟩
        case s11 =>
          intro ρ W hb hc hf hr
          obtain ⟨r87, r86, -⟩ := hr
          have e87 : ρ (.tmp 87) = undef := r87
          clear r87
          have e86 : ρ (.tmp 86) = .bool true := r86
          clear r86
          exact ⟨86, rfl, .inr (.inl ⟨e86, rfl⟩)⟩
        case s12 =>
          intro ρ W hb hc hf hr
          obtain ⟨r0, r88, -⟩ := hr
          have e0 : ρ (.tmp 0) = .int .i64 q := r0
          clear r0
          have e88 : ρ (.tmp 88) = undef := r88
          clear r88
          exact ⟨88, rfl, .inr (.inr ⟨e88, rfl⟩)⟩
        case s13 =>
          intro ρ W hb hc hf hr
          obtain ⟨r1, r88, -⟩ := hr
          have e1 : ρ (.tmp 1) = .int .i64 p := r1
          clear r1
          have e88 : ρ (.tmp 88) = undef := r88
          clear r88
          exact ⟨88, rfl, .inr (.inr ⟨e88, rfl⟩)⟩
        case s14 =>
          intro ρ W hb hc hf hr
          obtain ⟨r13, r88, -⟩ := hr
          have e13 : ρ (.tmp 13) = .slice none 0 0 := r13
          clear r13
          have e88 : ρ (.tmp 88) = undef := r88
          clear r88
          exact ⟨88, rfl, .inr (.inr ⟨e88, rfl⟩)⟩
        case s15 =>
          intro ρ W hb hc hf hr
          obtain ⟨r89, r90, r91, r88, -⟩ := hr
          have e89 : ρ (.tmp 89) = undef := r89
          clear r89
          have e90 : ρ (.tmp 90) = undef := r90
          clear r90
          have e91 : ρ (.tmp 91) = undef := r91
          clear r91
          have e88 : ρ (.tmp 88) = undef := r88
          clear r88
          exact ⟨88, rfl, .inr (.inr ⟨e88, rfl⟩)⟩
        case s16 =>
          intro ρ W hb hc hf hr
          obtain ⟨r92, r88, -⟩ := hr
          have e92 : ρ (.tmp 92) = undef := r92
          clear r92
          have e88 : ρ (.tmp 88) = undef := r88
          clear r88
          exact ⟨88, rfl, .inr (.inr ⟨e88, rfl⟩)⟩
        case s17 =>
          intro ρ W hb hc hf hr
          obtain ⟨r3, r88, -⟩ := hr
          have e3 : ρ (.tmp 3) = .slice D m dap := r3
          clear r3
          have e88 : ρ (.tmp 88) = undef := r88
          clear r88
          exact ⟨88, rfl, .inr (.inr ⟨e88, rfl⟩)⟩
        case s18 =>
          intro ρ W hb hc hf hr
          obtain ⟨r94, r88, -⟩ := hr
          have e94 : ρ (.tmp 94) = undef := r94
          clear r94
          have e88 : ρ (.tmp 88) = undef := r88
          clear r88
          exact ⟨88, rfl, .inr (.inr ⟨e88, rfl⟩)⟩
        case s19 =>
          intro ρ W hb hc hf hr
          obtain ⟨r93, r95, r88, -⟩ := hr
          have e93 : ρ (.tmp 93) = undef := r93
          clear r93
          have e95 : ρ (.tmp 95) = undef := r95
          clear r95
          have e88 : ρ (.tmp 88) = undef := r88
          clear r88
          exact ⟨88, rfl, .inr (.inr ⟨e88, rfl⟩)⟩
        case s20 =>
          intro ρ W hb hc hf hr
          obtain ⟨r88, r96, r86, -⟩ := hr
          have e88 : ρ (.tmp 88) = undef := r88
          clear r88
          have e96 : ρ (.tmp 96) = undef := r96
          clear r96
          have e86 : ρ (.tmp 86) = .bool true := r86
          clear r86
          exact ⟨86, rfl, .inr (.inl ⟨e86, rfl⟩)⟩
        case s21 =>
          intro ρ W hb hc hf hr
          obtain ⟨r86, r97, r78, -⟩ := hr
          have e86 : ρ (.tmp 86) = .bool true := r86
          clear r86
          have e97 : ρ (.tmp 97) = undef := r97
          clear r97
          have e78 : ρ (.tmp 78) = .bool true := r78
          clear r78
          refine ⟨78, rfl, .inl ⟨e78, ?_⟩⟩
          simp [execOp, e86, hc, go_sem, softUpon, Fact.is, Below.refl]
        case s22 =>
          intro ρ W hb hc hf hr
          obtain ⟨r78, r98, -⟩ := hr
          have e78 : ρ (.tmp 78) = .bool true := r78
          clear r78
          have e98 : ρ (.tmp 98) = .bool true := r98
          clear r98
          refine under_none rfl ?_
          simp [execOp, e78, e98, go_sem, softUpon, Fact.is, Below.refl]
        case s23 =>
          intro ρ W hb hc hf hr
          obtain ⟨r99, -⟩ := hr
          have e99 : ρ (.tmp 99) = .bool true := r99
          clear r99
          refine under_none rfl ?_
          exact ⟨e99, Below.refl _ _⟩
        case fin =>
          intro a w1 hb hd hsz hk
          have ea := act_puts hd hsz rfl hk
          have k77 : a.tmps.getD 77 undef = .bool true := hk 77
          have k78 : a.tmps.getD 78 undef = .bool true := hk 78
          have k79 : a.tmps.getD 79 undef = .bool false := hk 79
          have k80 : a.tmps.getD 80 undef = .bool true := hk 80
          have k81 : a.tmps.getD 81 undef = .bool true := hk 81
          have k82 : a.tmps.getD 82 undef = .slice none 0 0 := hk 82
          have k83 : a.tmps.getD 83 undef = .int .i64 0 := hk 83
          have k84 : a.tmps.getD 84 undef = .bool true := hk 84
          have k85 : a.tmps.getD 85 undef = .bool true := hk 85
          have k86 : a.tmps.getD 86 undef = .bool true := hk 86
          have k87 : a.tmps.getD 87 undef = undef := hk 87
          have k88 : a.tmps.getD 88 undef = undef := hk 88
          have k89 : a.tmps.getD 89 undef = undef := hk 89
          have k90 : a.tmps.getD 90 undef = undef := hk 90
          have k91 : a.tmps.getD 91 undef = undef := hk 91
          have k92 : a.tmps.getD 92 undef = undef := hk 92
          have k93 : a.tmps.getD 93 undef = undef := hk 93
          have k94 : a.tmps.getD 94 undef = undef := hk 94
          have k95 : a.tmps.getD 95 undef = undef := hk 95
          have k96 : a.tmps.getD 96 undef = undef := hk 96
          have k97 : a.tmps.getD 97 undef = undef := hk 97
          have k98 : a.tmps.getD 98 undef = .bool true := hk 98
          have k99 : a.tmps.getD 99 undef = .bool true := hk 99
          have k8 : a.tmps.getD 8 undef = .bool true := hk 8
          clear hk hd hsz
          simp only [List.map_cons, List.map_nil, List.foldl_cons, List.foldl_nil, k77, k78, k79, k80, k81, k82, k83, k84, k85, k86, k87, k88, k89, k90, k91, k92, k93, k94, k95, k96, k97, k98, k99, k8] at ea
          clear k77 k78 k79 k80 k81 k82 k83 k84 k85 k86 k87 k88 k89 k90 k91 k92 k93 k94 k95 k96 k97 k98 k99 k8
          simp only [Act.put, List.setIfInBounds_toArray, List.set_cons_succ, List.set_cons_zero] at ea
          subst ea
          have c5 := B4.out.trans ((undrew hb).mono B4.out.size)
          go_wp2
          go_ret
          exact ⟨rfl, c5⟩
  · have hd : decide ((900 : Int) < (n : Int)) = true ∨ (decide ((900 : Int) < (n : Int)) = false ∧ decide ((900 : Int) < (m : Int)) = true) := by
      simp only [decide_eq_true_eq, decide_eq_false_iff_not]; omega
    clear h9 hn hm hA hD
    rcases hd with hd1 | ⟨hd1, hd2⟩
    · go_enter Tryd.func4, Tryd.ntmps4
      go_wp2_with fail
      refine (head_any _ HT.out).mono ?_
      rintro e w1 ⟨rfl, hb1⟩
      go_wp2
      go_ret
      exact ⟨rfl, hb1⟩
    · go_enter Tryd.func4, Tryd.ntmps4
      go_wp2_with fail
      refine (head_any _ HT.out).mono ?_
      rintro e w1 ⟨rfl, hb1⟩
      go_wp2
      go_ret
      exact ⟨rfl, hb1⟩

theorem walk (w : World) (hT : Tab w) (q : Int) (_ : -9223372036854775808 ≤ q ∧ q ≤ 9223372036854775807) (p : Int) (_ : -9223372036854775808 ≤ p ∧ p ≤ 9223372036854775807) (A : Option Addr) (cap : Nat) (bs : List UInt8) (_ : bs.length ≤ cap) (_ : cap ≤ maxLen) (hA : Lies w A (cells bs)) (D : Option Addr) (dap : Nat) (s : List UInt8) (_ : s.length ≤ dap) (_ : dap ≤ maxLen) (hD : Lies w D (cells s)) :
    Calls Tryd.prog 4 #[.int .i64 q, .int .i64 p, .slice A bs.length cap, .slice D s.length dap] w fun e w' => e = .returned (.bool true) ∧ Below w.heap.size w w' :=
  walkN w hT q p A cap bs.length bs rfl hA D dap s.length s rfl hD


set_option maxRecDepth 100000 in
theorem lifted (os : Os) (started : os.Started) (H : Type) (enc : TypeId × Value → H) :
    ReturnsInHanded {} Tryd.checked os 4 .any (fun w args => (Rows.cellBackSpec.pre enc Tryd.prog Tryd.f4 [] false w args ∧ laidMetH Tryd.prog laidHere w) ∧ sizedMet enc Tryd.prog Tryd.f4 (OpenSpec.ofChange Rows.cellBackSpec) false w args) (Rows.cellBackSpec.post enc Tryd.prog Tryd.f4 false true false false) := by
  refine returnsInHanded_of_change_and (C := Tryd.checked) (X := fun w _ => laidMetH Tryd.prog laidHere w) (fun _ _ _ hh h => h.of_heap hh) own started (by kernel_rfl) Tryd.func4
    (ChangeSpec.witness_shaped (enc := enc) (C := Tryd.checked) (os := os) (X := fun w _ => laidMetH Tryd.prog laidHere w) false (World.doorLaid Tryd.prog doorSteps os) #[.int .i64 0, .int .i64 0, .slice none 0 0, .slice none 0 0] 8 rfl (World.shaped_of_RefB (by kernel_rfl) (by kernel_rfl)) (by kernel_rfl) (by kernel_rfl) (by kernel_rfl) (door_met os _)) ?_
  intro W base args ds gs before hval0 hW _ _ hL _
  have hval : ∀ (j : Nat) t v, Tryd.f4.params[j]? = some t → args[j]? = some v → Value.okWide Tryd.prog W .any base t v := hval0
  have hfin := fun W' => law_post (enc := enc) (P := Tryd.prog) (f := Tryd.f4) (s := Rows.cellBackSpec) (tb := 4) (W := W) (W' := W') (args := args) (ds := ds) (gs := gs) (before := before) laidOut rfl (by kernel_rfl) Tryd.underlying4 (by kernel_rfl) (fun xs h => by rw [Tryd.params4] at h; match xs, h with | [_, _, _, _], _ => rfl) hW
  have hlt : ∀ x ∈ before, x.block < W.heap.size := fun x hx => hW.lt x hx
  obtain ⟨p, q, hA0, hV, rfl, hfz, hnd⟩ := hW
  have hA : DataW.TrodAll enc Tryd.prog W 0 (fun _ => true) true Tryd.f4.params.toList args.toList ds p := hA0
  rw [Tryd.params4] at hA hval
  obtain ⟨v0, vs0, d0, ds0, p0, q0, hargs, rfl, rfl, h0, r0⟩ := trodAll_cons hA
  obtain ⟨v1, vs1, d1, ds1, p1, q1, rfl, rfl, rfl, h1, r1⟩ := trodAll_cons r0
  obtain ⟨v2, vs2, d2, ds2, p2, q2, rfl, rfl, rfl, h2, r2⟩ := trodAll_cons r1
  obtain ⟨v3, vs3, d3, ds3, p3, q3, rfl, rfl, rfl, h3, r3⟩ := trodAll_cons r2
  obtain ⟨rfl, rfl, rfl⟩ := trodAll_nil r3
  obtain rfl : args = #[v0, v1, v2, v3] := by cases args; simp_all
  obtain ⟨a0, rfl, rfl, rfl, w0⟩ := open_int Tryd.underlying2 (hval 0 2 v0 rfl rfl) h0
  obtain ⟨a1, rfl, rfl, rfl, w1⟩ := open_int Tryd.underlying3 (hval 1 3 v1 rfl rfl) h1
  obtain ⟨A2, cap2, b2, rfl, hl2, hm2, hB2⟩ := open_bytes (hval 2 22 v2 rfl rfl) h2 (fun x hx => hlt x (by simp [hx]))
  obtain ⟨A3, cap3, b3, rfl, hl3, hm3, hB3⟩ := open_bytes (hval 3 22 v3 rfl rfl) h3 (fun x hx => hlt x (by simp [hx]))
  refine (walk W (of_laid hL) a0 (bounds_i64 w0) a1 (bounds_i64 w1) A2 cap2 b2 hl2 hm2 hB2 A3 cap3 b3 hl3 hm3 hB3).mono fun e W' ⟨he, hg⟩ => ?_
  subst he
  exact ⟨_, rfl, hfin W' hg⟩

theorem proved : Rows.CellBackSaid :=
  OpenClaim.holds_of_wide 4 Tryd.f4 rfl rfl rfl rfl rfl rfl rfl ⟨rfl, rfl, rfl, rfl, rfl⟩ rfl rfl rfl rfl rfl (by kernel_rfl) Tryd.func4 (by kernel_rfl)
    (of_decide_eq_true (by kernel_rfl)) (by unfold Func.isWrapper; first | (rw [if_pos (by decide +kernel)]; kernel_rfl) | (rw [if_neg (by decide +kernel)]; exact ⟨rfl, rfl⟩))
    (fun os started H enc _ => lifted os started H enc)

set_option maxRecDepth 100000 in
theorem card : Rows.CellBackCardSaid :=
  Claim7.holds_tied_plain_at .later [] laidKindsHere true _ false
    proved (fun _ h => by cases h) (by kernel_rfl) (fun _ h => by cases h) cellBack_row_tie rfl ⟨rfl, rfl⟩ (by kernel_rfl) rfl
    (fun f fn hf hfn => by
      obtain rfl : f = 4 := Option.some.inj ((show Tryd.prog.funcNamed "turntable/turntablelaw08.CellBack" = some 4 by kernel_rfl).symm.trans hf) |>.symm
      obtain rfl : fn = Tryd.f4 := (Option.some.inj (Tryd.func4.symm.trans hfn)).symm
      exact ⟨by kernel_rfl, fun j t ht => by
        rw [Tryd.params4] at ht
        have hm : t ∈ [2, 3, 22, 22] := Array.mem_def.1 (Array.mem_of_getElem? ht)
        have hall : ([2, 3, 22, 22].all fun u => !Tryd.prog.wantsStandIn u) = true := by kernel_rfl
        exact (show Tryd.prog.wantsStandIn t = false by simpa using List.all_eq_true.1 hall t hm)⟩)
    (by kernel_rfl)
#print axioms card
end Go.Proofs.YtjmjinplihlhcaaDoor.cellBack
