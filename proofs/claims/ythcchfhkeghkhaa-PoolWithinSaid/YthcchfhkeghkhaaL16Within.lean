/-
  PoolWithin (turntablelaw16): holds for every input. No condition but that the inputs are a uint16 and a Go slice of calls. (Made by gen16/l16within.py.)
-/
import Derived.Test.YthcchfhkeghkhaaGrP
import Derived.BigRegion
import Derived.BigQuiet
import Derived.Deep.CutRange
import Derived.Test.YthcchfhkeghkhaaPoZ

namespace Go.Proofs.Ythcchfhkeghkhaa.poolWithin
open Go.RowKit Go.Maps Po
set_option maxRecDepth 100000

theorem run_load16 (W : World) (a : Addr) (z : Int) (h : W.cell? a = some (.int .i64 z)) : (Instr.loadAt 2 (.pointer (some a))).run Try.prog W = .ok (.int .i64 z) W := by
  go_simp
theorem soft_index1 {w : World} {ρ : Operand → Value} {o : Oper} {x y : Operand} {ad : Addr} {n cap k : Nat} (hx : ρ x = .slice (some ad) n cap) (hy : ρ y = .int .i64 (k : Int)) (h : k < n) (ho : o.op = .indexAddr 40 x y) : softUpon Try.prog w (Fact.is (.pointer (some (Addr.add ad k)))) ((execOp ρ o).run Try.prog w) := by
  have hr : (Instr.indexAt 40 (.slice (some ad) n cap) (.int .i64 (k : Int))).run Try.prog w = .ok (.pointer (some (Addr.add ad k))) w := by go_simp
  have e : (execOp ρ o).run Try.prog w = .ok (.value (.pointer (some (Addr.add ad k)))) w := by
    simp [execOp, ho, hx, hy, hr]
  rw [e]
  exact ⟨rfl, Below.refl _ _⟩
theorem conv16 (W : World) (a : Int) (h : 0 ≤ a ∧ a ≤ 65535) : (convert 43 3 (.int .u16 a)).run Try.prog W = .ok (.int .i64 a) W := by
  have hw : IntKind.i64.wrap a = a := by rw [IntKind.wrap_i64]; omega
  go_simp
theorem soft_conv16 {w : World} {ρ : Operand → Value} {o : Oper} {x : Operand} {a : Int} (hx : ρ x = .int .u16 a) (h : 0 ≤ a ∧ a ≤ 65535) (ho : o.op = .convert 43 3 x) : softUpon Try.prog w (Fact.is (.int .i64 a)) ((execOp ρ o).run Try.prog w) := soft_conv hx (conv16 w a h) ho
theorem leq_no16 (W : World) (a b : Int) (h : b < a) : (binOp .leq 2 (.int .i64 a) (.int .i64 b)).run Try.prog W = .ok (.bool false) W := by
  have e : decide (a ≤ b) = false := decide_eq_false (by omega)
  go_simp

set_option maxHeartbeats 8000000 in
theorem walkN {IsP : List Nat → World → Nat → List Nat → Int → List Plain.Sp → Prop} (hOk : PoolOk IsP) (w : World) (mo : Int) (ha : 0 ≤ mo ∧ mo ≤ 65535) (A : Option Addr) (n cap : Nat) (l : List O16) (hn : l.length = n) (hc : n ≤ cap) (hm : cap ≤ maxLen) (hA : Lies w A (flatO16 l)) (hI : ∀ o ∈ l, O16In w o) :
    Calls Try.prog 5 #[.int .u16 mo, .slice A n cap] w fun e w' => e = .returned (.bool true) ∧ Below w.heap.size w w' := by
  have HK := Lib.hid hOk
  have HH := Lib.hid (head16_any hOk w)
  have HN := Lib.hid hn
  have HM := Lib.hid hm
  have HA := Lib.hid hA
  have HI := Lib.hid hI
  unfold maxLen at hm
  clear hOk hn hA hI
  go_enter Try.func5, Try.ntmps5
  go_wp2_with fail
  refine HH.out.mono ?_
  rintro e w1 ⟨rfl, d1⟩
  have HB1 := Lib.hid d1
  clear d1 HH
  go_wp2_with fail
  refine (HK.out.new [] mo w1 (by simp)).mono ?_
  rintro e w2 ⟨p, O, rfl, h2, ho2, d2⟩
  have HP2 := Lib.hid h2
  have HO2 := Lib.hid (fun g (hg : g ∈ O) => show w.heap.size ≤ g from Nat.le_trans HB1.out.size (ho2 g hg))
  have HB2 := Lib.hid (HB1.out.trans (d2.mono HB1.out.size))
  clear h2 ho2 d2 HB1
  go_wp2_with fail
  refine (great16_any A n cap l w2 HN.out hc HM.out (HA.out.below HB2.out) (fun o ho => (HI.out o ho).below HB2.out)).mono ?_
  rintro e w3 ⟨g, rfl, hg, d3⟩
  have HP3 := Lib.hid (HK.out.below HP2.out d3)
  have HB3 := Lib.hid (HB2.out.trans (d3.mono HB2.out.size))
  clear d3 HP2 HB2
  rcases g with _ | _
  rotate_left
  · go_wp2
    go_ret
    exact ⟨rfl, HB3.out⟩
  · obtain ⟨h40, -, -⟩ := hg rfl
    clear hg
    go_wp2
    go_loopw [7] (fun s7 wr => ∃ (k : Nat) (O : List Nat) (G : List Plain.Sp), s7 = .int .i64 (k : Int) ∧ k ≤ n ∧ IsP [] wr p O mo G ∧ (∀ g ∈ O, w.heap.size ≤ g) ∧ Below w.heap.size w wr) (fun i _ => n - (intOf i).toNat)
    case atStart => exact ⟨0, O, [], rfl, Nat.zero_le _, HP3.out, HO2.out, HB3.out⟩
    case round =>
      obtain ⟨k, O', G, rfl, hk, hP, hO, hbr⟩ := hrel
      have HP := Lib.hid hP
      have HO := Lib.hid hO
      have HBR := Lib.hid hbr
      clear hP hO hbr HP3 HO2 HB3
      by_cases hlt : k < n
      · have hkl : k < l.length := by rw [HN.out]; exact hlt
        obtain ⟨ad, rfl, hadb, hcl⟩ := at_o16 HA.out k hkl
        obtain ⟨x0, x1, x2⟩ := hcl wr HBR.out
        have HOI := Lib.hid (HI.out _ (List.getElem_mem hkl))
        obtain ⟨o, ho⟩ : ∃ o, l[k]'hkl = o := ⟨_, rfl⟩
        rw [ho] at x0 x1 x2 HOI
        clear hcl ho
        by_cases hw3 : o.what = 3
        · have t3 : (o.what == 3) = true := by simpa using hw3
          have HT := Lib.hid (HK.out.take HP.out (by simp) o.id)
          clear hw3
          go_wp2_with fail
          refine HT.out.mono ?_
          rintro e w4 ⟨rfl, O4, h4, k4, o4⟩
          have HP4 := Lib.hid h4
          have HB4 := Lib.hid (Kept.below HBR.out k4 HO.out)
          have HO4 := Lib.hid (fun g (hg : g ∈ O4) => show w.heap.size ≤ g from (o4 g hg).elim (HO.out g) (fun h => Nat.le_trans HBR.out.size h))
          generalize Po.drop G o.id = G4 at *
          clear h4 k4 o4 HT HP HBR HO x0 x1 x2
          have HOK := Lib.hid (HK.out.ok HP4.out)
          obtain ⟨m, hm2⟩ : ∃ m, (Po.ids G4).length = m := ⟨_, rfl⟩
          have HMM := Lib.hid hm2
          have hm64 : m ≤ 64 := by rw [← hm2]; exact HOK.out.many
          clear hm2
          go_wp2_with fail
          refine (HK.out.ids_as HP4.out rfl HMM.out).mono ?_
          rintro e w5 ⟨AI, cI, rfl, hi1, hi2, hiL, hio, d5⟩
          have HP5 := Lib.hid (HK.out.below HP4.out d5)
          have HI5 := Lib.hid hiL
          have HB5 := Lib.hid (HB4.out.trans (d5.mono HB4.out.size))
          clear d5 hiL hio HP4 HB4
          have t64 : decide ((64 : Int) < (m : Int)) = false := decide_eq_false (by omega)
          go_wp2_with fail
          refine (HK.out.many_as HP5.out (n := (m : Int)) (by rw [HMM.out])).mono ?_
          rintro e w6 ⟨rfl, d6⟩
          have HP6 := Lib.hid (HK.out.below HP5.out d6)
          have HI6 := Lib.hid (HI5.out.below d6)
          have HB6 := Lib.hid (HB5.out.trans (d6.mono HB5.out.size))
          clear d6 HP5 HI5 HB5
          unfold maxLen at hi2
          go_wp2
          go_loopw [9] (fun s9 wr => ∃ j : Nat, s9 = .int .i64 (j : Int) ∧ j ≤ m ∧ Below w6.heap.size w6 wr) (fun i _ => m - (intOf i).toNat)
          case atStart => exact ⟨0, rfl, Nat.zero_le _, Below.refl _ _⟩
          case round =>
            obtain ⟨j, rfl, hj, hb6⟩ := hrel
            have HW := Lib.hid hb6
            clear hb6
            by_cases hjm : j < m
            · have hji : j < (Po.ids G4).length := by rw [HMM.out]; exact hjm
              obtain ⟨ai, rfl, haib, hci⟩ := at_num HI6.out j hji
              obtain ⟨i, hi⟩ : ∃ i, (Po.ids G4)[j]'hji = i := ⟨_, rfl⟩
              simp only [hi] at hci
              have z0 := hci _ HW.out
              have HII := Lib.hid (show i ∈ Po.ids G4 by rw [← hi]; exact List.getElem_mem hji)
              obtain ⟨s, hs⟩ : ∃ s, (Po.part G4 i).length = s := ⟨_, rfl⟩
              have HS := Lib.hid hs
              have HPW := Lib.hid (HK.out.below HP6.out HW.out)
              go_wp2_with fail
              refine (HK.out.get_as HPW.out i (decide_eq_true HII.out) rfl HS.out).mono ?_
              rintro e wa ⟨AX, cX, rfl, hx1, hx2, hxL, -, da⟩
              have HWA := Lib.hid (HW.out.trans (da.mono HW.out.size))
              have hs0 : 0 < s := by rw [← hs]; exact List.length_pos_iff.2 (part_num HII.out).1
              obtain ⟨ax, rfl, haxb, hcx⟩ := at_span hxL 0 (by rw [HS.out]; exact hs0)
              have HFX := Lib.hid (fine_right (l := Po.part G4 i) fun x hx => HOK.out.right x (part_mem.1 hx).1)
              have hq0 : ((Po.part G4 i)[0]'(by rw [HS.out]; exact hs0)).t = i := (part_mem.1 (List.getElem_mem _)).2
              have HX0 := Lib.hid (fun (W : World) (hW : Below wa.heap.size wa W) => show W.cell? (ax.add (0 * 7)) = some (.int .i64 i) by have := (hcx W hW).1; rwa [hq0] at this)
              have HI0 := Lib.hid (fun (W : World) (hW : Below wa.heap.size wa W) => hci W (HWA.out.trans (hW.mono HWA.out.size)))
              have HTR := Lib.hid (fun (W : World) (hW : Below wa.heap.size wa W) => show Calls Try.prog 25 #[.slice (some ax) s cX] W _ from rtright_any (some ax) s cX (Po.part G4 i) W HS.out (hxL.below hW) HFX.out)
              rw [part_isT HOK.out HII.out] at HTR
              obtain ⟨ct, hctt⟩ : ∃ ct : Int, (Rc.cost (Po.part G4 i) : Int) = ct := ⟨_, rfl⟩
              have HCO := Lib.hid (fun (W : World) (hW : Below wa.heap.size wa W) => show Calls Try.prog 26 #[.slice (some ax) s cX] W _ from rcost13_any (some ax) s cX (Po.part G4 i) W HS.out (hxL.below hW) HFX.out)
              rw [hctt] at HCO
              have hct : decide (mo < ct) = false := decide_eq_false (by rw [← hctt]; have := HOK.out.cost i HII.out; omega)
              have hbd : Below wa.heap.size wa wa.drew := (Below.refl _ _).drew
              have HUP := Lib.hid (ids_up G4)
              by_cases hjp : 0 < j
              · have hj0 : decide ((0 : Int) < (j : Int)) = true := decide_eq_true (by omega)
                have hjj : j - 1 < (Po.ids G4).length := by omega
                obtain ⟨ai2, e2, -, hci2⟩ := at_num HI6.out (j - 1) hjj
                injection e2 with e2
                subst e2
                obtain ⟨i0, hi0⟩ : ∃ i0, (Po.ids G4)[j - 1]'hjj = i0 := ⟨_, rfl⟩
                simp only [hi0] at hci2
                have hii : i0 < i := by rw [← hi, ← hi0]; exact List.pairwise_iff_getElem.1 HUP.out (j - 1) j hjj hji (by omega)
                have HI1 := Lib.hid (fun (W : World) (hW : Below wa.heap.size wa W) => hci2 W (HWA.out.trans (hW.mono HWA.out.size)))
                clear hci hcx hi hs hctt hci2 hi0 hji hjj z0 da hq0
                go_wp2
                refine wp_softS (by kernel_rfl) 122 [(80, [11]), (81, [80]), (82, [81]), (83, [10, 82]), (84, [83, 82]), (85, [84, 82]), (86, [82, 85]), (87, [86]), (88, [10, 87]), (89, [88, 87]), (90, [89, 87]), (91, [90, 87]), (92, [8, 87]), (93, [9, 87]), (94, [92, 93, 87]), (95, [94, 87]), (96, [91, 95, 87]), (97, [87, 96]), (98, [97]), (99, [10, 98]), (100, [99, 98]), (101, [0, 98]), (102, [101, 98]), (103, [100, 102, 98]), (104, [98, 103]), (105, [104]), (106, [9, 105]), (107, [106, 105]), (108, [107, 105]), (109, [8, 108]), (110, [9, 108]), (111, [109, 110, 108]), (112, [111, 108]), (113, [8, 108]), (114, [9, 108]), (115, [114, 108]), (116, [113, 115, 108]), (117, [116, 108]), (118, [112, 117, 108]), (119, [108, 118, 105]), (120, [105, 119])]
                  [Fact.is (.bool true), Fact.is (.bool false), Fact.is (.bool false), Fact.is (.slice (some ax) s cX), Fact.is (.bool true), Fact.is (.bool false), Fact.is (.bool false), Fact.is (.bool false), Fact.is (.slice (some ax) s cX), Fact.is (.pointer (some (Addr.add ax (0 * 7)))), Fact.is (.pointer (some (Addr.add ax (0 * 7)))), Fact.is (.int .i64 i), Fact.is (.slice (some ai) m cI), Fact.is (.int .i64 (j : Int)), Fact.is (.pointer (some (Addr.add ai j))), Fact.is (.int .i64 i), Fact.is (.bool false), Fact.is (.bool false), Fact.is (.bool false), Fact.is (.slice (some ax) s cX), Fact.is (.int .i64 ct), Fact.is (.int .u16 mo), Fact.is (.int .i64 mo), Fact.is (.bool false), Fact.is (.bool false), Fact.is (.bool false), Fact.is (.int .i64 (j : Int)), Fact.is (.bool true), Fact.is (.bool true), Fact.is (.slice (some ai) m cI), Fact.is (.int .i64 (j : Int)), Fact.is (.pointer (some (Addr.add ai j))), Fact.is (.int .i64 i), Fact.is (.slice (some ai) m cI), Fact.is (.int .i64 (j : Int)), Fact.is (.int .i64 ((j - 1 : Nat) : Int)), Fact.is (.pointer (some (Addr.add ai (j - 1)))), Fact.is (.int .i64 i0), Fact.is (.bool false), Fact.is (.bool false), Fact.is (.bool false)]
                  (by kernel_rfl) rfl rfl ⟨?s0, ?s1, ?s2, ?s3, ?s4, ?s5, ?s6, ?s7, ?s8, ?s9, ?s10, ?s11, ?s12, ?s13, ?s14, ?s15, ?s16, ?s17, ?s18, ?s19, ?s20, ?s21, ?s22, ?s23, ?s24, ?s25, ?s26, ?s27, ?s28, ?s29, ?s30, ?s31, ?s32, ?s33, ?s34, ?s35, ?s36, ?s37, ?s38, ?s39, ?s40, trivial⟩ ?fin
                case s0 =>
                  intro ρ W hb hc hf hr
                  obtain ⟨r11, -⟩ := hr
                  have e11 : ρ (.tmp 11) = .bool true := r11
                  clear r11
                  refine under_none rfl ?_
                  exact ⟨e11, Below.refl _ _⟩
                case s1 =>
                  intro ρ W hb hc hf hr
                  obtain ⟨r80, -⟩ := hr
                  have e80 : ρ (.tmp 80) = .bool true := r80
                  clear r80
                  refine under_none rfl ?_
                  simp [execOp, e80, go_sem, softUpon, Fact.is, Below.refl]
                case s2 =>
                  intro ρ W hb hc hf hr
                  obtain ⟨r81, -⟩ := hr
                  have e81 : ρ (.tmp 81) = .bool false := r81
                  clear r81
                  refine under_none rfl ?_
                  exact ⟨e81, Below.refl _ _⟩
                case s3 =>
                  intro ρ W hb hc hf hr
                  obtain ⟨r10, r82, -⟩ := hr
                  have e10 : ρ (.tmp 10) = .slice (some ax) s cX := r10
                  clear r10
                  have e82 : ρ (.tmp 82) = .bool false := r82
                  clear r82
                  refine ⟨82, rfl, .inl ⟨e82, ?_⟩⟩
                  exact ⟨e10, Below.refl _ _⟩
                case s4 =>
                  intro ρ W hb hc hf hr
                  obtain ⟨r83, r82, -⟩ := hr
                  have e83 : ρ (.tmp 83) = .slice (some ax) s cX := r83
                  clear r83
                  have e82 : ρ (.tmp 82) = .bool false := r82
                  clear r82
                  refine ⟨82, rfl, .inl ⟨e82, ?_⟩⟩
                  exact soft_call1 hf e83 (HTR.out W (hbd.trans (hb.mono (by simp)))) rfl (by kernel_rfl) below_is
                case s5 =>
                  intro ρ W hb hc hf hr
                  obtain ⟨r84, r82, -⟩ := hr
                  have e84 : ρ (.tmp 84) = .bool true := r84
                  clear r84
                  have e82 : ρ (.tmp 82) = .bool false := r82
                  clear r82
                  refine ⟨82, rfl, .inl ⟨e82, ?_⟩⟩
                  simp [execOp, e84, go_sem, softUpon, Fact.is, Below.refl]
                case s6 =>
                  intro ρ W hb hc hf hr
                  obtain ⟨r82, r85, -⟩ := hr
                  have e82 : ρ (.tmp 82) = .bool false := r82
                  clear r82
                  have e85 : ρ (.tmp 85) = .bool false := r85
                  clear r85
                  refine under_none rfl ?_
                  simp [execOp, e82, e85, go_sem, softUpon, Fact.is, Below.refl]
                case s7 =>
                  intro ρ W hb hc hf hr
                  obtain ⟨r86, -⟩ := hr
                  have e86 : ρ (.tmp 86) = .bool false := r86
                  clear r86
                  refine under_none rfl ?_
                  exact ⟨e86, Below.refl _ _⟩
                case s8 =>
                  intro ρ W hb hc hf hr
                  obtain ⟨r10, r87, -⟩ := hr
                  have e10 : ρ (.tmp 10) = .slice (some ax) s cX := r10
                  clear r10
                  have e87 : ρ (.tmp 87) = .bool false := r87
                  clear r87
                  refine ⟨87, rfl, .inl ⟨e87, ?_⟩⟩
                  exact ⟨e10, Below.refl _ _⟩
                case s9 =>
                  intro ρ W hb hc hf hr
                  obtain ⟨r88, r87, -⟩ := hr
                  have e88 : ρ (.tmp 88) = .slice (some ax) s cX := r88
                  clear r88
                  have e87 : ρ (.tmp 87) = .bool false := r87
                  clear r87
                  refine ⟨87, rfl, .inl ⟨e87, ?_⟩⟩
                  exact soft_index7 (k := 0) e88 (hc _) hs0 rfl
                case s10 =>
                  intro ρ W hb hc hf hr
                  obtain ⟨r89, r87, -⟩ := hr
                  have e89 : ρ (.tmp 89) = .pointer (some (Addr.add ax (0 * 7))) := r89
                  clear r89
                  have e87 : ρ (.tmp 87) = .bool false := r87
                  clear r87
                  refine ⟨87, rfl, .inl ⟨e87, ?_⟩⟩
                  exact soft_field e89 rfl (fun W => by go_simp)
                case s11 =>
                  intro ρ W hb hc hf hr
                  obtain ⟨r90, r87, -⟩ := hr
                  have e90 : ρ (.tmp 90) = .pointer (some (Addr.add ax (0 * 7))) := r90
                  clear r90
                  have e87 : ρ (.tmp 87) = .bool false := r87
                  clear r87
                  refine ⟨87, rfl, .inl ⟨e87, ?_⟩⟩
                  exact soft_load e90 (run_load16 W _ _ (HX0.out W (hbd.trans (hb.mono (by simp))))) rfl
                case s12 =>
                  intro ρ W hb hc hf hr
                  obtain ⟨r8, r87, -⟩ := hr
                  have e8 : ρ (.tmp 8) = .slice (some ai) m cI := r8
                  clear r8
                  have e87 : ρ (.tmp 87) = .bool false := r87
                  clear r87
                  refine ⟨87, rfl, .inl ⟨e87, ?_⟩⟩
                  exact ⟨e8, Below.refl _ _⟩
                case s13 =>
                  intro ρ W hb hc hf hr
                  obtain ⟨r9, r87, -⟩ := hr
                  have e9 : ρ (.tmp 9) = .int .i64 (j : Int) := r9
                  clear r9
                  have e87 : ρ (.tmp 87) = .bool false := r87
                  clear r87
                  refine ⟨87, rfl, .inl ⟨e87, ?_⟩⟩
                  exact ⟨e9, Below.refl _ _⟩
                case s14 =>
                  intro ρ W hb hc hf hr
                  obtain ⟨r92, r93, r87, -⟩ := hr
                  have e92 : ρ (.tmp 92) = .slice (some ai) m cI := r92
                  clear r92
                  have e93 : ρ (.tmp 93) = .int .i64 (j : Int) := r93
                  clear r93
                  have e87 : ρ (.tmp 87) = .bool false := r87
                  clear r87
                  refine ⟨87, rfl, .inl ⟨e87, ?_⟩⟩
                  exact soft_index1 e92 e93 hjm rfl
                case s15 =>
                  intro ρ W hb hc hf hr
                  obtain ⟨r94, r87, -⟩ := hr
                  have e94 : ρ (.tmp 94) = .pointer (some (Addr.add ai j)) := r94
                  clear r94
                  have e87 : ρ (.tmp 87) = .bool false := r87
                  clear r87
                  refine ⟨87, rfl, .inl ⟨e87, ?_⟩⟩
                  exact soft_load e94 (run_load16 W _ _ (HI0.out W (hbd.trans (hb.mono (by simp))))) rfl
                case s16 =>
                  intro ρ W hb hc hf hr
                  obtain ⟨r91, r95, r87, -⟩ := hr
                  have e91 : ρ (.tmp 91) = .int .i64 i := r91
                  clear r91
                  have e95 : ρ (.tmp 95) = .int .i64 i := r95
                  clear r95
                  have e87 : ρ (.tmp 87) = .bool false := r87
                  clear r87
                  refine ⟨87, rfl, .inl ⟨e87, ?_⟩⟩
                  exact soft_bin e91 e95 rfl rfl (neq_i64 W i i false (by simp))
                case s17 =>
                  intro ρ W hb hc hf hr
                  obtain ⟨r87, r96, -⟩ := hr
                  have e87 : ρ (.tmp 87) = .bool false := r87
                  clear r87
                  have e96 : ρ (.tmp 96) = .bool false := r96
                  clear r96
                  refine under_none rfl ?_
                  simp [execOp, e87, e96, go_sem, softUpon, Fact.is, Below.refl]
                case s18 =>
                  intro ρ W hb hc hf hr
                  obtain ⟨r97, -⟩ := hr
                  have e97 : ρ (.tmp 97) = .bool false := r97
                  clear r97
                  refine under_none rfl ?_
                  exact ⟨e97, Below.refl _ _⟩
                case s19 =>
                  intro ρ W hb hc hf hr
                  obtain ⟨r10, r98, -⟩ := hr
                  have e10 : ρ (.tmp 10) = .slice (some ax) s cX := r10
                  clear r10
                  have e98 : ρ (.tmp 98) = .bool false := r98
                  clear r98
                  refine ⟨98, rfl, .inl ⟨e98, ?_⟩⟩
                  exact ⟨e10, Below.refl _ _⟩
                case s20 =>
                  intro ρ W hb hc hf hr
                  obtain ⟨r99, r98, -⟩ := hr
                  have e99 : ρ (.tmp 99) = .slice (some ax) s cX := r99
                  clear r99
                  have e98 : ρ (.tmp 98) = .bool false := r98
                  clear r98
                  refine ⟨98, rfl, .inl ⟨e98, ?_⟩⟩
                  exact soft_call1 hf e99 (HCO.out W (hbd.trans (hb.mono (by simp)))) rfl (by kernel_rfl) below_is
                case s21 =>
                  intro ρ W hb hc hf hr
                  obtain ⟨r0, r98, -⟩ := hr
                  have e0 : ρ (.tmp 0) = .int .u16 mo := r0
                  clear r0
                  have e98 : ρ (.tmp 98) = .bool false := r98
                  clear r98
                  refine ⟨98, rfl, .inl ⟨e98, ?_⟩⟩
                  exact ⟨e0, Below.refl _ _⟩
                case s22 =>
                  intro ρ W hb hc hf hr
                  obtain ⟨r101, r98, -⟩ := hr
                  have e101 : ρ (.tmp 101) = .int .u16 mo := r101
                  clear r101
                  have e98 : ρ (.tmp 98) = .bool false := r98
                  clear r98
                  refine ⟨98, rfl, .inl ⟨e98, ?_⟩⟩
                  exact soft_conv16 e101 ha rfl
                case s23 =>
                  intro ρ W hb hc hf hr
                  obtain ⟨r100, r102, r98, -⟩ := hr
                  have e100 : ρ (.tmp 100) = .int .i64 ct := r100
                  clear r100
                  have e102 : ρ (.tmp 102) = .int .i64 mo := r102
                  clear r102
                  have e98 : ρ (.tmp 98) = .bool false := r98
                  clear r98
                  refine ⟨98, rfl, .inl ⟨e98, ?_⟩⟩
                  exact soft_bin e100 e102 rfl rfl (gtr_int W ct mo false hct)
                case s24 =>
                  intro ρ W hb hc hf hr
                  obtain ⟨r98, r103, -⟩ := hr
                  have e98 : ρ (.tmp 98) = .bool false := r98
                  clear r98
                  have e103 : ρ (.tmp 103) = .bool false := r103
                  clear r103
                  refine under_none rfl ?_
                  simp [execOp, e98, e103, go_sem, softUpon, Fact.is, Below.refl]
                case s25 =>
                  intro ρ W hb hc hf hr
                  obtain ⟨r104, -⟩ := hr
                  have e104 : ρ (.tmp 104) = .bool false := r104
                  clear r104
                  refine under_none rfl ?_
                  exact ⟨e104, Below.refl _ _⟩
                case s26 =>
                  intro ρ W hb hc hf hr
                  obtain ⟨r9, r105, -⟩ := hr
                  have e9 : ρ (.tmp 9) = .int .i64 (j : Int) := r9
                  clear r9
                  have e105 : ρ (.tmp 105) = .bool false := r105
                  clear r105
                  refine ⟨105, rfl, .inl ⟨e105, ?_⟩⟩
                  exact ⟨e9, Below.refl _ _⟩
                case s27 =>
                  intro ρ W hb hc hf hr
                  obtain ⟨r106, r105, -⟩ := hr
                  have e106 : ρ (.tmp 106) = .int .i64 (j : Int) := r106
                  clear r106
                  have e105 : ρ (.tmp 105) = .bool false := r105
                  clear r105
                  refine ⟨105, rfl, .inl ⟨e105, ?_⟩⟩
                  exact soft_bin e106 (hc _) rfl rfl (gtr_int W _ _ true hj0)
                case s28 =>
                  intro ρ W hb hc hf hr
                  obtain ⟨r107, r105, -⟩ := hr
                  have e107 : ρ (.tmp 107) = .bool true := r107
                  clear r107
                  have e105 : ρ (.tmp 105) = .bool false := r105
                  clear r105
                  refine ⟨105, rfl, .inl ⟨e105, ?_⟩⟩
                  exact ⟨e107, Below.refl _ _⟩
                case s29 =>
                  intro ρ W hb hc hf hr
                  obtain ⟨r8, r108, -⟩ := hr
                  have e8 : ρ (.tmp 8) = .slice (some ai) m cI := r8
                  clear r8
                  have e108 : ρ (.tmp 108) = .bool true := r108
                  clear r108
                  refine ⟨108, rfl, .inl ⟨e108, ?_⟩⟩
                  exact ⟨e8, Below.refl _ _⟩
                case s30 =>
                  intro ρ W hb hc hf hr
                  obtain ⟨r9, r108, -⟩ := hr
                  have e9 : ρ (.tmp 9) = .int .i64 (j : Int) := r9
                  clear r9
                  have e108 : ρ (.tmp 108) = .bool true := r108
                  clear r108
                  refine ⟨108, rfl, .inl ⟨e108, ?_⟩⟩
                  exact ⟨e9, Below.refl _ _⟩
                case s31 =>
                  intro ρ W hb hc hf hr
                  obtain ⟨r109, r110, r108, -⟩ := hr
                  have e109 : ρ (.tmp 109) = .slice (some ai) m cI := r109
                  clear r109
                  have e110 : ρ (.tmp 110) = .int .i64 (j : Int) := r110
                  clear r110
                  have e108 : ρ (.tmp 108) = .bool true := r108
                  clear r108
                  refine ⟨108, rfl, .inl ⟨e108, ?_⟩⟩
                  exact soft_index1 e109 e110 hjm rfl
                case s32 =>
                  intro ρ W hb hc hf hr
                  obtain ⟨r111, r108, -⟩ := hr
                  have e111 : ρ (.tmp 111) = .pointer (some (Addr.add ai j)) := r111
                  clear r111
                  have e108 : ρ (.tmp 108) = .bool true := r108
                  clear r108
                  refine ⟨108, rfl, .inl ⟨e108, ?_⟩⟩
                  exact soft_load e111 (run_load16 W _ _ (HI0.out W (hbd.trans (hb.mono (by simp))))) rfl
                case s33 =>
                  intro ρ W hb hc hf hr
                  obtain ⟨r8, r108, -⟩ := hr
                  have e8 : ρ (.tmp 8) = .slice (some ai) m cI := r8
                  clear r8
                  have e108 : ρ (.tmp 108) = .bool true := r108
                  clear r108
                  refine ⟨108, rfl, .inl ⟨e108, ?_⟩⟩
                  exact ⟨e8, Below.refl _ _⟩
                case s34 =>
                  intro ρ W hb hc hf hr
                  obtain ⟨r9, r108, -⟩ := hr
                  have e9 : ρ (.tmp 9) = .int .i64 (j : Int) := r9
                  clear r9
                  have e108 : ρ (.tmp 108) = .bool true := r108
                  clear r108
                  refine ⟨108, rfl, .inl ⟨e108, ?_⟩⟩
                  exact ⟨e9, Below.refl _ _⟩
                case s35 =>
                  intro ρ W hb hc hf hr
                  obtain ⟨r114, r108, -⟩ := hr
                  have e114 : ρ (.tmp 114) = .int .i64 (j : Int) := r114
                  clear r114
                  have e108 : ρ (.tmp 108) = .bool true := r108
                  clear r108
                  refine ⟨108, rfl, .inl ⟨e108, ?_⟩⟩
                  exact soft_bin e114 (hc _) rfl rfl (sub_one W j hjp (by omega))
                case s36 =>
                  intro ρ W hb hc hf hr
                  obtain ⟨r113, r115, r108, -⟩ := hr
                  have e113 : ρ (.tmp 113) = .slice (some ai) m cI := r113
                  clear r113
                  have e115 : ρ (.tmp 115) = .int .i64 ((j - 1 : Nat) : Int) := r115
                  clear r115
                  have e108 : ρ (.tmp 108) = .bool true := r108
                  clear r108
                  refine ⟨108, rfl, .inl ⟨e108, ?_⟩⟩
                  exact soft_index1 e113 e115 (by omega) rfl
                case s37 =>
                  intro ρ W hb hc hf hr
                  obtain ⟨r116, r108, -⟩ := hr
                  have e116 : ρ (.tmp 116) = .pointer (some (Addr.add ai (j - 1))) := r116
                  clear r116
                  have e108 : ρ (.tmp 108) = .bool true := r108
                  clear r108
                  refine ⟨108, rfl, .inl ⟨e108, ?_⟩⟩
                  exact soft_load e116 (run_load16 W _ _ (HI1.out W (hbd.trans (hb.mono (by simp))))) rfl
                case s38 =>
                  intro ρ W hb hc hf hr
                  obtain ⟨r112, r117, r108, -⟩ := hr
                  have e112 : ρ (.tmp 112) = .int .i64 i := r112
                  clear r112
                  have e117 : ρ (.tmp 117) = .int .i64 i0 := r117
                  clear r117
                  have e108 : ρ (.tmp 108) = .bool true := r108
                  clear r108
                  refine ⟨108, rfl, .inl ⟨e108, ?_⟩⟩
                  exact soft_bin e112 e117 rfl rfl (leq_no16 W i i0 hii)
                case s39 =>
                  intro ρ W hb hc hf hr
                  obtain ⟨r108, r118, r105, -⟩ := hr
                  have e108 : ρ (.tmp 108) = .bool true := r108
                  clear r108
                  have e118 : ρ (.tmp 118) = .bool false := r118
                  clear r118
                  have e105 : ρ (.tmp 105) = .bool false := r105
                  clear r105
                  refine ⟨105, rfl, .inl ⟨e105, ?_⟩⟩
                  simp [execOp, e108, e118, go_sem, softUpon, Fact.is, Below.refl]
                case s40 =>
                  intro ρ W hb hc hf hr
                  obtain ⟨r105, r119, -⟩ := hr
                  have e105 : ρ (.tmp 105) = .bool false := r105
                  clear r105
                  have e119 : ρ (.tmp 119) = .bool false := r119
                  clear r119
                  refine under_none rfl ?_
                  simp [execOp, e105, e119, go_sem, softUpon, Fact.is, Below.refl]
                case fin =>
                  intro a w1 hb hd hsz hk
                  have ea := act_puts hd hsz rfl hk
                  have k80 : a.tmps.getD 80 undef = .bool true := hk 80
                  have k81 : a.tmps.getD 81 undef = .bool false := hk 81
                  have k82 : a.tmps.getD 82 undef = .bool false := hk 82
                  have k83 : a.tmps.getD 83 undef = .slice (some ax) s cX := hk 83
                  have k84 : a.tmps.getD 84 undef = .bool true := hk 84
                  have k85 : a.tmps.getD 85 undef = .bool false := hk 85
                  have k86 : a.tmps.getD 86 undef = .bool false := hk 86
                  have k87 : a.tmps.getD 87 undef = .bool false := hk 87
                  have k88 : a.tmps.getD 88 undef = .slice (some ax) s cX := hk 88
                  have k89 : a.tmps.getD 89 undef = .pointer (some (Addr.add ax (0 * 7))) := hk 89
                  have k90 : a.tmps.getD 90 undef = .pointer (some (Addr.add ax (0 * 7))) := hk 90
                  have k91 : a.tmps.getD 91 undef = .int .i64 i := hk 91
                  have k92 : a.tmps.getD 92 undef = .slice (some ai) m cI := hk 92
                  have k93 : a.tmps.getD 93 undef = .int .i64 (j : Int) := hk 93
                  have k94 : a.tmps.getD 94 undef = .pointer (some (Addr.add ai j)) := hk 94
                  have k95 : a.tmps.getD 95 undef = .int .i64 i := hk 95
                  have k96 : a.tmps.getD 96 undef = .bool false := hk 96
                  have k97 : a.tmps.getD 97 undef = .bool false := hk 97
                  have k98 : a.tmps.getD 98 undef = .bool false := hk 98
                  have k99 : a.tmps.getD 99 undef = .slice (some ax) s cX := hk 99
                  have k100 : a.tmps.getD 100 undef = .int .i64 ct := hk 100
                  have k101 : a.tmps.getD 101 undef = .int .u16 mo := hk 101
                  have k102 : a.tmps.getD 102 undef = .int .i64 mo := hk 102
                  have k103 : a.tmps.getD 103 undef = .bool false := hk 103
                  have k104 : a.tmps.getD 104 undef = .bool false := hk 104
                  have k105 : a.tmps.getD 105 undef = .bool false := hk 105
                  have k106 : a.tmps.getD 106 undef = .int .i64 (j : Int) := hk 106
                  have k107 : a.tmps.getD 107 undef = .bool true := hk 107
                  have k108 : a.tmps.getD 108 undef = .bool true := hk 108
                  have k109 : a.tmps.getD 109 undef = .slice (some ai) m cI := hk 109
                  have k110 : a.tmps.getD 110 undef = .int .i64 (j : Int) := hk 110
                  have k111 : a.tmps.getD 111 undef = .pointer (some (Addr.add ai j)) := hk 111
                  have k112 : a.tmps.getD 112 undef = .int .i64 i := hk 112
                  have k113 : a.tmps.getD 113 undef = .slice (some ai) m cI := hk 113
                  have k114 : a.tmps.getD 114 undef = .int .i64 (j : Int) := hk 114
                  have k115 : a.tmps.getD 115 undef = .int .i64 ((j - 1 : Nat) : Int) := hk 115
                  have k116 : a.tmps.getD 116 undef = .pointer (some (Addr.add ai (j - 1))) := hk 116
                  have k117 : a.tmps.getD 117 undef = .int .i64 i0 := hk 117
                  have k118 : a.tmps.getD 118 undef = .bool false := hk 118
                  have k119 : a.tmps.getD 119 undef = .bool false := hk 119
                  have k120 : a.tmps.getD 120 undef = .bool false := hk 120
                  clear hk hd hsz
                  simp only [List.map_cons, List.map_nil, List.foldl_cons, List.foldl_nil, k80, k81, k82, k83, k84, k85, k86, k87, k88, k89, k90, k91, k92, k93, k94, k95, k96, k97, k98, k99, k100, k101, k102, k103, k104, k105, k106, k107, k108, k109, k110, k111, k112, k113, k114, k115, k116, k117, k118, k119, k120] at ea
                  clear k80 k81 k82 k83 k84 k85 k86 k87 k88 k89 k90 k91 k92 k93 k94 k95 k96 k97 k98 k99 k100 k101 k102 k103 k104 k105 k106 k107 k108 k109 k110 k111 k112 k113 k114 k115 k116 k117 k118 k119 k120
                  simp only [Act.put, List.setIfInBounds_toArray, List.set_cons_succ, List.set_cons_zero] at ea
                  subst ea
                  have HWB := Lib.hid (HWA.out.trans ((hbd.trans (hb.mono (by simp))).mono HWA.out.size))
                  clear hb
                  go_wp2
                  go_roundw
                  case rel => exact ⟨j + 1, by go_num, by omega, HWB.out⟩
                  case measure => simp [intOf]; omega
              · have hj0 : decide ((0 : Int) < (j : Int)) = false := decide_eq_false (by omega)
                clear hci hcx hi hs hctt hji z0 da hq0
                go_wp2
                refine wp_softS (by kernel_rfl) 122 [(80, [11]), (81, [80]), (82, [81]), (83, [10, 82]), (84, [83, 82]), (85, [84, 82]), (86, [82, 85]), (87, [86]), (88, [10, 87]), (89, [88, 87]), (90, [89, 87]), (91, [90, 87]), (92, [8, 87]), (93, [9, 87]), (94, [92, 93, 87]), (95, [94, 87]), (96, [91, 95, 87]), (97, [87, 96]), (98, [97]), (99, [10, 98]), (100, [99, 98]), (101, [0, 98]), (102, [101, 98]), (103, [100, 102, 98]), (104, [98, 103]), (105, [104]), (106, [9, 105]), (107, [106, 105]), (108, [107, 105]), (109, [8, 108]), (110, [9, 108]), (111, [109, 110, 108]), (112, [111, 108]), (113, [8, 108]), (114, [9, 108]), (115, [114, 108]), (116, [113, 115, 108]), (117, [116, 108]), (118, [112, 117, 108]), (119, [108, 118, 105]), (120, [105, 119])]
                  [Fact.is (.bool true), Fact.is (.bool false), Fact.is (.bool false), Fact.is (.slice (some ax) s cX), Fact.is (.bool true), Fact.is (.bool false), Fact.is (.bool false), Fact.is (.bool false), Fact.is (.slice (some ax) s cX), Fact.is (.pointer (some (Addr.add ax (0 * 7)))), Fact.is (.pointer (some (Addr.add ax (0 * 7)))), Fact.is (.int .i64 i), Fact.is (.slice (some ai) m cI), Fact.is (.int .i64 (j : Int)), Fact.is (.pointer (some (Addr.add ai j))), Fact.is (.int .i64 i), Fact.is (.bool false), Fact.is (.bool false), Fact.is (.bool false), Fact.is (.slice (some ax) s cX), Fact.is (.int .i64 ct), Fact.is (.int .u16 mo), Fact.is (.int .i64 mo), Fact.is (.bool false), Fact.is (.bool false), Fact.is (.bool false), Fact.is (.int .i64 (j : Int)), Fact.is (.bool false), Fact.is (.bool false), Fact.is (undef), Fact.is (undef), Fact.is (undef), Fact.is (undef), Fact.is (undef), Fact.is (undef), Fact.is (undef), Fact.is (undef), Fact.is (undef), Fact.is (undef), Fact.is (.bool false), Fact.is (.bool false)]
                  (by kernel_rfl) rfl rfl ⟨?s0, ?s1, ?s2, ?s3, ?s4, ?s5, ?s6, ?s7, ?s8, ?s9, ?s10, ?s11, ?s12, ?s13, ?s14, ?s15, ?s16, ?s17, ?s18, ?s19, ?s20, ?s21, ?s22, ?s23, ?s24, ?s25, ?s26, ?s27, ?s28, ?s29, ?s30, ?s31, ?s32, ?s33, ?s34, ?s35, ?s36, ?s37, ?s38, ?s39, ?s40, trivial⟩ ?fin
                case s0 =>
                  intro ρ W hb hc hf hr
                  obtain ⟨r11, -⟩ := hr
                  have e11 : ρ (.tmp 11) = .bool true := r11
                  clear r11
                  refine under_none rfl ?_
                  exact ⟨e11, Below.refl _ _⟩
                case s1 =>
                  intro ρ W hb hc hf hr
                  obtain ⟨r80, -⟩ := hr
                  have e80 : ρ (.tmp 80) = .bool true := r80
                  clear r80
                  refine under_none rfl ?_
                  simp [execOp, e80, go_sem, softUpon, Fact.is, Below.refl]
                case s2 =>
                  intro ρ W hb hc hf hr
                  obtain ⟨r81, -⟩ := hr
                  have e81 : ρ (.tmp 81) = .bool false := r81
                  clear r81
                  refine under_none rfl ?_
                  exact ⟨e81, Below.refl _ _⟩
                case s3 =>
                  intro ρ W hb hc hf hr
                  obtain ⟨r10, r82, -⟩ := hr
                  have e10 : ρ (.tmp 10) = .slice (some ax) s cX := r10
                  clear r10
                  have e82 : ρ (.tmp 82) = .bool false := r82
                  clear r82
                  refine ⟨82, rfl, .inl ⟨e82, ?_⟩⟩
                  exact ⟨e10, Below.refl _ _⟩
                case s4 =>
                  intro ρ W hb hc hf hr
                  obtain ⟨r83, r82, -⟩ := hr
                  have e83 : ρ (.tmp 83) = .slice (some ax) s cX := r83
                  clear r83
                  have e82 : ρ (.tmp 82) = .bool false := r82
                  clear r82
                  refine ⟨82, rfl, .inl ⟨e82, ?_⟩⟩
                  exact soft_call1 hf e83 (HTR.out W (hbd.trans (hb.mono (by simp)))) rfl (by kernel_rfl) below_is
                case s5 =>
                  intro ρ W hb hc hf hr
                  obtain ⟨r84, r82, -⟩ := hr
                  have e84 : ρ (.tmp 84) = .bool true := r84
                  clear r84
                  have e82 : ρ (.tmp 82) = .bool false := r82
                  clear r82
                  refine ⟨82, rfl, .inl ⟨e82, ?_⟩⟩
                  simp [execOp, e84, go_sem, softUpon, Fact.is, Below.refl]
                case s6 =>
                  intro ρ W hb hc hf hr
                  obtain ⟨r82, r85, -⟩ := hr
                  have e82 : ρ (.tmp 82) = .bool false := r82
                  clear r82
                  have e85 : ρ (.tmp 85) = .bool false := r85
                  clear r85
                  refine under_none rfl ?_
                  simp [execOp, e82, e85, go_sem, softUpon, Fact.is, Below.refl]
                case s7 =>
                  intro ρ W hb hc hf hr
                  obtain ⟨r86, -⟩ := hr
                  have e86 : ρ (.tmp 86) = .bool false := r86
                  clear r86
                  refine under_none rfl ?_
                  exact ⟨e86, Below.refl _ _⟩
                case s8 =>
                  intro ρ W hb hc hf hr
                  obtain ⟨r10, r87, -⟩ := hr
                  have e10 : ρ (.tmp 10) = .slice (some ax) s cX := r10
                  clear r10
                  have e87 : ρ (.tmp 87) = .bool false := r87
                  clear r87
                  refine ⟨87, rfl, .inl ⟨e87, ?_⟩⟩
                  exact ⟨e10, Below.refl _ _⟩
                case s9 =>
                  intro ρ W hb hc hf hr
                  obtain ⟨r88, r87, -⟩ := hr
                  have e88 : ρ (.tmp 88) = .slice (some ax) s cX := r88
                  clear r88
                  have e87 : ρ (.tmp 87) = .bool false := r87
                  clear r87
                  refine ⟨87, rfl, .inl ⟨e87, ?_⟩⟩
                  exact soft_index7 (k := 0) e88 (hc _) hs0 rfl
                case s10 =>
                  intro ρ W hb hc hf hr
                  obtain ⟨r89, r87, -⟩ := hr
                  have e89 : ρ (.tmp 89) = .pointer (some (Addr.add ax (0 * 7))) := r89
                  clear r89
                  have e87 : ρ (.tmp 87) = .bool false := r87
                  clear r87
                  refine ⟨87, rfl, .inl ⟨e87, ?_⟩⟩
                  exact soft_field e89 rfl (fun W => by go_simp)
                case s11 =>
                  intro ρ W hb hc hf hr
                  obtain ⟨r90, r87, -⟩ := hr
                  have e90 : ρ (.tmp 90) = .pointer (some (Addr.add ax (0 * 7))) := r90
                  clear r90
                  have e87 : ρ (.tmp 87) = .bool false := r87
                  clear r87
                  refine ⟨87, rfl, .inl ⟨e87, ?_⟩⟩
                  exact soft_load e90 (run_load16 W _ _ (HX0.out W (hbd.trans (hb.mono (by simp))))) rfl
                case s12 =>
                  intro ρ W hb hc hf hr
                  obtain ⟨r8, r87, -⟩ := hr
                  have e8 : ρ (.tmp 8) = .slice (some ai) m cI := r8
                  clear r8
                  have e87 : ρ (.tmp 87) = .bool false := r87
                  clear r87
                  refine ⟨87, rfl, .inl ⟨e87, ?_⟩⟩
                  exact ⟨e8, Below.refl _ _⟩
                case s13 =>
                  intro ρ W hb hc hf hr
                  obtain ⟨r9, r87, -⟩ := hr
                  have e9 : ρ (.tmp 9) = .int .i64 (j : Int) := r9
                  clear r9
                  have e87 : ρ (.tmp 87) = .bool false := r87
                  clear r87
                  refine ⟨87, rfl, .inl ⟨e87, ?_⟩⟩
                  exact ⟨e9, Below.refl _ _⟩
                case s14 =>
                  intro ρ W hb hc hf hr
                  obtain ⟨r92, r93, r87, -⟩ := hr
                  have e92 : ρ (.tmp 92) = .slice (some ai) m cI := r92
                  clear r92
                  have e93 : ρ (.tmp 93) = .int .i64 (j : Int) := r93
                  clear r93
                  have e87 : ρ (.tmp 87) = .bool false := r87
                  clear r87
                  refine ⟨87, rfl, .inl ⟨e87, ?_⟩⟩
                  exact soft_index1 e92 e93 hjm rfl
                case s15 =>
                  intro ρ W hb hc hf hr
                  obtain ⟨r94, r87, -⟩ := hr
                  have e94 : ρ (.tmp 94) = .pointer (some (Addr.add ai j)) := r94
                  clear r94
                  have e87 : ρ (.tmp 87) = .bool false := r87
                  clear r87
                  refine ⟨87, rfl, .inl ⟨e87, ?_⟩⟩
                  exact soft_load e94 (run_load16 W _ _ (HI0.out W (hbd.trans (hb.mono (by simp))))) rfl
                case s16 =>
                  intro ρ W hb hc hf hr
                  obtain ⟨r91, r95, r87, -⟩ := hr
                  have e91 : ρ (.tmp 91) = .int .i64 i := r91
                  clear r91
                  have e95 : ρ (.tmp 95) = .int .i64 i := r95
                  clear r95
                  have e87 : ρ (.tmp 87) = .bool false := r87
                  clear r87
                  refine ⟨87, rfl, .inl ⟨e87, ?_⟩⟩
                  exact soft_bin e91 e95 rfl rfl (neq_i64 W i i false (by simp))
                case s17 =>
                  intro ρ W hb hc hf hr
                  obtain ⟨r87, r96, -⟩ := hr
                  have e87 : ρ (.tmp 87) = .bool false := r87
                  clear r87
                  have e96 : ρ (.tmp 96) = .bool false := r96
                  clear r96
                  refine under_none rfl ?_
                  simp [execOp, e87, e96, go_sem, softUpon, Fact.is, Below.refl]
                case s18 =>
                  intro ρ W hb hc hf hr
                  obtain ⟨r97, -⟩ := hr
                  have e97 : ρ (.tmp 97) = .bool false := r97
                  clear r97
                  refine under_none rfl ?_
                  exact ⟨e97, Below.refl _ _⟩
                case s19 =>
                  intro ρ W hb hc hf hr
                  obtain ⟨r10, r98, -⟩ := hr
                  have e10 : ρ (.tmp 10) = .slice (some ax) s cX := r10
                  clear r10
                  have e98 : ρ (.tmp 98) = .bool false := r98
                  clear r98
                  refine ⟨98, rfl, .inl ⟨e98, ?_⟩⟩
                  exact ⟨e10, Below.refl _ _⟩
                case s20 =>
                  intro ρ W hb hc hf hr
                  obtain ⟨r99, r98, -⟩ := hr
                  have e99 : ρ (.tmp 99) = .slice (some ax) s cX := r99
                  clear r99
                  have e98 : ρ (.tmp 98) = .bool false := r98
                  clear r98
                  refine ⟨98, rfl, .inl ⟨e98, ?_⟩⟩
                  exact soft_call1 hf e99 (HCO.out W (hbd.trans (hb.mono (by simp)))) rfl (by kernel_rfl) below_is
                case s21 =>
                  intro ρ W hb hc hf hr
                  obtain ⟨r0, r98, -⟩ := hr
                  have e0 : ρ (.tmp 0) = .int .u16 mo := r0
                  clear r0
                  have e98 : ρ (.tmp 98) = .bool false := r98
                  clear r98
                  refine ⟨98, rfl, .inl ⟨e98, ?_⟩⟩
                  exact ⟨e0, Below.refl _ _⟩
                case s22 =>
                  intro ρ W hb hc hf hr
                  obtain ⟨r101, r98, -⟩ := hr
                  have e101 : ρ (.tmp 101) = .int .u16 mo := r101
                  clear r101
                  have e98 : ρ (.tmp 98) = .bool false := r98
                  clear r98
                  refine ⟨98, rfl, .inl ⟨e98, ?_⟩⟩
                  exact soft_conv16 e101 ha rfl
                case s23 =>
                  intro ρ W hb hc hf hr
                  obtain ⟨r100, r102, r98, -⟩ := hr
                  have e100 : ρ (.tmp 100) = .int .i64 ct := r100
                  clear r100
                  have e102 : ρ (.tmp 102) = .int .i64 mo := r102
                  clear r102
                  have e98 : ρ (.tmp 98) = .bool false := r98
                  clear r98
                  refine ⟨98, rfl, .inl ⟨e98, ?_⟩⟩
                  exact soft_bin e100 e102 rfl rfl (gtr_int W ct mo false hct)
                case s24 =>
                  intro ρ W hb hc hf hr
                  obtain ⟨r98, r103, -⟩ := hr
                  have e98 : ρ (.tmp 98) = .bool false := r98
                  clear r98
                  have e103 : ρ (.tmp 103) = .bool false := r103
                  clear r103
                  refine under_none rfl ?_
                  simp [execOp, e98, e103, go_sem, softUpon, Fact.is, Below.refl]
                case s25 =>
                  intro ρ W hb hc hf hr
                  obtain ⟨r104, -⟩ := hr
                  have e104 : ρ (.tmp 104) = .bool false := r104
                  clear r104
                  refine under_none rfl ?_
                  exact ⟨e104, Below.refl _ _⟩
                case s26 =>
                  intro ρ W hb hc hf hr
                  obtain ⟨r9, r105, -⟩ := hr
                  have e9 : ρ (.tmp 9) = .int .i64 (j : Int) := r9
                  clear r9
                  have e105 : ρ (.tmp 105) = .bool false := r105
                  clear r105
                  refine ⟨105, rfl, .inl ⟨e105, ?_⟩⟩
                  exact ⟨e9, Below.refl _ _⟩
                case s27 =>
                  intro ρ W hb hc hf hr
                  obtain ⟨r106, r105, -⟩ := hr
                  have e106 : ρ (.tmp 106) = .int .i64 (j : Int) := r106
                  clear r106
                  have e105 : ρ (.tmp 105) = .bool false := r105
                  clear r105
                  refine ⟨105, rfl, .inl ⟨e105, ?_⟩⟩
                  exact soft_bin e106 (hc _) rfl rfl (gtr_int W _ _ false hj0)
                case s28 =>
                  intro ρ W hb hc hf hr
                  obtain ⟨r107, r105, -⟩ := hr
                  have e107 : ρ (.tmp 107) = .bool false := r107
                  clear r107
                  have e105 : ρ (.tmp 105) = .bool false := r105
                  clear r105
                  refine ⟨105, rfl, .inl ⟨e105, ?_⟩⟩
                  exact ⟨e107, Below.refl _ _⟩
                case s29 =>
                  intro ρ W hb hc hf hr
                  obtain ⟨r8, r108, -⟩ := hr
                  have e8 : ρ (.tmp 8) = .slice (some ai) m cI := r8
                  clear r8
                  have e108 : ρ (.tmp 108) = .bool false := r108
                  clear r108
                  exact ⟨108, rfl, .inr (.inl ⟨e108, rfl⟩)⟩
                case s30 =>
                  intro ρ W hb hc hf hr
                  obtain ⟨r9, r108, -⟩ := hr
                  have e9 : ρ (.tmp 9) = .int .i64 (j : Int) := r9
                  clear r9
                  have e108 : ρ (.tmp 108) = .bool false := r108
                  clear r108
                  exact ⟨108, rfl, .inr (.inl ⟨e108, rfl⟩)⟩
                case s31 =>
                  intro ρ W hb hc hf hr
                  obtain ⟨r109, r110, r108, -⟩ := hr
                  have e109 : ρ (.tmp 109) = undef := r109
                  clear r109
                  have e110 : ρ (.tmp 110) = undef := r110
                  clear r110
                  have e108 : ρ (.tmp 108) = .bool false := r108
                  clear r108
                  exact ⟨108, rfl, .inr (.inl ⟨e108, rfl⟩)⟩
                case s32 =>
                  intro ρ W hb hc hf hr
                  obtain ⟨r111, r108, -⟩ := hr
                  have e111 : ρ (.tmp 111) = undef := r111
                  clear r111
                  have e108 : ρ (.tmp 108) = .bool false := r108
                  clear r108
                  exact ⟨108, rfl, .inr (.inl ⟨e108, rfl⟩)⟩
                case s33 =>
                  intro ρ W hb hc hf hr
                  obtain ⟨r8, r108, -⟩ := hr
                  have e8 : ρ (.tmp 8) = .slice (some ai) m cI := r8
                  clear r8
                  have e108 : ρ (.tmp 108) = .bool false := r108
                  clear r108
                  exact ⟨108, rfl, .inr (.inl ⟨e108, rfl⟩)⟩
                case s34 =>
                  intro ρ W hb hc hf hr
                  obtain ⟨r9, r108, -⟩ := hr
                  have e9 : ρ (.tmp 9) = .int .i64 (j : Int) := r9
                  clear r9
                  have e108 : ρ (.tmp 108) = .bool false := r108
                  clear r108
                  exact ⟨108, rfl, .inr (.inl ⟨e108, rfl⟩)⟩
                case s35 =>
                  intro ρ W hb hc hf hr
                  obtain ⟨r114, r108, -⟩ := hr
                  have e114 : ρ (.tmp 114) = undef := r114
                  clear r114
                  have e108 : ρ (.tmp 108) = .bool false := r108
                  clear r108
                  exact ⟨108, rfl, .inr (.inl ⟨e108, rfl⟩)⟩
                case s36 =>
                  intro ρ W hb hc hf hr
                  obtain ⟨r113, r115, r108, -⟩ := hr
                  have e113 : ρ (.tmp 113) = undef := r113
                  clear r113
                  have e115 : ρ (.tmp 115) = undef := r115
                  clear r115
                  have e108 : ρ (.tmp 108) = .bool false := r108
                  clear r108
                  exact ⟨108, rfl, .inr (.inl ⟨e108, rfl⟩)⟩
                case s37 =>
                  intro ρ W hb hc hf hr
                  obtain ⟨r116, r108, -⟩ := hr
                  have e116 : ρ (.tmp 116) = undef := r116
                  clear r116
                  have e108 : ρ (.tmp 108) = .bool false := r108
                  clear r108
                  exact ⟨108, rfl, .inr (.inl ⟨e108, rfl⟩)⟩
                case s38 =>
                  intro ρ W hb hc hf hr
                  obtain ⟨r112, r117, r108, -⟩ := hr
                  have e112 : ρ (.tmp 112) = undef := r112
                  clear r112
                  have e117 : ρ (.tmp 117) = undef := r117
                  clear r117
                  have e108 : ρ (.tmp 108) = .bool false := r108
                  clear r108
                  exact ⟨108, rfl, .inr (.inl ⟨e108, rfl⟩)⟩
                case s39 =>
                  intro ρ W hb hc hf hr
                  obtain ⟨r108, r118, r105, -⟩ := hr
                  have e108 : ρ (.tmp 108) = .bool false := r108
                  clear r108
                  have e118 : ρ (.tmp 118) = undef := r118
                  clear r118
                  have e105 : ρ (.tmp 105) = .bool false := r105
                  clear r105
                  refine ⟨105, rfl, .inl ⟨e105, ?_⟩⟩
                  simp [execOp, e108, hc, go_sem, softUpon, Fact.is, Below.refl]
                case s40 =>
                  intro ρ W hb hc hf hr
                  obtain ⟨r105, r119, -⟩ := hr
                  have e105 : ρ (.tmp 105) = .bool false := r105
                  clear r105
                  have e119 : ρ (.tmp 119) = .bool false := r119
                  clear r119
                  refine under_none rfl ?_
                  simp [execOp, e105, e119, go_sem, softUpon, Fact.is, Below.refl]
                case fin =>
                  intro a w1 hb hd hsz hk
                  have ea := act_puts hd hsz rfl hk
                  have k80 : a.tmps.getD 80 undef = .bool true := hk 80
                  have k81 : a.tmps.getD 81 undef = .bool false := hk 81
                  have k82 : a.tmps.getD 82 undef = .bool false := hk 82
                  have k83 : a.tmps.getD 83 undef = .slice (some ax) s cX := hk 83
                  have k84 : a.tmps.getD 84 undef = .bool true := hk 84
                  have k85 : a.tmps.getD 85 undef = .bool false := hk 85
                  have k86 : a.tmps.getD 86 undef = .bool false := hk 86
                  have k87 : a.tmps.getD 87 undef = .bool false := hk 87
                  have k88 : a.tmps.getD 88 undef = .slice (some ax) s cX := hk 88
                  have k89 : a.tmps.getD 89 undef = .pointer (some (Addr.add ax (0 * 7))) := hk 89
                  have k90 : a.tmps.getD 90 undef = .pointer (some (Addr.add ax (0 * 7))) := hk 90
                  have k91 : a.tmps.getD 91 undef = .int .i64 i := hk 91
                  have k92 : a.tmps.getD 92 undef = .slice (some ai) m cI := hk 92
                  have k93 : a.tmps.getD 93 undef = .int .i64 (j : Int) := hk 93
                  have k94 : a.tmps.getD 94 undef = .pointer (some (Addr.add ai j)) := hk 94
                  have k95 : a.tmps.getD 95 undef = .int .i64 i := hk 95
                  have k96 : a.tmps.getD 96 undef = .bool false := hk 96
                  have k97 : a.tmps.getD 97 undef = .bool false := hk 97
                  have k98 : a.tmps.getD 98 undef = .bool false := hk 98
                  have k99 : a.tmps.getD 99 undef = .slice (some ax) s cX := hk 99
                  have k100 : a.tmps.getD 100 undef = .int .i64 ct := hk 100
                  have k101 : a.tmps.getD 101 undef = .int .u16 mo := hk 101
                  have k102 : a.tmps.getD 102 undef = .int .i64 mo := hk 102
                  have k103 : a.tmps.getD 103 undef = .bool false := hk 103
                  have k104 : a.tmps.getD 104 undef = .bool false := hk 104
                  have k105 : a.tmps.getD 105 undef = .bool false := hk 105
                  have k106 : a.tmps.getD 106 undef = .int .i64 (j : Int) := hk 106
                  have k107 : a.tmps.getD 107 undef = .bool false := hk 107
                  have k108 : a.tmps.getD 108 undef = .bool false := hk 108
                  have k109 : a.tmps.getD 109 undef = undef := hk 109
                  have k110 : a.tmps.getD 110 undef = undef := hk 110
                  have k111 : a.tmps.getD 111 undef = undef := hk 111
                  have k112 : a.tmps.getD 112 undef = undef := hk 112
                  have k113 : a.tmps.getD 113 undef = undef := hk 113
                  have k114 : a.tmps.getD 114 undef = undef := hk 114
                  have k115 : a.tmps.getD 115 undef = undef := hk 115
                  have k116 : a.tmps.getD 116 undef = undef := hk 116
                  have k117 : a.tmps.getD 117 undef = undef := hk 117
                  have k118 : a.tmps.getD 118 undef = undef := hk 118
                  have k119 : a.tmps.getD 119 undef = .bool false := hk 119
                  have k120 : a.tmps.getD 120 undef = .bool false := hk 120
                  clear hk hd hsz
                  simp only [List.map_cons, List.map_nil, List.foldl_cons, List.foldl_nil, k80, k81, k82, k83, k84, k85, k86, k87, k88, k89, k90, k91, k92, k93, k94, k95, k96, k97, k98, k99, k100, k101, k102, k103, k104, k105, k106, k107, k108, k109, k110, k111, k112, k113, k114, k115, k116, k117, k118, k119, k120] at ea
                  clear k80 k81 k82 k83 k84 k85 k86 k87 k88 k89 k90 k91 k92 k93 k94 k95 k96 k97 k98 k99 k100 k101 k102 k103 k104 k105 k106 k107 k108 k109 k110 k111 k112 k113 k114 k115 k116 k117 k118 k119 k120
                  simp only [Act.put, List.setIfInBounds_toArray, List.set_cons_succ, List.set_cons_zero] at ea
                  subst ea
                  have HWB := Lib.hid (HWA.out.trans ((hbd.trans (hb.mono (by simp))).mono HWA.out.size))
                  clear hb
                  go_wp2
                  go_roundw
                  case rel => exact ⟨j + 1, by go_num, by omega, HWB.out⟩
                  case measure => simp [intOf]; omega
            · obtain rfl : j = m := by omega
              have HE := Lib.hid (HB6.out.trans (HW.out.mono HB6.out.size))
              have HPE := Lib.hid (HK.out.below HP6.out HW.out)
              go_wp2
              go_roundw
              case rel => exact ⟨k + 1, O4, G4, by go_num, by omega, HPE.out, HO4.out, HE.out⟩
              case measure => simp [intOf]; omega
        · have t3 : (o.what == 3) = false := by simpa using hw3
          have HT := Lib.hid (HK.out.add HP.out (by simp) o.A o.l.length o.cap o.l rfl HOI.out.le HOI.out.cap (HOI.out.lies.below HBR.out) (Off.of HOI.out.lies HO.out) HOI.out.fine)
          clear hw3
          go_wp2_with fail
          refine HT.out.mono ?_
          rintro e w4 ⟨rfl, O4, h4, k4, o4⟩
          have HP4 := Lib.hid h4
          have HB4 := Lib.hid (Kept.below HBR.out k4 HO.out)
          have HO4 := Lib.hid (fun g (hg : g ∈ O4) => show w.heap.size ≤ g from (o4 g hg).elim (HO.out g) (fun h => Nat.le_trans HBR.out.size h))
          generalize put mo G o.l = G4 at *
          clear h4 k4 o4 HT HP HBR HO x0 x1 x2
          have HOK := Lib.hid (HK.out.ok HP4.out)
          obtain ⟨m, hm2⟩ : ∃ m, (Po.ids G4).length = m := ⟨_, rfl⟩
          have HMM := Lib.hid hm2
          have hm64 : m ≤ 64 := by rw [← hm2]; exact HOK.out.many
          clear hm2
          go_wp2_with fail
          refine (HK.out.ids_as HP4.out rfl HMM.out).mono ?_
          rintro e w5 ⟨AI, cI, rfl, hi1, hi2, hiL, hio, d5⟩
          have HP5 := Lib.hid (HK.out.below HP4.out d5)
          have HI5 := Lib.hid hiL
          have HB5 := Lib.hid (HB4.out.trans (d5.mono HB4.out.size))
          clear d5 hiL hio HP4 HB4
          have t64 : decide ((64 : Int) < (m : Int)) = false := decide_eq_false (by omega)
          go_wp2_with fail
          refine (HK.out.many_as HP5.out (n := (m : Int)) (by rw [HMM.out])).mono ?_
          rintro e w6 ⟨rfl, d6⟩
          have HP6 := Lib.hid (HK.out.below HP5.out d6)
          have HI6 := Lib.hid (HI5.out.below d6)
          have HB6 := Lib.hid (HB5.out.trans (d6.mono HB5.out.size))
          clear d6 HP5 HI5 HB5
          unfold maxLen at hi2
          go_wp2
          go_loopw [9] (fun s9 wr => ∃ j : Nat, s9 = .int .i64 (j : Int) ∧ j ≤ m ∧ Below w6.heap.size w6 wr) (fun i _ => m - (intOf i).toNat)
          case atStart => exact ⟨0, rfl, Nat.zero_le _, Below.refl _ _⟩
          case round =>
            obtain ⟨j, rfl, hj, hb6⟩ := hrel
            have HW := Lib.hid hb6
            clear hb6
            by_cases hjm : j < m
            · have hji : j < (Po.ids G4).length := by rw [HMM.out]; exact hjm
              obtain ⟨ai, rfl, haib, hci⟩ := at_num HI6.out j hji
              obtain ⟨i, hi⟩ : ∃ i, (Po.ids G4)[j]'hji = i := ⟨_, rfl⟩
              simp only [hi] at hci
              have z0 := hci _ HW.out
              have HII := Lib.hid (show i ∈ Po.ids G4 by rw [← hi]; exact List.getElem_mem hji)
              obtain ⟨s, hs⟩ : ∃ s, (Po.part G4 i).length = s := ⟨_, rfl⟩
              have HS := Lib.hid hs
              have HPW := Lib.hid (HK.out.below HP6.out HW.out)
              go_wp2_with fail
              refine (HK.out.get_as HPW.out i (decide_eq_true HII.out) rfl HS.out).mono ?_
              rintro e wa ⟨AX, cX, rfl, hx1, hx2, hxL, -, da⟩
              have HWA := Lib.hid (HW.out.trans (da.mono HW.out.size))
              have hs0 : 0 < s := by rw [← hs]; exact List.length_pos_iff.2 (part_num HII.out).1
              obtain ⟨ax, rfl, haxb, hcx⟩ := at_span hxL 0 (by rw [HS.out]; exact hs0)
              have HFX := Lib.hid (fine_right (l := Po.part G4 i) fun x hx => HOK.out.right x (part_mem.1 hx).1)
              have hq0 : ((Po.part G4 i)[0]'(by rw [HS.out]; exact hs0)).t = i := (part_mem.1 (List.getElem_mem _)).2
              have HX0 := Lib.hid (fun (W : World) (hW : Below wa.heap.size wa W) => show W.cell? (ax.add (0 * 7)) = some (.int .i64 i) by have := (hcx W hW).1; rwa [hq0] at this)
              have HI0 := Lib.hid (fun (W : World) (hW : Below wa.heap.size wa W) => hci W (HWA.out.trans (hW.mono HWA.out.size)))
              have HTR := Lib.hid (fun (W : World) (hW : Below wa.heap.size wa W) => show Calls Try.prog 25 #[.slice (some ax) s cX] W _ from rtright_any (some ax) s cX (Po.part G4 i) W HS.out (hxL.below hW) HFX.out)
              rw [part_isT HOK.out HII.out] at HTR
              obtain ⟨ct, hctt⟩ : ∃ ct : Int, (Rc.cost (Po.part G4 i) : Int) = ct := ⟨_, rfl⟩
              have HCO := Lib.hid (fun (W : World) (hW : Below wa.heap.size wa W) => show Calls Try.prog 26 #[.slice (some ax) s cX] W _ from rcost13_any (some ax) s cX (Po.part G4 i) W HS.out (hxL.below hW) HFX.out)
              rw [hctt] at HCO
              have hct : decide (mo < ct) = false := decide_eq_false (by rw [← hctt]; have := HOK.out.cost i HII.out; omega)
              have hbd : Below wa.heap.size wa wa.drew := (Below.refl _ _).drew
              have HUP := Lib.hid (ids_up G4)
              by_cases hjp : 0 < j
              · have hj0 : decide ((0 : Int) < (j : Int)) = true := decide_eq_true (by omega)
                have hjj : j - 1 < (Po.ids G4).length := by omega
                obtain ⟨ai2, e2, -, hci2⟩ := at_num HI6.out (j - 1) hjj
                injection e2 with e2
                subst e2
                obtain ⟨i0, hi0⟩ : ∃ i0, (Po.ids G4)[j - 1]'hjj = i0 := ⟨_, rfl⟩
                simp only [hi0] at hci2
                have hii : i0 < i := by rw [← hi, ← hi0]; exact List.pairwise_iff_getElem.1 HUP.out (j - 1) j hjj hji (by omega)
                have HI1 := Lib.hid (fun (W : World) (hW : Below wa.heap.size wa W) => hci2 W (HWA.out.trans (hW.mono HWA.out.size)))
                clear hci hcx hi hs hctt hci2 hi0 hji hjj z0 da hq0
                go_wp2
                refine wp_softS (by kernel_rfl) 122 [(80, [11]), (81, [80]), (82, [81]), (83, [10, 82]), (84, [83, 82]), (85, [84, 82]), (86, [82, 85]), (87, [86]), (88, [10, 87]), (89, [88, 87]), (90, [89, 87]), (91, [90, 87]), (92, [8, 87]), (93, [9, 87]), (94, [92, 93, 87]), (95, [94, 87]), (96, [91, 95, 87]), (97, [87, 96]), (98, [97]), (99, [10, 98]), (100, [99, 98]), (101, [0, 98]), (102, [101, 98]), (103, [100, 102, 98]), (104, [98, 103]), (105, [104]), (106, [9, 105]), (107, [106, 105]), (108, [107, 105]), (109, [8, 108]), (110, [9, 108]), (111, [109, 110, 108]), (112, [111, 108]), (113, [8, 108]), (114, [9, 108]), (115, [114, 108]), (116, [113, 115, 108]), (117, [116, 108]), (118, [112, 117, 108]), (119, [108, 118, 105]), (120, [105, 119])]
                  [Fact.is (.bool true), Fact.is (.bool false), Fact.is (.bool false), Fact.is (.slice (some ax) s cX), Fact.is (.bool true), Fact.is (.bool false), Fact.is (.bool false), Fact.is (.bool false), Fact.is (.slice (some ax) s cX), Fact.is (.pointer (some (Addr.add ax (0 * 7)))), Fact.is (.pointer (some (Addr.add ax (0 * 7)))), Fact.is (.int .i64 i), Fact.is (.slice (some ai) m cI), Fact.is (.int .i64 (j : Int)), Fact.is (.pointer (some (Addr.add ai j))), Fact.is (.int .i64 i), Fact.is (.bool false), Fact.is (.bool false), Fact.is (.bool false), Fact.is (.slice (some ax) s cX), Fact.is (.int .i64 ct), Fact.is (.int .u16 mo), Fact.is (.int .i64 mo), Fact.is (.bool false), Fact.is (.bool false), Fact.is (.bool false), Fact.is (.int .i64 (j : Int)), Fact.is (.bool true), Fact.is (.bool true), Fact.is (.slice (some ai) m cI), Fact.is (.int .i64 (j : Int)), Fact.is (.pointer (some (Addr.add ai j))), Fact.is (.int .i64 i), Fact.is (.slice (some ai) m cI), Fact.is (.int .i64 (j : Int)), Fact.is (.int .i64 ((j - 1 : Nat) : Int)), Fact.is (.pointer (some (Addr.add ai (j - 1)))), Fact.is (.int .i64 i0), Fact.is (.bool false), Fact.is (.bool false), Fact.is (.bool false)]
                  (by kernel_rfl) rfl rfl ⟨?s0, ?s1, ?s2, ?s3, ?s4, ?s5, ?s6, ?s7, ?s8, ?s9, ?s10, ?s11, ?s12, ?s13, ?s14, ?s15, ?s16, ?s17, ?s18, ?s19, ?s20, ?s21, ?s22, ?s23, ?s24, ?s25, ?s26, ?s27, ?s28, ?s29, ?s30, ?s31, ?s32, ?s33, ?s34, ?s35, ?s36, ?s37, ?s38, ?s39, ?s40, trivial⟩ ?fin
                case s0 =>
                  intro ρ W hb hc hf hr
                  obtain ⟨r11, -⟩ := hr
                  have e11 : ρ (.tmp 11) = .bool true := r11
                  clear r11
                  refine under_none rfl ?_
                  exact ⟨e11, Below.refl _ _⟩
                case s1 =>
                  intro ρ W hb hc hf hr
                  obtain ⟨r80, -⟩ := hr
                  have e80 : ρ (.tmp 80) = .bool true := r80
                  clear r80
                  refine under_none rfl ?_
                  simp [execOp, e80, go_sem, softUpon, Fact.is, Below.refl]
                case s2 =>
                  intro ρ W hb hc hf hr
                  obtain ⟨r81, -⟩ := hr
                  have e81 : ρ (.tmp 81) = .bool false := r81
                  clear r81
                  refine under_none rfl ?_
                  exact ⟨e81, Below.refl _ _⟩
                case s3 =>
                  intro ρ W hb hc hf hr
                  obtain ⟨r10, r82, -⟩ := hr
                  have e10 : ρ (.tmp 10) = .slice (some ax) s cX := r10
                  clear r10
                  have e82 : ρ (.tmp 82) = .bool false := r82
                  clear r82
                  refine ⟨82, rfl, .inl ⟨e82, ?_⟩⟩
                  exact ⟨e10, Below.refl _ _⟩
                case s4 =>
                  intro ρ W hb hc hf hr
                  obtain ⟨r83, r82, -⟩ := hr
                  have e83 : ρ (.tmp 83) = .slice (some ax) s cX := r83
                  clear r83
                  have e82 : ρ (.tmp 82) = .bool false := r82
                  clear r82
                  refine ⟨82, rfl, .inl ⟨e82, ?_⟩⟩
                  exact soft_call1 hf e83 (HTR.out W (hbd.trans (hb.mono (by simp)))) rfl (by kernel_rfl) below_is
                case s5 =>
                  intro ρ W hb hc hf hr
                  obtain ⟨r84, r82, -⟩ := hr
                  have e84 : ρ (.tmp 84) = .bool true := r84
                  clear r84
                  have e82 : ρ (.tmp 82) = .bool false := r82
                  clear r82
                  refine ⟨82, rfl, .inl ⟨e82, ?_⟩⟩
                  simp [execOp, e84, go_sem, softUpon, Fact.is, Below.refl]
                case s6 =>
                  intro ρ W hb hc hf hr
                  obtain ⟨r82, r85, -⟩ := hr
                  have e82 : ρ (.tmp 82) = .bool false := r82
                  clear r82
                  have e85 : ρ (.tmp 85) = .bool false := r85
                  clear r85
                  refine under_none rfl ?_
                  simp [execOp, e82, e85, go_sem, softUpon, Fact.is, Below.refl]
                case s7 =>
                  intro ρ W hb hc hf hr
                  obtain ⟨r86, -⟩ := hr
                  have e86 : ρ (.tmp 86) = .bool false := r86
                  clear r86
                  refine under_none rfl ?_
                  exact ⟨e86, Below.refl _ _⟩
                case s8 =>
                  intro ρ W hb hc hf hr
                  obtain ⟨r10, r87, -⟩ := hr
                  have e10 : ρ (.tmp 10) = .slice (some ax) s cX := r10
                  clear r10
                  have e87 : ρ (.tmp 87) = .bool false := r87
                  clear r87
                  refine ⟨87, rfl, .inl ⟨e87, ?_⟩⟩
                  exact ⟨e10, Below.refl _ _⟩
                case s9 =>
                  intro ρ W hb hc hf hr
                  obtain ⟨r88, r87, -⟩ := hr
                  have e88 : ρ (.tmp 88) = .slice (some ax) s cX := r88
                  clear r88
                  have e87 : ρ (.tmp 87) = .bool false := r87
                  clear r87
                  refine ⟨87, rfl, .inl ⟨e87, ?_⟩⟩
                  exact soft_index7 (k := 0) e88 (hc _) hs0 rfl
                case s10 =>
                  intro ρ W hb hc hf hr
                  obtain ⟨r89, r87, -⟩ := hr
                  have e89 : ρ (.tmp 89) = .pointer (some (Addr.add ax (0 * 7))) := r89
                  clear r89
                  have e87 : ρ (.tmp 87) = .bool false := r87
                  clear r87
                  refine ⟨87, rfl, .inl ⟨e87, ?_⟩⟩
                  exact soft_field e89 rfl (fun W => by go_simp)
                case s11 =>
                  intro ρ W hb hc hf hr
                  obtain ⟨r90, r87, -⟩ := hr
                  have e90 : ρ (.tmp 90) = .pointer (some (Addr.add ax (0 * 7))) := r90
                  clear r90
                  have e87 : ρ (.tmp 87) = .bool false := r87
                  clear r87
                  refine ⟨87, rfl, .inl ⟨e87, ?_⟩⟩
                  exact soft_load e90 (run_load16 W _ _ (HX0.out W (hbd.trans (hb.mono (by simp))))) rfl
                case s12 =>
                  intro ρ W hb hc hf hr
                  obtain ⟨r8, r87, -⟩ := hr
                  have e8 : ρ (.tmp 8) = .slice (some ai) m cI := r8
                  clear r8
                  have e87 : ρ (.tmp 87) = .bool false := r87
                  clear r87
                  refine ⟨87, rfl, .inl ⟨e87, ?_⟩⟩
                  exact ⟨e8, Below.refl _ _⟩
                case s13 =>
                  intro ρ W hb hc hf hr
                  obtain ⟨r9, r87, -⟩ := hr
                  have e9 : ρ (.tmp 9) = .int .i64 (j : Int) := r9
                  clear r9
                  have e87 : ρ (.tmp 87) = .bool false := r87
                  clear r87
                  refine ⟨87, rfl, .inl ⟨e87, ?_⟩⟩
                  exact ⟨e9, Below.refl _ _⟩
                case s14 =>
                  intro ρ W hb hc hf hr
                  obtain ⟨r92, r93, r87, -⟩ := hr
                  have e92 : ρ (.tmp 92) = .slice (some ai) m cI := r92
                  clear r92
                  have e93 : ρ (.tmp 93) = .int .i64 (j : Int) := r93
                  clear r93
                  have e87 : ρ (.tmp 87) = .bool false := r87
                  clear r87
                  refine ⟨87, rfl, .inl ⟨e87, ?_⟩⟩
                  exact soft_index1 e92 e93 hjm rfl
                case s15 =>
                  intro ρ W hb hc hf hr
                  obtain ⟨r94, r87, -⟩ := hr
                  have e94 : ρ (.tmp 94) = .pointer (some (Addr.add ai j)) := r94
                  clear r94
                  have e87 : ρ (.tmp 87) = .bool false := r87
                  clear r87
                  refine ⟨87, rfl, .inl ⟨e87, ?_⟩⟩
                  exact soft_load e94 (run_load16 W _ _ (HI0.out W (hbd.trans (hb.mono (by simp))))) rfl
                case s16 =>
                  intro ρ W hb hc hf hr
                  obtain ⟨r91, r95, r87, -⟩ := hr
                  have e91 : ρ (.tmp 91) = .int .i64 i := r91
                  clear r91
                  have e95 : ρ (.tmp 95) = .int .i64 i := r95
                  clear r95
                  have e87 : ρ (.tmp 87) = .bool false := r87
                  clear r87
                  refine ⟨87, rfl, .inl ⟨e87, ?_⟩⟩
                  exact soft_bin e91 e95 rfl rfl (neq_i64 W i i false (by simp))
                case s17 =>
                  intro ρ W hb hc hf hr
                  obtain ⟨r87, r96, -⟩ := hr
                  have e87 : ρ (.tmp 87) = .bool false := r87
                  clear r87
                  have e96 : ρ (.tmp 96) = .bool false := r96
                  clear r96
                  refine under_none rfl ?_
                  simp [execOp, e87, e96, go_sem, softUpon, Fact.is, Below.refl]
                case s18 =>
                  intro ρ W hb hc hf hr
                  obtain ⟨r97, -⟩ := hr
                  have e97 : ρ (.tmp 97) = .bool false := r97
                  clear r97
                  refine under_none rfl ?_
                  exact ⟨e97, Below.refl _ _⟩
                case s19 =>
                  intro ρ W hb hc hf hr
                  obtain ⟨r10, r98, -⟩ := hr
                  have e10 : ρ (.tmp 10) = .slice (some ax) s cX := r10
                  clear r10
                  have e98 : ρ (.tmp 98) = .bool false := r98
                  clear r98
                  refine ⟨98, rfl, .inl ⟨e98, ?_⟩⟩
                  exact ⟨e10, Below.refl _ _⟩
                case s20 =>
                  intro ρ W hb hc hf hr
                  obtain ⟨r99, r98, -⟩ := hr
                  have e99 : ρ (.tmp 99) = .slice (some ax) s cX := r99
                  clear r99
                  have e98 : ρ (.tmp 98) = .bool false := r98
                  clear r98
                  refine ⟨98, rfl, .inl ⟨e98, ?_⟩⟩
                  exact soft_call1 hf e99 (HCO.out W (hbd.trans (hb.mono (by simp)))) rfl (by kernel_rfl) below_is
                case s21 =>
                  intro ρ W hb hc hf hr
                  obtain ⟨r0, r98, -⟩ := hr
                  have e0 : ρ (.tmp 0) = .int .u16 mo := r0
                  clear r0
                  have e98 : ρ (.tmp 98) = .bool false := r98
                  clear r98
                  refine ⟨98, rfl, .inl ⟨e98, ?_⟩⟩
                  exact ⟨e0, Below.refl _ _⟩
                case s22 =>
                  intro ρ W hb hc hf hr
                  obtain ⟨r101, r98, -⟩ := hr
                  have e101 : ρ (.tmp 101) = .int .u16 mo := r101
                  clear r101
                  have e98 : ρ (.tmp 98) = .bool false := r98
                  clear r98
                  refine ⟨98, rfl, .inl ⟨e98, ?_⟩⟩
                  exact soft_conv16 e101 ha rfl
                case s23 =>
                  intro ρ W hb hc hf hr
                  obtain ⟨r100, r102, r98, -⟩ := hr
                  have e100 : ρ (.tmp 100) = .int .i64 ct := r100
                  clear r100
                  have e102 : ρ (.tmp 102) = .int .i64 mo := r102
                  clear r102
                  have e98 : ρ (.tmp 98) = .bool false := r98
                  clear r98
                  refine ⟨98, rfl, .inl ⟨e98, ?_⟩⟩
                  exact soft_bin e100 e102 rfl rfl (gtr_int W ct mo false hct)
                case s24 =>
                  intro ρ W hb hc hf hr
                  obtain ⟨r98, r103, -⟩ := hr
                  have e98 : ρ (.tmp 98) = .bool false := r98
                  clear r98
                  have e103 : ρ (.tmp 103) = .bool false := r103
                  clear r103
                  refine under_none rfl ?_
                  simp [execOp, e98, e103, go_sem, softUpon, Fact.is, Below.refl]
                case s25 =>
                  intro ρ W hb hc hf hr
                  obtain ⟨r104, -⟩ := hr
                  have e104 : ρ (.tmp 104) = .bool false := r104
                  clear r104
                  refine under_none rfl ?_
                  exact ⟨e104, Below.refl _ _⟩
                case s26 =>
                  intro ρ W hb hc hf hr
                  obtain ⟨r9, r105, -⟩ := hr
                  have e9 : ρ (.tmp 9) = .int .i64 (j : Int) := r9
                  clear r9
                  have e105 : ρ (.tmp 105) = .bool false := r105
                  clear r105
                  refine ⟨105, rfl, .inl ⟨e105, ?_⟩⟩
                  exact ⟨e9, Below.refl _ _⟩
                case s27 =>
                  intro ρ W hb hc hf hr
                  obtain ⟨r106, r105, -⟩ := hr
                  have e106 : ρ (.tmp 106) = .int .i64 (j : Int) := r106
                  clear r106
                  have e105 : ρ (.tmp 105) = .bool false := r105
                  clear r105
                  refine ⟨105, rfl, .inl ⟨e105, ?_⟩⟩
                  exact soft_bin e106 (hc _) rfl rfl (gtr_int W _ _ true hj0)
                case s28 =>
                  intro ρ W hb hc hf hr
                  obtain ⟨r107, r105, -⟩ := hr
                  have e107 : ρ (.tmp 107) = .bool true := r107
                  clear r107
                  have e105 : ρ (.tmp 105) = .bool false := r105
                  clear r105
                  refine ⟨105, rfl, .inl ⟨e105, ?_⟩⟩
                  exact ⟨e107, Below.refl _ _⟩
                case s29 =>
                  intro ρ W hb hc hf hr
                  obtain ⟨r8, r108, -⟩ := hr
                  have e8 : ρ (.tmp 8) = .slice (some ai) m cI := r8
                  clear r8
                  have e108 : ρ (.tmp 108) = .bool true := r108
                  clear r108
                  refine ⟨108, rfl, .inl ⟨e108, ?_⟩⟩
                  exact ⟨e8, Below.refl _ _⟩
                case s30 =>
                  intro ρ W hb hc hf hr
                  obtain ⟨r9, r108, -⟩ := hr
                  have e9 : ρ (.tmp 9) = .int .i64 (j : Int) := r9
                  clear r9
                  have e108 : ρ (.tmp 108) = .bool true := r108
                  clear r108
                  refine ⟨108, rfl, .inl ⟨e108, ?_⟩⟩
                  exact ⟨e9, Below.refl _ _⟩
                case s31 =>
                  intro ρ W hb hc hf hr
                  obtain ⟨r109, r110, r108, -⟩ := hr
                  have e109 : ρ (.tmp 109) = .slice (some ai) m cI := r109
                  clear r109
                  have e110 : ρ (.tmp 110) = .int .i64 (j : Int) := r110
                  clear r110
                  have e108 : ρ (.tmp 108) = .bool true := r108
                  clear r108
                  refine ⟨108, rfl, .inl ⟨e108, ?_⟩⟩
                  exact soft_index1 e109 e110 hjm rfl
                case s32 =>
                  intro ρ W hb hc hf hr
                  obtain ⟨r111, r108, -⟩ := hr
                  have e111 : ρ (.tmp 111) = .pointer (some (Addr.add ai j)) := r111
                  clear r111
                  have e108 : ρ (.tmp 108) = .bool true := r108
                  clear r108
                  refine ⟨108, rfl, .inl ⟨e108, ?_⟩⟩
                  exact soft_load e111 (run_load16 W _ _ (HI0.out W (hbd.trans (hb.mono (by simp))))) rfl
                case s33 =>
                  intro ρ W hb hc hf hr
                  obtain ⟨r8, r108, -⟩ := hr
                  have e8 : ρ (.tmp 8) = .slice (some ai) m cI := r8
                  clear r8
                  have e108 : ρ (.tmp 108) = .bool true := r108
                  clear r108
                  refine ⟨108, rfl, .inl ⟨e108, ?_⟩⟩
                  exact ⟨e8, Below.refl _ _⟩
                case s34 =>
                  intro ρ W hb hc hf hr
                  obtain ⟨r9, r108, -⟩ := hr
                  have e9 : ρ (.tmp 9) = .int .i64 (j : Int) := r9
                  clear r9
                  have e108 : ρ (.tmp 108) = .bool true := r108
                  clear r108
                  refine ⟨108, rfl, .inl ⟨e108, ?_⟩⟩
                  exact ⟨e9, Below.refl _ _⟩
                case s35 =>
                  intro ρ W hb hc hf hr
                  obtain ⟨r114, r108, -⟩ := hr
                  have e114 : ρ (.tmp 114) = .int .i64 (j : Int) := r114
                  clear r114
                  have e108 : ρ (.tmp 108) = .bool true := r108
                  clear r108
                  refine ⟨108, rfl, .inl ⟨e108, ?_⟩⟩
                  exact soft_bin e114 (hc _) rfl rfl (sub_one W j hjp (by omega))
                case s36 =>
                  intro ρ W hb hc hf hr
                  obtain ⟨r113, r115, r108, -⟩ := hr
                  have e113 : ρ (.tmp 113) = .slice (some ai) m cI := r113
                  clear r113
                  have e115 : ρ (.tmp 115) = .int .i64 ((j - 1 : Nat) : Int) := r115
                  clear r115
                  have e108 : ρ (.tmp 108) = .bool true := r108
                  clear r108
                  refine ⟨108, rfl, .inl ⟨e108, ?_⟩⟩
                  exact soft_index1 e113 e115 (by omega) rfl
                case s37 =>
                  intro ρ W hb hc hf hr
                  obtain ⟨r116, r108, -⟩ := hr
                  have e116 : ρ (.tmp 116) = .pointer (some (Addr.add ai (j - 1))) := r116
                  clear r116
                  have e108 : ρ (.tmp 108) = .bool true := r108
                  clear r108
                  refine ⟨108, rfl, .inl ⟨e108, ?_⟩⟩
                  exact soft_load e116 (run_load16 W _ _ (HI1.out W (hbd.trans (hb.mono (by simp))))) rfl
                case s38 =>
                  intro ρ W hb hc hf hr
                  obtain ⟨r112, r117, r108, -⟩ := hr
                  have e112 : ρ (.tmp 112) = .int .i64 i := r112
                  clear r112
                  have e117 : ρ (.tmp 117) = .int .i64 i0 := r117
                  clear r117
                  have e108 : ρ (.tmp 108) = .bool true := r108
                  clear r108
                  refine ⟨108, rfl, .inl ⟨e108, ?_⟩⟩
                  exact soft_bin e112 e117 rfl rfl (leq_no16 W i i0 hii)
                case s39 =>
                  intro ρ W hb hc hf hr
                  obtain ⟨r108, r118, r105, -⟩ := hr
                  have e108 : ρ (.tmp 108) = .bool true := r108
                  clear r108
                  have e118 : ρ (.tmp 118) = .bool false := r118
                  clear r118
                  have e105 : ρ (.tmp 105) = .bool false := r105
                  clear r105
                  refine ⟨105, rfl, .inl ⟨e105, ?_⟩⟩
                  simp [execOp, e108, e118, go_sem, softUpon, Fact.is, Below.refl]
                case s40 =>
                  intro ρ W hb hc hf hr
                  obtain ⟨r105, r119, -⟩ := hr
                  have e105 : ρ (.tmp 105) = .bool false := r105
                  clear r105
                  have e119 : ρ (.tmp 119) = .bool false := r119
                  clear r119
                  refine under_none rfl ?_
                  simp [execOp, e105, e119, go_sem, softUpon, Fact.is, Below.refl]
                case fin =>
                  intro a w1 hb hd hsz hk
                  have ea := act_puts hd hsz rfl hk
                  have k80 : a.tmps.getD 80 undef = .bool true := hk 80
                  have k81 : a.tmps.getD 81 undef = .bool false := hk 81
                  have k82 : a.tmps.getD 82 undef = .bool false := hk 82
                  have k83 : a.tmps.getD 83 undef = .slice (some ax) s cX := hk 83
                  have k84 : a.tmps.getD 84 undef = .bool true := hk 84
                  have k85 : a.tmps.getD 85 undef = .bool false := hk 85
                  have k86 : a.tmps.getD 86 undef = .bool false := hk 86
                  have k87 : a.tmps.getD 87 undef = .bool false := hk 87
                  have k88 : a.tmps.getD 88 undef = .slice (some ax) s cX := hk 88
                  have k89 : a.tmps.getD 89 undef = .pointer (some (Addr.add ax (0 * 7))) := hk 89
                  have k90 : a.tmps.getD 90 undef = .pointer (some (Addr.add ax (0 * 7))) := hk 90
                  have k91 : a.tmps.getD 91 undef = .int .i64 i := hk 91
                  have k92 : a.tmps.getD 92 undef = .slice (some ai) m cI := hk 92
                  have k93 : a.tmps.getD 93 undef = .int .i64 (j : Int) := hk 93
                  have k94 : a.tmps.getD 94 undef = .pointer (some (Addr.add ai j)) := hk 94
                  have k95 : a.tmps.getD 95 undef = .int .i64 i := hk 95
                  have k96 : a.tmps.getD 96 undef = .bool false := hk 96
                  have k97 : a.tmps.getD 97 undef = .bool false := hk 97
                  have k98 : a.tmps.getD 98 undef = .bool false := hk 98
                  have k99 : a.tmps.getD 99 undef = .slice (some ax) s cX := hk 99
                  have k100 : a.tmps.getD 100 undef = .int .i64 ct := hk 100
                  have k101 : a.tmps.getD 101 undef = .int .u16 mo := hk 101
                  have k102 : a.tmps.getD 102 undef = .int .i64 mo := hk 102
                  have k103 : a.tmps.getD 103 undef = .bool false := hk 103
                  have k104 : a.tmps.getD 104 undef = .bool false := hk 104
                  have k105 : a.tmps.getD 105 undef = .bool false := hk 105
                  have k106 : a.tmps.getD 106 undef = .int .i64 (j : Int) := hk 106
                  have k107 : a.tmps.getD 107 undef = .bool true := hk 107
                  have k108 : a.tmps.getD 108 undef = .bool true := hk 108
                  have k109 : a.tmps.getD 109 undef = .slice (some ai) m cI := hk 109
                  have k110 : a.tmps.getD 110 undef = .int .i64 (j : Int) := hk 110
                  have k111 : a.tmps.getD 111 undef = .pointer (some (Addr.add ai j)) := hk 111
                  have k112 : a.tmps.getD 112 undef = .int .i64 i := hk 112
                  have k113 : a.tmps.getD 113 undef = .slice (some ai) m cI := hk 113
                  have k114 : a.tmps.getD 114 undef = .int .i64 (j : Int) := hk 114
                  have k115 : a.tmps.getD 115 undef = .int .i64 ((j - 1 : Nat) : Int) := hk 115
                  have k116 : a.tmps.getD 116 undef = .pointer (some (Addr.add ai (j - 1))) := hk 116
                  have k117 : a.tmps.getD 117 undef = .int .i64 i0 := hk 117
                  have k118 : a.tmps.getD 118 undef = .bool false := hk 118
                  have k119 : a.tmps.getD 119 undef = .bool false := hk 119
                  have k120 : a.tmps.getD 120 undef = .bool false := hk 120
                  clear hk hd hsz
                  simp only [List.map_cons, List.map_nil, List.foldl_cons, List.foldl_nil, k80, k81, k82, k83, k84, k85, k86, k87, k88, k89, k90, k91, k92, k93, k94, k95, k96, k97, k98, k99, k100, k101, k102, k103, k104, k105, k106, k107, k108, k109, k110, k111, k112, k113, k114, k115, k116, k117, k118, k119, k120] at ea
                  clear k80 k81 k82 k83 k84 k85 k86 k87 k88 k89 k90 k91 k92 k93 k94 k95 k96 k97 k98 k99 k100 k101 k102 k103 k104 k105 k106 k107 k108 k109 k110 k111 k112 k113 k114 k115 k116 k117 k118 k119 k120
                  simp only [Act.put, List.setIfInBounds_toArray, List.set_cons_succ, List.set_cons_zero] at ea
                  subst ea
                  have HWB := Lib.hid (HWA.out.trans ((hbd.trans (hb.mono (by simp))).mono HWA.out.size))
                  clear hb
                  go_wp2
                  go_roundw
                  case rel => exact ⟨j + 1, by go_num, by omega, HWB.out⟩
                  case measure => simp [intOf]; omega
              · have hj0 : decide ((0 : Int) < (j : Int)) = false := decide_eq_false (by omega)
                clear hci hcx hi hs hctt hji z0 da hq0
                go_wp2
                refine wp_softS (by kernel_rfl) 122 [(80, [11]), (81, [80]), (82, [81]), (83, [10, 82]), (84, [83, 82]), (85, [84, 82]), (86, [82, 85]), (87, [86]), (88, [10, 87]), (89, [88, 87]), (90, [89, 87]), (91, [90, 87]), (92, [8, 87]), (93, [9, 87]), (94, [92, 93, 87]), (95, [94, 87]), (96, [91, 95, 87]), (97, [87, 96]), (98, [97]), (99, [10, 98]), (100, [99, 98]), (101, [0, 98]), (102, [101, 98]), (103, [100, 102, 98]), (104, [98, 103]), (105, [104]), (106, [9, 105]), (107, [106, 105]), (108, [107, 105]), (109, [8, 108]), (110, [9, 108]), (111, [109, 110, 108]), (112, [111, 108]), (113, [8, 108]), (114, [9, 108]), (115, [114, 108]), (116, [113, 115, 108]), (117, [116, 108]), (118, [112, 117, 108]), (119, [108, 118, 105]), (120, [105, 119])]
                  [Fact.is (.bool true), Fact.is (.bool false), Fact.is (.bool false), Fact.is (.slice (some ax) s cX), Fact.is (.bool true), Fact.is (.bool false), Fact.is (.bool false), Fact.is (.bool false), Fact.is (.slice (some ax) s cX), Fact.is (.pointer (some (Addr.add ax (0 * 7)))), Fact.is (.pointer (some (Addr.add ax (0 * 7)))), Fact.is (.int .i64 i), Fact.is (.slice (some ai) m cI), Fact.is (.int .i64 (j : Int)), Fact.is (.pointer (some (Addr.add ai j))), Fact.is (.int .i64 i), Fact.is (.bool false), Fact.is (.bool false), Fact.is (.bool false), Fact.is (.slice (some ax) s cX), Fact.is (.int .i64 ct), Fact.is (.int .u16 mo), Fact.is (.int .i64 mo), Fact.is (.bool false), Fact.is (.bool false), Fact.is (.bool false), Fact.is (.int .i64 (j : Int)), Fact.is (.bool false), Fact.is (.bool false), Fact.is (undef), Fact.is (undef), Fact.is (undef), Fact.is (undef), Fact.is (undef), Fact.is (undef), Fact.is (undef), Fact.is (undef), Fact.is (undef), Fact.is (undef), Fact.is (.bool false), Fact.is (.bool false)]
                  (by kernel_rfl) rfl rfl ⟨?s0, ?s1, ?s2, ?s3, ?s4, ?s5, ?s6, ?s7, ?s8, ?s9, ?s10, ?s11, ?s12, ?s13, ?s14, ?s15, ?s16, ?s17, ?s18, ?s19, ?s20, ?s21, ?s22, ?s23, ?s24, ?s25, ?s26, ?s27, ?s28, ?s29, ?s30, ?s31, ?s32, ?s33, ?s34, ?s35, ?s36, ?s37, ?s38, ?s39, ?s40, trivial⟩ ?fin
                case s0 =>
                  intro ρ W hb hc hf hr
                  obtain ⟨r11, -⟩ := hr
                  have e11 : ρ (.tmp 11) = .bool true := r11
                  clear r11
                  refine under_none rfl ?_
                  exact ⟨e11, Below.refl _ _⟩
                case s1 =>
                  intro ρ W hb hc hf hr
                  obtain ⟨r80, -⟩ := hr
                  have e80 : ρ (.tmp 80) = .bool true := r80
                  clear r80
                  refine under_none rfl ?_
                  simp [execOp, e80, go_sem, softUpon, Fact.is, Below.refl]
                case s2 =>
                  intro ρ W hb hc hf hr
                  obtain ⟨r81, -⟩ := hr
                  have e81 : ρ (.tmp 81) = .bool false := r81
                  clear r81
                  refine under_none rfl ?_
                  exact ⟨e81, Below.refl _ _⟩
                case s3 =>
                  intro ρ W hb hc hf hr
                  obtain ⟨r10, r82, -⟩ := hr
                  have e10 : ρ (.tmp 10) = .slice (some ax) s cX := r10
                  clear r10
                  have e82 : ρ (.tmp 82) = .bool false := r82
                  clear r82
                  refine ⟨82, rfl, .inl ⟨e82, ?_⟩⟩
                  exact ⟨e10, Below.refl _ _⟩
                case s4 =>
                  intro ρ W hb hc hf hr
                  obtain ⟨r83, r82, -⟩ := hr
                  have e83 : ρ (.tmp 83) = .slice (some ax) s cX := r83
                  clear r83
                  have e82 : ρ (.tmp 82) = .bool false := r82
                  clear r82
                  refine ⟨82, rfl, .inl ⟨e82, ?_⟩⟩
                  exact soft_call1 hf e83 (HTR.out W (hbd.trans (hb.mono (by simp)))) rfl (by kernel_rfl) below_is
                case s5 =>
                  intro ρ W hb hc hf hr
                  obtain ⟨r84, r82, -⟩ := hr
                  have e84 : ρ (.tmp 84) = .bool true := r84
                  clear r84
                  have e82 : ρ (.tmp 82) = .bool false := r82
                  clear r82
                  refine ⟨82, rfl, .inl ⟨e82, ?_⟩⟩
                  simp [execOp, e84, go_sem, softUpon, Fact.is, Below.refl]
                case s6 =>
                  intro ρ W hb hc hf hr
                  obtain ⟨r82, r85, -⟩ := hr
                  have e82 : ρ (.tmp 82) = .bool false := r82
                  clear r82
                  have e85 : ρ (.tmp 85) = .bool false := r85
                  clear r85
                  refine under_none rfl ?_
                  simp [execOp, e82, e85, go_sem, softUpon, Fact.is, Below.refl]
                case s7 =>
                  intro ρ W hb hc hf hr
                  obtain ⟨r86, -⟩ := hr
                  have e86 : ρ (.tmp 86) = .bool false := r86
                  clear r86
                  refine under_none rfl ?_
                  exact ⟨e86, Below.refl _ _⟩
                case s8 =>
                  intro ρ W hb hc hf hr
                  obtain ⟨r10, r87, -⟩ := hr
                  have e10 : ρ (.tmp 10) = .slice (some ax) s cX := r10
                  clear r10
                  have e87 : ρ (.tmp 87) = .bool false := r87
                  clear r87
                  refine ⟨87, rfl, .inl ⟨e87, ?_⟩⟩
                  exact ⟨e10, Below.refl _ _⟩
                case s9 =>
                  intro ρ W hb hc hf hr
                  obtain ⟨r88, r87, -⟩ := hr
                  have e88 : ρ (.tmp 88) = .slice (some ax) s cX := r88
                  clear r88
                  have e87 : ρ (.tmp 87) = .bool false := r87
                  clear r87
                  refine ⟨87, rfl, .inl ⟨e87, ?_⟩⟩
                  exact soft_index7 (k := 0) e88 (hc _) hs0 rfl
                case s10 =>
                  intro ρ W hb hc hf hr
                  obtain ⟨r89, r87, -⟩ := hr
                  have e89 : ρ (.tmp 89) = .pointer (some (Addr.add ax (0 * 7))) := r89
                  clear r89
                  have e87 : ρ (.tmp 87) = .bool false := r87
                  clear r87
                  refine ⟨87, rfl, .inl ⟨e87, ?_⟩⟩
                  exact soft_field e89 rfl (fun W => by go_simp)
                case s11 =>
                  intro ρ W hb hc hf hr
                  obtain ⟨r90, r87, -⟩ := hr
                  have e90 : ρ (.tmp 90) = .pointer (some (Addr.add ax (0 * 7))) := r90
                  clear r90
                  have e87 : ρ (.tmp 87) = .bool false := r87
                  clear r87
                  refine ⟨87, rfl, .inl ⟨e87, ?_⟩⟩
                  exact soft_load e90 (run_load16 W _ _ (HX0.out W (hbd.trans (hb.mono (by simp))))) rfl
                case s12 =>
                  intro ρ W hb hc hf hr
                  obtain ⟨r8, r87, -⟩ := hr
                  have e8 : ρ (.tmp 8) = .slice (some ai) m cI := r8
                  clear r8
                  have e87 : ρ (.tmp 87) = .bool false := r87
                  clear r87
                  refine ⟨87, rfl, .inl ⟨e87, ?_⟩⟩
                  exact ⟨e8, Below.refl _ _⟩
                case s13 =>
                  intro ρ W hb hc hf hr
                  obtain ⟨r9, r87, -⟩ := hr
                  have e9 : ρ (.tmp 9) = .int .i64 (j : Int) := r9
                  clear r9
                  have e87 : ρ (.tmp 87) = .bool false := r87
                  clear r87
                  refine ⟨87, rfl, .inl ⟨e87, ?_⟩⟩
                  exact ⟨e9, Below.refl _ _⟩
                case s14 =>
                  intro ρ W hb hc hf hr
                  obtain ⟨r92, r93, r87, -⟩ := hr
                  have e92 : ρ (.tmp 92) = .slice (some ai) m cI := r92
                  clear r92
                  have e93 : ρ (.tmp 93) = .int .i64 (j : Int) := r93
                  clear r93
                  have e87 : ρ (.tmp 87) = .bool false := r87
                  clear r87
                  refine ⟨87, rfl, .inl ⟨e87, ?_⟩⟩
                  exact soft_index1 e92 e93 hjm rfl
                case s15 =>
                  intro ρ W hb hc hf hr
                  obtain ⟨r94, r87, -⟩ := hr
                  have e94 : ρ (.tmp 94) = .pointer (some (Addr.add ai j)) := r94
                  clear r94
                  have e87 : ρ (.tmp 87) = .bool false := r87
                  clear r87
                  refine ⟨87, rfl, .inl ⟨e87, ?_⟩⟩
                  exact soft_load e94 (run_load16 W _ _ (HI0.out W (hbd.trans (hb.mono (by simp))))) rfl
                case s16 =>
                  intro ρ W hb hc hf hr
                  obtain ⟨r91, r95, r87, -⟩ := hr
                  have e91 : ρ (.tmp 91) = .int .i64 i := r91
                  clear r91
                  have e95 : ρ (.tmp 95) = .int .i64 i := r95
                  clear r95
                  have e87 : ρ (.tmp 87) = .bool false := r87
                  clear r87
                  refine ⟨87, rfl, .inl ⟨e87, ?_⟩⟩
                  exact soft_bin e91 e95 rfl rfl (neq_i64 W i i false (by simp))
                case s17 =>
                  intro ρ W hb hc hf hr
                  obtain ⟨r87, r96, -⟩ := hr
                  have e87 : ρ (.tmp 87) = .bool false := r87
                  clear r87
                  have e96 : ρ (.tmp 96) = .bool false := r96
                  clear r96
                  refine under_none rfl ?_
                  simp [execOp, e87, e96, go_sem, softUpon, Fact.is, Below.refl]
                case s18 =>
                  intro ρ W hb hc hf hr
                  obtain ⟨r97, -⟩ := hr
                  have e97 : ρ (.tmp 97) = .bool false := r97
                  clear r97
                  refine under_none rfl ?_
                  exact ⟨e97, Below.refl _ _⟩
                case s19 =>
                  intro ρ W hb hc hf hr
                  obtain ⟨r10, r98, -⟩ := hr
                  have e10 : ρ (.tmp 10) = .slice (some ax) s cX := r10
                  clear r10
                  have e98 : ρ (.tmp 98) = .bool false := r98
                  clear r98
                  refine ⟨98, rfl, .inl ⟨e98, ?_⟩⟩
                  exact ⟨e10, Below.refl _ _⟩
                case s20 =>
                  intro ρ W hb hc hf hr
                  obtain ⟨r99, r98, -⟩ := hr
                  have e99 : ρ (.tmp 99) = .slice (some ax) s cX := r99
                  clear r99
                  have e98 : ρ (.tmp 98) = .bool false := r98
                  clear r98
                  refine ⟨98, rfl, .inl ⟨e98, ?_⟩⟩
                  exact soft_call1 hf e99 (HCO.out W (hbd.trans (hb.mono (by simp)))) rfl (by kernel_rfl) below_is
                case s21 =>
                  intro ρ W hb hc hf hr
                  obtain ⟨r0, r98, -⟩ := hr
                  have e0 : ρ (.tmp 0) = .int .u16 mo := r0
                  clear r0
                  have e98 : ρ (.tmp 98) = .bool false := r98
                  clear r98
                  refine ⟨98, rfl, .inl ⟨e98, ?_⟩⟩
                  exact ⟨e0, Below.refl _ _⟩
                case s22 =>
                  intro ρ W hb hc hf hr
                  obtain ⟨r101, r98, -⟩ := hr
                  have e101 : ρ (.tmp 101) = .int .u16 mo := r101
                  clear r101
                  have e98 : ρ (.tmp 98) = .bool false := r98
                  clear r98
                  refine ⟨98, rfl, .inl ⟨e98, ?_⟩⟩
                  exact soft_conv16 e101 ha rfl
                case s23 =>
                  intro ρ W hb hc hf hr
                  obtain ⟨r100, r102, r98, -⟩ := hr
                  have e100 : ρ (.tmp 100) = .int .i64 ct := r100
                  clear r100
                  have e102 : ρ (.tmp 102) = .int .i64 mo := r102
                  clear r102
                  have e98 : ρ (.tmp 98) = .bool false := r98
                  clear r98
                  refine ⟨98, rfl, .inl ⟨e98, ?_⟩⟩
                  exact soft_bin e100 e102 rfl rfl (gtr_int W ct mo false hct)
                case s24 =>
                  intro ρ W hb hc hf hr
                  obtain ⟨r98, r103, -⟩ := hr
                  have e98 : ρ (.tmp 98) = .bool false := r98
                  clear r98
                  have e103 : ρ (.tmp 103) = .bool false := r103
                  clear r103
                  refine under_none rfl ?_
                  simp [execOp, e98, e103, go_sem, softUpon, Fact.is, Below.refl]
                case s25 =>
                  intro ρ W hb hc hf hr
                  obtain ⟨r104, -⟩ := hr
                  have e104 : ρ (.tmp 104) = .bool false := r104
                  clear r104
                  refine under_none rfl ?_
                  exact ⟨e104, Below.refl _ _⟩
                case s26 =>
                  intro ρ W hb hc hf hr
                  obtain ⟨r9, r105, -⟩ := hr
                  have e9 : ρ (.tmp 9) = .int .i64 (j : Int) := r9
                  clear r9
                  have e105 : ρ (.tmp 105) = .bool false := r105
                  clear r105
                  refine ⟨105, rfl, .inl ⟨e105, ?_⟩⟩
                  exact ⟨e9, Below.refl _ _⟩
                case s27 =>
                  intro ρ W hb hc hf hr
                  obtain ⟨r106, r105, -⟩ := hr
                  have e106 : ρ (.tmp 106) = .int .i64 (j : Int) := r106
                  clear r106
                  have e105 : ρ (.tmp 105) = .bool false := r105
                  clear r105
                  refine ⟨105, rfl, .inl ⟨e105, ?_⟩⟩
                  exact soft_bin e106 (hc _) rfl rfl (gtr_int W _ _ false hj0)
                case s28 =>
                  intro ρ W hb hc hf hr
                  obtain ⟨r107, r105, -⟩ := hr
                  have e107 : ρ (.tmp 107) = .bool false := r107
                  clear r107
                  have e105 : ρ (.tmp 105) = .bool false := r105
                  clear r105
                  refine ⟨105, rfl, .inl ⟨e105, ?_⟩⟩
                  exact ⟨e107, Below.refl _ _⟩
                case s29 =>
                  intro ρ W hb hc hf hr
                  obtain ⟨r8, r108, -⟩ := hr
                  have e8 : ρ (.tmp 8) = .slice (some ai) m cI := r8
                  clear r8
                  have e108 : ρ (.tmp 108) = .bool false := r108
                  clear r108
                  exact ⟨108, rfl, .inr (.inl ⟨e108, rfl⟩)⟩
                case s30 =>
                  intro ρ W hb hc hf hr
                  obtain ⟨r9, r108, -⟩ := hr
                  have e9 : ρ (.tmp 9) = .int .i64 (j : Int) := r9
                  clear r9
                  have e108 : ρ (.tmp 108) = .bool false := r108
                  clear r108
                  exact ⟨108, rfl, .inr (.inl ⟨e108, rfl⟩)⟩
                case s31 =>
                  intro ρ W hb hc hf hr
                  obtain ⟨r109, r110, r108, -⟩ := hr
                  have e109 : ρ (.tmp 109) = undef := r109
                  clear r109
                  have e110 : ρ (.tmp 110) = undef := r110
                  clear r110
                  have e108 : ρ (.tmp 108) = .bool false := r108
                  clear r108
                  exact ⟨108, rfl, .inr (.inl ⟨e108, rfl⟩)⟩
                case s32 =>
                  intro ρ W hb hc hf hr
                  obtain ⟨r111, r108, -⟩ := hr
                  have e111 : ρ (.tmp 111) = undef := r111
                  clear r111
                  have e108 : ρ (.tmp 108) = .bool false := r108
                  clear r108
                  exact ⟨108, rfl, .inr (.inl ⟨e108, rfl⟩)⟩
                case s33 =>
                  intro ρ W hb hc hf hr
                  obtain ⟨r8, r108, -⟩ := hr
                  have e8 : ρ (.tmp 8) = .slice (some ai) m cI := r8
                  clear r8
                  have e108 : ρ (.tmp 108) = .bool false := r108
                  clear r108
                  exact ⟨108, rfl, .inr (.inl ⟨e108, rfl⟩)⟩
                case s34 =>
                  intro ρ W hb hc hf hr
                  obtain ⟨r9, r108, -⟩ := hr
                  have e9 : ρ (.tmp 9) = .int .i64 (j : Int) := r9
                  clear r9
                  have e108 : ρ (.tmp 108) = .bool false := r108
                  clear r108
                  exact ⟨108, rfl, .inr (.inl ⟨e108, rfl⟩)⟩
                case s35 =>
                  intro ρ W hb hc hf hr
                  obtain ⟨r114, r108, -⟩ := hr
                  have e114 : ρ (.tmp 114) = undef := r114
                  clear r114
                  have e108 : ρ (.tmp 108) = .bool false := r108
                  clear r108
                  exact ⟨108, rfl, .inr (.inl ⟨e108, rfl⟩)⟩
                case s36 =>
                  intro ρ W hb hc hf hr
                  obtain ⟨r113, r115, r108, -⟩ := hr
                  have e113 : ρ (.tmp 113) = undef := r113
                  clear r113
                  have e115 : ρ (.tmp 115) = undef := r115
                  clear r115
                  have e108 : ρ (.tmp 108) = .bool false := r108
                  clear r108
                  exact ⟨108, rfl, .inr (.inl ⟨e108, rfl⟩)⟩
                case s37 =>
                  intro ρ W hb hc hf hr
                  obtain ⟨r116, r108, -⟩ := hr
                  have e116 : ρ (.tmp 116) = undef := r116
                  clear r116
                  have e108 : ρ (.tmp 108) = .bool false := r108
                  clear r108
                  exact ⟨108, rfl, .inr (.inl ⟨e108, rfl⟩)⟩
                case s38 =>
                  intro ρ W hb hc hf hr
                  obtain ⟨r112, r117, r108, -⟩ := hr
                  have e112 : ρ (.tmp 112) = undef := r112
                  clear r112
                  have e117 : ρ (.tmp 117) = undef := r117
                  clear r117
                  have e108 : ρ (.tmp 108) = .bool false := r108
                  clear r108
                  exact ⟨108, rfl, .inr (.inl ⟨e108, rfl⟩)⟩
                case s39 =>
                  intro ρ W hb hc hf hr
                  obtain ⟨r108, r118, r105, -⟩ := hr
                  have e108 : ρ (.tmp 108) = .bool false := r108
                  clear r108
                  have e118 : ρ (.tmp 118) = undef := r118
                  clear r118
                  have e105 : ρ (.tmp 105) = .bool false := r105
                  clear r105
                  refine ⟨105, rfl, .inl ⟨e105, ?_⟩⟩
                  simp [execOp, e108, hc, go_sem, softUpon, Fact.is, Below.refl]
                case s40 =>
                  intro ρ W hb hc hf hr
                  obtain ⟨r105, r119, -⟩ := hr
                  have e105 : ρ (.tmp 105) = .bool false := r105
                  clear r105
                  have e119 : ρ (.tmp 119) = .bool false := r119
                  clear r119
                  refine under_none rfl ?_
                  simp [execOp, e105, e119, go_sem, softUpon, Fact.is, Below.refl]
                case fin =>
                  intro a w1 hb hd hsz hk
                  have ea := act_puts hd hsz rfl hk
                  have k80 : a.tmps.getD 80 undef = .bool true := hk 80
                  have k81 : a.tmps.getD 81 undef = .bool false := hk 81
                  have k82 : a.tmps.getD 82 undef = .bool false := hk 82
                  have k83 : a.tmps.getD 83 undef = .slice (some ax) s cX := hk 83
                  have k84 : a.tmps.getD 84 undef = .bool true := hk 84
                  have k85 : a.tmps.getD 85 undef = .bool false := hk 85
                  have k86 : a.tmps.getD 86 undef = .bool false := hk 86
                  have k87 : a.tmps.getD 87 undef = .bool false := hk 87
                  have k88 : a.tmps.getD 88 undef = .slice (some ax) s cX := hk 88
                  have k89 : a.tmps.getD 89 undef = .pointer (some (Addr.add ax (0 * 7))) := hk 89
                  have k90 : a.tmps.getD 90 undef = .pointer (some (Addr.add ax (0 * 7))) := hk 90
                  have k91 : a.tmps.getD 91 undef = .int .i64 i := hk 91
                  have k92 : a.tmps.getD 92 undef = .slice (some ai) m cI := hk 92
                  have k93 : a.tmps.getD 93 undef = .int .i64 (j : Int) := hk 93
                  have k94 : a.tmps.getD 94 undef = .pointer (some (Addr.add ai j)) := hk 94
                  have k95 : a.tmps.getD 95 undef = .int .i64 i := hk 95
                  have k96 : a.tmps.getD 96 undef = .bool false := hk 96
                  have k97 : a.tmps.getD 97 undef = .bool false := hk 97
                  have k98 : a.tmps.getD 98 undef = .bool false := hk 98
                  have k99 : a.tmps.getD 99 undef = .slice (some ax) s cX := hk 99
                  have k100 : a.tmps.getD 100 undef = .int .i64 ct := hk 100
                  have k101 : a.tmps.getD 101 undef = .int .u16 mo := hk 101
                  have k102 : a.tmps.getD 102 undef = .int .i64 mo := hk 102
                  have k103 : a.tmps.getD 103 undef = .bool false := hk 103
                  have k104 : a.tmps.getD 104 undef = .bool false := hk 104
                  have k105 : a.tmps.getD 105 undef = .bool false := hk 105
                  have k106 : a.tmps.getD 106 undef = .int .i64 (j : Int) := hk 106
                  have k107 : a.tmps.getD 107 undef = .bool false := hk 107
                  have k108 : a.tmps.getD 108 undef = .bool false := hk 108
                  have k109 : a.tmps.getD 109 undef = undef := hk 109
                  have k110 : a.tmps.getD 110 undef = undef := hk 110
                  have k111 : a.tmps.getD 111 undef = undef := hk 111
                  have k112 : a.tmps.getD 112 undef = undef := hk 112
                  have k113 : a.tmps.getD 113 undef = undef := hk 113
                  have k114 : a.tmps.getD 114 undef = undef := hk 114
                  have k115 : a.tmps.getD 115 undef = undef := hk 115
                  have k116 : a.tmps.getD 116 undef = undef := hk 116
                  have k117 : a.tmps.getD 117 undef = undef := hk 117
                  have k118 : a.tmps.getD 118 undef = undef := hk 118
                  have k119 : a.tmps.getD 119 undef = .bool false := hk 119
                  have k120 : a.tmps.getD 120 undef = .bool false := hk 120
                  clear hk hd hsz
                  simp only [List.map_cons, List.map_nil, List.foldl_cons, List.foldl_nil, k80, k81, k82, k83, k84, k85, k86, k87, k88, k89, k90, k91, k92, k93, k94, k95, k96, k97, k98, k99, k100, k101, k102, k103, k104, k105, k106, k107, k108, k109, k110, k111, k112, k113, k114, k115, k116, k117, k118, k119, k120] at ea
                  clear k80 k81 k82 k83 k84 k85 k86 k87 k88 k89 k90 k91 k92 k93 k94 k95 k96 k97 k98 k99 k100 k101 k102 k103 k104 k105 k106 k107 k108 k109 k110 k111 k112 k113 k114 k115 k116 k117 k118 k119 k120
                  simp only [Act.put, List.setIfInBounds_toArray, List.set_cons_succ, List.set_cons_zero] at ea
                  subst ea
                  have HWB := Lib.hid (HWA.out.trans ((hbd.trans (hb.mono (by simp))).mono HWA.out.size))
                  clear hb
                  go_wp2
                  go_roundw
                  case rel => exact ⟨j + 1, by go_num, by omega, HWB.out⟩
                  case measure => simp [intOf]; omega
            · obtain rfl : j = m := by omega
              have HE := Lib.hid (HB6.out.trans (HW.out.mono HB6.out.size))
              have HPE := Lib.hid (HK.out.below HP6.out HW.out)
              go_wp2
              go_roundw
              case rel => exact ⟨k + 1, O4, G4, by go_num, by omega, HPE.out, HO4.out, HE.out⟩
              case measure => simp [intOf]; omega
      · obtain rfl : k = n := by omega
        go_wp2
        go_ret
        exact ⟨rfl, HBR.out⟩

open Go.ChangeShapes Go.WideShapes Go.ChangeAt

theorem walk (w : World) (a : Int) (ha : 0 ≤ a ∧ a ≤ 65535) (A : Option Addr) (cap : Nat) (l : List O16) (hl : l.length ≤ cap) (hm : cap ≤ maxLen) (hA : Lies w A (flatO16 l)) (hQ : ∀ u ∈ l, O16In w u) :
    Calls Try.prog 5 #[.int .u16 a, .slice A l.length cap] w fun e w' => e = .returned (.bool true) ∧ Below w.heap.size w w' :=
  walkN poolOk w a ha A l.length cap l rfl hl hm hA hQ

set_option maxRecDepth 100000 in
theorem lifted (os : Os) (started : os.Started) (H : Type) (enc : TypeId × Value → H) :
    ReturnsInHanded {} Try.checked os 5 .any (Rows.poolWithinSpec.pre6 enc Try.prog Try.f5 Rows.poolWithinRow.domain false) (Rows.poolWithinSpec.post enc Try.prog Try.f5 false true false false) := by
  refine returnsInHanded_of_change (C := Try.checked) own started (by kernel_rfl) Try.func5
    (ChangeSpec.witness6 (enc := enc) (C := Try.checked) false ⟨#[], #[.int .u16 0, .slice none 0 0], []⟩ 8 (by kernel_rfl) (by kernel_rfl) (by kernel_rfl) (by kernel_rfl)) ?_
  intro W base args ds gs before hval0 hW hcnd _
  have hval : ∀ (j : Nat) t v, Try.f5.params[j]? = some t → args[j]? = some v → Value.okWide Try.prog W .any base t v := hval0
  have hfin := fun W' => law_post (enc := enc) (P := Try.prog) (f := Try.f5) (s := Rows.poolWithinSpec) (tb := 4) (W := W) (W' := W') (args := args) (ds := ds) (gs := gs) (before := before) laidOut rfl (by kernel_rfl) Try.underlying4 (by kernel_rfl) (fun xs h => by rw [Try.params5] at h; match xs, h with | [_, _], _ => rfl) hW
  have hlt : ∀ x ∈ before, x.block < W.heap.size := fun x hx => hW.lt x hx
  obtain ⟨p, q, hA0, hV, rfl, hfz, hnd⟩ := hW
  have hA : DataW.TrodAll enc Try.prog W 0 (fun _ => true) true Try.f5.params.toList args.toList ds p := hA0
  rw [Try.params5] at hA hval
  obtain ⟨v0, vs0, d0, ds0, p0, q0, hargs, rfl, rfl, h0, r0⟩ := trodAll_cons hA
  obtain ⟨v1, vs1, d1, ds1, p1, q1, rfl, rfl, rfl, h1, r1⟩ := trodAll_cons r0
  obtain ⟨rfl, rfl, rfl⟩ := trodAll_nil r1
  obtain rfl : args = #[v0, v1] := by cases args; simp_all
  obtain ⟨a0, rfl, rfl, rfl, w0⟩ := open_int Try.underlying43 (hval 0 43 v0 rfl rfl) h0
  obtain ⟨A1, cap1, l1, rfl, hl1, hm1, hB1, hQ1⟩ := open_ops16 (hval 1 22 v1 rfl rfl) h1 (fun x hx => hlt x (by simp [hx]))
  refine (walk W a0 (bounds_u16 w0) A1 cap1 l1 hl1 hm1 hB1 hQ1).mono fun e W' ⟨he, hg⟩ => ?_
  subst he
  exact ⟨_, rfl, hfin W' hg⟩

theorem proved : Rows.PoolWithinSaid :=
  OpenClaim.holds_of_wide 5 Try.f5 rfl rfl rfl rfl rfl rfl rfl ⟨rfl, rfl, rfl, rfl, rfl⟩ rfl rfl rfl rfl rfl (by kernel_rfl) Try.func5 (by kernel_rfl)
    (of_decide_eq_true (by kernel_rfl)) (by unfold Func.isWrapper; first | (rw [if_pos (by decide +kernel)]; kernel_rfl) | (rw [if_neg (by decide +kernel)]; exact ⟨rfl, rfl⟩))
    (fun os started H enc _ => lifted os started H enc)
#print axioms proved
end Go.Proofs.Ythcchfhkeghkhaa.poolWithin
