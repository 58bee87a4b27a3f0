/-
  Layer 9, the document's answer: its Put: what it answers, of any table. Assumed: that the extents lie in memory.
-/
import Derived.Test.YtehnhjnkbclnlaaGreatDoorRf9
import Derived.Test.YtehnhjnkbclnlaaGreatDoorSoftN
import Derived.BigRegion

namespace Go.Proofs.YtehnhjnkbclnlaaGreatDoor
open Go.ChangeShapes Go.WideShapes Go.ChangeAt Go.RowKit
set_option maxRecDepth 100000

theorem own_mono {w : World} {base base' size n : Nat} {e : TypeId} {v : Value} {xs : List Value} (h : w.ownsRow base e size v n xs) (hb : base' ≤ base) : w.ownsRow base' e size v n xs := by
  refine ⟨h.1, h.2.imp id ?_⟩
  rintro ⟨g, cap, cur, h1, h2, h3⟩
  exact ⟨g, cap, cur, h1, Nat.le_trans hb h2, h3⟩
theorem soft_two9 {w : World} {ρ : Operand → Value} {o : Oper} {x y : Operand} {n m : Nat} (hx : ρ x = .int .u8 (n : Int)) (hy : ρ y = .int .u8 (m : Int)) (hn : n ≤ 8) (hm : m ≤ 8) (ho : o.op = .buildSlice 32 2 #[(0, x), (1, y)]) : softUpon Tryz.prog w (Fact.lie 2 (cells (Tb.le 1 n ++ Tb.le 1 m))) ((execOp ρ o).run Tryz.prog w) := by
  have hr : (execOp ρ o).run Tryz.prog w = .ok (.value (.slice (some ⟨w.heap.size, 0, none⟩) 2 2)) (w.alloc (.cells #[.int .u8 (n : Int), .int .u8 (m : Int)] 5)) := by
    simp [execOp, ho, hx, hy, go_sem]
  have hv : cells (Tb.le 1 n ++ Tb.le 1 m) = [.int .u8 (n : Int), .int .u8 (m : Int)] := by
    simp [Tb.le, cells]
    omega
  rw [hr, hv]
  exact ⟨⟨_, _, rfl, Lies.new w #[.int .u8 (n : Int), .int .u8 (m : Int)] 5⟩, (Below.refl _ _).alloc (Nat.le_refl _) _⟩

set_option maxHeartbeats 8000000 in
theorem rtput_yes (gn on : Nat) (A : Option Addr) (cap n : Nat) (xs : List Tb.Ext) (w : World) (hn : xs.length = n) (hA : Lies w A (flatX xs)) (hr : Tb.right ⟨(gn : Int), (on : Int) - 1, xs⟩ = true) :
    Calls Tryz.prog 35 #[tabV (gn : Int) ((on : Int) - 1) A n cap] w (Made w (Tb.put ⟨(gn : Int), (on : Int) - 1, xs⟩)) := by
  have hR := Tb.right_iff.1 hr
  have hn8 : n ≤ 8 := by rw [← hn]; exact hR.n2
  have hon : on ≤ 8 := by have := hR.open_lt; simp only at this; omega
  have hgn : gn < 4611686018427387904 := by have := hR.g2; simp only at this; omega
  have HOKX := Lib.hid hR.ok
  have HPC := Lib.hid (show Tb.put ⟨(gn : Int), (on : Int) - 1, xs⟩ = Ce.put (gn : Int) 255 (front gn n on ++ Tb.flatE xs) by
    rw [Tb.put_cell hr, bytes_front gn n on xs hn _ rfl])
  have HRG := Lib.hid (fun (W : World) (hA : Lies W A (flatX xs)) => rright9_any (gn : Int) ((on : Int) - 1) A cap n xs W hn hA)
  rw [hr] at HRG
  have HN := Lib.hid hn
  have HFL := Lib.hid (show ∀ ys : List Tb.Ext, (front gn n on ++ Tb.flatE ys).length = 6 + ys.length * 6 from fun ys => by
    rw [List.length_append, Tb.flatE_length]; simp [front, Tb.le_length]; omega)
  have HB0 := Lib.hid ((Below.refl w.heap.size w).alloc (Nat.le_refl _) (.cells #[.int .i64 (gn : Int), .int .i64 ((on : Int) - 1), .slice A n cap] 31))
  have HBX := Lib.hid (Blk.new w #[.int .i64 (gn : Int), .int .i64 ((on : Int) - 1), .slice A n cap] 31)
  have HA0 := Lib.hid (hA.below HB0.out)
  generalize Tb.put ⟨(gn : Int), (on : Int) - 1, xs⟩ = PT at *
  clear hA hn hr hR
  go_enter Tryz.func35, Tryz.ntmps35
  go_wp2_with fail
  refine (HRG.out _ HA0.out).mono ?_
  rintro e w1 ⟨rfl, d1⟩
  have hb1 := HBX.out.below d1 (Nat.le_refl _)
  have HBX1 := Lib.hid hb1
  have HA1 := Lib.hid (HA0.out.below d1)
  have HB1 := Lib.hid (HB0.out.trans (d1.mono HB0.out.size))
  have HG1 := Lib.hid hb1.lt
  clear d1 HRG HA0 HB0 HBX hb1
  have HC0 := Lib.hid (fun (W : World) (hW : Below w1.heap.size w1 W) => show (Instr.loadAt 2 (.pointer (some ⟨w.heap.size, 0, none⟩))).run Tryz.prog W = .ok (.int .i64 (gn : Int)) W by
    have c := (HBX1.out.below hW (Nat.le_refl _)).cell 0
    go_simp)
  have HC1 := Lib.hid (fun (W : World) (hW : Below w1.heap.size w1 W) => show (Instr.loadAt 3 (.pointer (some ⟨w.heap.size, 1, none⟩))).run Tryz.prog W = .ok (.int .i64 ((on : Int) - 1)) W by
    have c := (HBX1.out.below hW (Nat.le_refl _)).cell 1
    go_simp)
  have HC2 := Lib.hid (fun (W : World) (hW : Below w1.heap.size w1 W) => show (Instr.loadAt 29 (.pointer (some ⟨w.heap.size, 2, none⟩))).run Tryz.prog W = .ok (.slice A n cap) W by
    have c := (HBX1.out.below hW (Nat.le_refl _)).cell 2
    go_simp)
  have HP0 := Lib.hid (fun (W : World) => rputn_walk W.heap.size 4 0 gn (by omega) hgn (.slice none 0 0) [] W (Nat.le_refl _) (by omega) (World.ownsRow_nil _ _ _ 1))
  have HPR := Lib.hid (show ∀ (W : World), Below w1.heap.size w1 W → ∀ (e : Ending) (w' : World), (∃ v', e = .returned v' ∧ w'.ownsRow W.heap.size 5 1 v' (0 + 4) (cells ([] ++ Tb.le 4 gn)) ∧ Below W.heap.size W w' ∧ Grew W (.slice none 0 0) w' v') → ∃ v, e = .returned v ∧ (Fact.row w1.heap.size 5 1 4 (cells (Tb.le 4 gn))).φ v w' ∧ Below W.heap.size W w' from
    fun W hW e w' ⟨v', he, h1, h2, _⟩ => ⟨v', he, own_mono h1 hW.size, h2⟩)
  have HV1 := Lib.hid (fun (W : World) => show (convert 3 5 (.int .i64 (n : Int))).run Tryz.prog W = .ok (.int .u8 (n : Int)) W by
    have e : IntKind.u8.wrap (n : Int) = (n : Int) := by simp [IntKind.wrap, IntKind.bits, IntKind.signed]; omega
    go_simp)
  have HV2 := Lib.hid (fun (W : World) => show (binOp .add 3 (.int .i64 ((on : Int) - 1)) (.int .i64 1)).run Tryz.prog W = .ok (.int .i64 (on : Int)) W by
    go_simp
    rw [IntKind.wrap_i64]
    omega)
  have HV3 := Lib.hid (fun (W : World) => show (convert 3 5 (.int .i64 (on : Int))).run Tryz.prog W = .ok (.int .u8 (on : Int)) W by
    have e : IntKind.u8.wrap (on : Int) = (on : Int) := by simp [IntKind.wrap, IntKind.bits, IntKind.signed]; omega
    go_simp)
  have hbd : Below w1.heap.size w1 w1.drew := (Below.refl _ _).drew
  go_wp2
  refine wp_late (by kernel_rfl) 47 [(8, [1]), (9, [8]), (10, [9]), (11, [1]), (12, [11]), (13, [12]), (14, [13]), (15, [1]), (16, [15]), (17, [16]), (18, [17]), (19, [14, 18]), (1012, [10, 19]), (1013, [20])]
    [Fact.is (.pointer (some ⟨w.heap.size, 0, none⟩)), Fact.is (.int .i64 (gn : Int)), Fact.row w1.heap.size 5 1 4 (cells (Tb.le 4 gn)), Fact.is (.pointer (some ⟨w.heap.size, 2, none⟩)), Fact.is (.slice A n cap), Fact.is (.int .i64 n), Fact.is (.int .u8 (n : Int)), Fact.is (.pointer (some ⟨w.heap.size, 1, none⟩)), Fact.is (.int .i64 ((on : Int) - 1)), Fact.is (.int .i64 (on : Int)), Fact.is (.int .u8 (on : Int)), Fact.lie 2 (cells (Tb.le 1 n ++ Tb.le 1 on)), default, default]
    [1, 1, 1, 1, 1, 1, 1, 1, 1, 1, 1, 1, 2, 2] [12, 13] [20, 3] [8, 9, 10, 11, 12, 13, 14, 15, 16, 17, 18, 19, 20, 3] (Row1 w1.heap.size 5 1 6 (cells (front gn n on)) w1)
    (by kernel_rfl) (by kernel_rfl) rfl rfl ⟨?s0, ?s1, ?s2, ?s3, ?s4, ?s5, ?s6, ?s7, ?s8, ?s9, ?s10, ?s11, trivial⟩ ?late ?fin
  case s0 =>
    intro ρ W hb hc hf hr
    obtain ⟨r1, -⟩ := hr
    have e1 : ρ (.tmp 1) = .pointer (some ⟨w.heap.size, 0, none⟩) := r1
    clear r1
    refine under_none rfl ?_
    exact soft_field e1 rfl (fun W => by go_simp)
  case s1 =>
    intro ρ W hb hc hf hr
    obtain ⟨r8, -⟩ := hr
    have e8 : ρ (.tmp 8) = .pointer (some ⟨w.heap.size, 0, none⟩) := r8
    clear r8
    refine under_none rfl ?_
    exact soft_load e8 (HC0.out W (hbd.trans (hb.mono (by simp)))) rfl
  case s2 =>
    intro ρ W hb hc hf hr
    obtain ⟨r9, -⟩ := hr
    have e9 : ρ (.tmp 9) = .int .i64 (gn : Int) := r9
    clear r9
    refine under_none rfl ?_
    exact soft_call3 hf (hc _) e9 (hc _) (HP0.out W) rfl (by kernel_rfl) (HPR.out W (hbd.trans (hb.mono (by simp))))
  case s3 =>
    intro ρ W hb hc hf hr
    obtain ⟨r1, -⟩ := hr
    have e1 : ρ (.tmp 1) = .pointer (some ⟨w.heap.size, 0, none⟩) := r1
    clear r1
    refine under_none rfl ?_
    exact soft_field e1 rfl (fun W => by go_simp)
  case s4 =>
    intro ρ W hb hc hf hr
    obtain ⟨r11, -⟩ := hr
    have e11 : ρ (.tmp 11) = .pointer (some ⟨w.heap.size, 2, none⟩) := r11
    clear r11
    refine under_none rfl ?_
    exact soft_load e11 (HC2.out W (hbd.trans (hb.mono (by simp)))) rfl
  case s5 =>
    intro ρ W hb hc hf hr
    obtain ⟨r12, -⟩ := hr
    have e12 : ρ (.tmp 12) = .slice A n cap := r12
    clear r12
    refine under_none rfl ?_
    simp [e12, go_sem, softUpon, Fact.is, Below.refl]
  case s6 =>
    intro ρ W hb hc hf hr
    obtain ⟨r13, -⟩ := hr
    have e13 : ρ (.tmp 13) = .int .i64 n := r13
    clear r13
    refine under_none rfl ?_
    exact soft_conv e13 (HV1.out W) rfl
  case s7 =>
    intro ρ W hb hc hf hr
    obtain ⟨r1, -⟩ := hr
    have e1 : ρ (.tmp 1) = .pointer (some ⟨w.heap.size, 0, none⟩) := r1
    clear r1
    refine under_none rfl ?_
    exact soft_field e1 rfl (fun W => by go_simp)
  case s8 =>
    intro ρ W hb hc hf hr
    obtain ⟨r15, -⟩ := hr
    have e15 : ρ (.tmp 15) = .pointer (some ⟨w.heap.size, 1, none⟩) := r15
    clear r15
    refine under_none rfl ?_
    exact soft_load e15 (HC1.out W (hbd.trans (hb.mono (by simp)))) rfl
  case s9 =>
    intro ρ W hb hc hf hr
    obtain ⟨r16, -⟩ := hr
    have e16 : ρ (.tmp 16) = .int .i64 ((on : Int) - 1) := r16
    clear r16
    refine under_none rfl ?_
    exact soft_bin e16 (hc _) rfl rfl (HV2.out W)
  case s10 =>
    intro ρ W hb hc hf hr
    obtain ⟨r17, -⟩ := hr
    have e17 : ρ (.tmp 17) = .int .i64 (on : Int) := r17
    clear r17
    refine under_none rfl ?_
    exact soft_conv e17 (HV3.out W) rfl
  case s11 =>
    intro ρ W hb hc hf hr
    obtain ⟨r14, r18, -⟩ := hr
    have e14 : ρ (.tmp 14) = .int .u8 (n : Int) := r14
    clear r14
    have e18 : ρ (.tmp 18) = .int .u8 (on : Int) := r18
    clear r18
    refine under_none rfl ?_
    exact soft_two9 e14 e18 hn8 hon rfl
  case late =>
    intro p j o hj ho a W hsz h0 h1 hfr hou
    match p, hj with
    | 0, hj =>
      obtain rfl : 12 = j := Option.some.inj hj
      obtain rfl := Option.some.inj ho
      clear hj ho
      obtain ⟨hb, hhard⟩ := h0 rfl
      have r10 : (Fact.row w1.heap.size 5 1 4 (cells (Tb.le 4 gn))).φ (a.tmps.getD 10 undef) W := hhard 10 2 rfl rfl
      have r19 : (Fact.lie 2 (cells (Tb.le 1 n ++ Tb.le 1 on))).φ (a.tmps.getD 19 undef) W := hhard 19 11 rfl rfl
      clear h0 h1 hhard hfr hou
      obtain ⟨i0, hi, hz0, hz1, hz2⟩ := info_parts infoU8
      have hW := hbd.trans (hb.mono (by simp))
      refine late_app (P := Tryz.prog) (s := .tmp 10) (x := .tmp 19) (n := 4) (m := 2) (t := 32) Tryz.underlying32 hi hz0 hz1 hz2 rfl (by decide) r10 r19 (by simp [cells, Tb.le]) (by simp [cells, Tb.le, Value.oneCell']) (by unfold maxLen; omega) (by omega) hW.size rfl fun v w' ho hbb => ⟨v, rfl, ?_⟩
      exact ⟨hbb _ hW, fun _ => by simpa [Act.put, Array.getD_eq_getD_getElem?, hsz, front, cells_append] using ho, fun h => absurd h (by omega)⟩
    | 1, hj =>
      obtain rfl : 13 = j := Option.some.inj hj
      obtain rfl := Option.some.inj ho
      clear hj ho
      have hP := h1 (by omega)
      clear h0 h1 hfr hou
      obtain ⟨hb, ho, -⟩ := hP
      refine late_assign rfl rfl ⟨_, rfl, ?_⟩
      exact ⟨hb, fun _ => by simpa [Act.put, Array.getD_eq_getD_getElem?, hsz] using ho (by omega), fun _ => by simp [Act.put, Act.eval, Array.getD_eq_getD_getElem?, hsz]⟩
    | q + 2, hj => cases hj
  case fin =>
    intro a w2 ha hP
    obtain ⟨d2, ho2, he2⟩ := hP
    have e3 : a.tmps.getD 3 undef = a.tmps.getD 20 undef := by simpa using he2 rfl
    have hr2 : w2.ownsRow w1.heap.size 5 1 (a.tmps.getD 20 undef) 6 (cells (front gn n on)) := ho2 (by decide)
    clear he2 ho2
    obtain ⟨v20, e20⟩ : ∃ v, a.tmps.getD 20 undef = v := ⟨_, rfl⟩
    rw [e20] at e3 hr2
    simp only [List.foldl_cons, List.foldl_nil, e3, e20] at ha
    clear e3 e20
    generalize a.tmps.getD 8 undef = v8 at ha
    generalize a.tmps.getD 9 undef = v9 at ha
    generalize a.tmps.getD 10 undef = v10 at ha
    generalize a.tmps.getD 11 undef = v11 at ha
    generalize a.tmps.getD 12 undef = v12 at ha
    generalize a.tmps.getD 13 undef = v13 at ha
    generalize a.tmps.getD 14 undef = v14 at ha
    generalize a.tmps.getD 15 undef = v15 at ha
    generalize a.tmps.getD 16 undef = v16 at ha
    generalize a.tmps.getD 17 undef = v17 at ha
    generalize a.tmps.getD 18 undef = v18 at ha
    generalize a.tmps.getD 19 undef = v19 at ha
    simp only [Act.put, List.setIfInBounds_toArray, List.set_cons_succ, List.set_cons_zero] at ha
    subst ha
    have HR2 := Lib.hid hr2
    have HD2 := Lib.hid d2
    clear hr2 d2
    have hbx2 := HBX1.out.below (show Below w1.heap.size w1 w2 from HD2.out) (Nat.le_refl _)
    have z2 : w2.cell? ⟨w.heap.size, 2, none⟩ = some (.slice A n cap) := hbx2.cell 2
    clear hbx2
    go_wp2_with fail
    go_loopw [3, 4] (fun vb vi wr => ∃ i : Nat, vi = .int .i64 i ∧ i ≤ n ∧ wr.ownsRow w1.heap.size 5 1 vb (6 + i * 6) (cells (front gn n on ++ Tb.flatE (xs.take i))) ∧ Below w1.heap.size w1 wr) (fun _ vi _ => n - (intOf vi).toNat)
    case atStart => exact ⟨0, rfl, by omega, by simpa [Tb.flatE] using HR2.out, HD2.out⟩
    case round =>
      obtain ⟨i, rfl, hi, hown, hbr⟩ := hrel
      have HOW := Lib.hid hown
      have HSZ := Lib.hid hbr.size
      obtain ⟨AV, cv, rfl, -, -, -, hlb⟩ := own_form hown
      have HLB := Lib.hid hlb
      clear hown hlb z2
      have hbx3 := HBX1.out.below hbr (Nat.le_refl _)
      have z2 : wr.cell? ⟨w.heap.size, 2, none⟩ = some (.slice A n cap) := hbx3.cell 2
      by_cases hin : i < n
      · clear hbx3
        have hil : i < xs.length := by have := HN.out; omega
        obtain ⟨ad, rfl, hadb, hcx⟩ := at_ext HA1.out i hil
        have HX := Lib.hid (show front gn n on ++ Tb.flatE (xs.take (i + 1)) = (front gn n on ++ Tb.flatE (xs.take i)) ++ Tb.bytesE xs[i] by
          unfold Tb.flatE
          rw [List.take_succ_eq_append_getElem hil, List.flatMap_append, List.append_assoc, List.flatMap_cons, List.flatMap_nil, List.append_nil])
        obtain ⟨hq1, hq2, hq3, hq4, -⟩ := Tb.okE_iff.1 (HOKX.out _ (List.getElem_mem hil))
        have HIN := Lib.hid (show i + 1 ≤ n by omega)
        generalize hXX : front gn n on ++ Tb.flatE (xs.take i) = X at *
        have HXX := Lib.hid hXX
        clear hXX
        generalize xs[i] = x at *
        obtain ⟨xq, xl⟩ := x
        simp only at hq1 hq2 hq3 hq4 hcx
        obtain ⟨q, rfl⟩ := Int.eq_ofNat_of_zero_le hq1
        obtain ⟨l, rfl⟩ := Int.eq_ofNat_of_zero_le hq3
        have hq9 : q < 4611686018427387904 := by omega
        have hl9 : l < 4611686018427387904 := by omega
        have hL9 : 6 + i * 6 + 4 ≤ 64 := by omega
        have HBE := Lib.hid (show Tb.bytesE ⟨(q : Int), (l : Int)⟩ = Tb.le 4 q ++ Tb.le 2 l by simp [Tb.bytesE])
        have HI2 := Lib.hid (fun (W : World) => show (Instr.indexAt 29 (.slice (some ad) n cap) (.int .i64 (i : Int))).run Tryz.prog W = .ok (.pointer (some (ad.add (i * 2)))) W by go_simp)
        have HQ := Lib.hid (fun (W : World) (hW : Below w1.heap.size wr W) => show (Instr.loadAt 2 (.pointer (some (ad.add (i * 2))))).run Tryz.prog W = .ok (.int .i64 (q : Int)) W by
          have c := (hcx W (hbr.trans hW)).1
          go_simp)
        have HL := Lib.hid (fun (W : World) (hW : Below w1.heap.size wr W) => show (Instr.loadAt 3 (.pointer (some ⟨(ad.add (i * 2)).block, (ad.add (i * 2)).off + 1, none⟩))).run Tryz.prog W = .ok (.int .i64 (l : Int)) W by
          have c := (hcx W (hbr.trans hW)).2
          go_simp)
        have HC2 := Lib.hid (fun (W : World) (hW : Below w1.heap.size wr W) => HC2.out W (hbr.trans hW))
        have hbd : Below wr.heap.size wr wr.drew := (Below.refl _ _).drew
        clear hcx hq1 hq2 hq3 hq4 HC0 HC1 HP0 HPR HV1 HV2 HV3
        go_wp2
        refine wp_lateI (by kernel_rfl) (fun W => Below w1.heap.size wr W) 47 [(28, [3]), (29, [1]), (30, [29]), (31, [4]), (32, [30, 31]), (33, [32]), (34, [33]), (1007, [28, 34]), (36, [1]), (37, [36]), (38, [4]), (39, [37, 38]), (40, [39]), (41, [40]), (1014, [35, 41]), (1015, [42])]
          [Fact.is (.slice AV (6 + i * 6) cv), Fact.is (.pointer (some ⟨w.heap.size, 2, none⟩)), Fact.is (.slice (some ad) n cap), Fact.is (.int .i64 (i : Int)), Fact.is (.pointer (some (ad.add (i * 2)))), Fact.is (.pointer (some (ad.add (i * 2)))), Fact.is (.int .i64 (q : Int)), default, Fact.is (.pointer (some ⟨w.heap.size, 2, none⟩)), Fact.is (.slice (some ad) n cap), Fact.is (.int .i64 (i : Int)), Fact.is (.pointer (some (ad.add (i * 2)))), Fact.is (.pointer (some ⟨(ad.add (i * 2)).block, (ad.add (i * 2)).off + 1, none⟩)), Fact.is (.int .i64 (l : Int)), default, default]
          [0, 0, 0, 0, 0, 0, 0, 2, 0, 0, 0, 0, 0, 0, 2, 2] [7, 14, 15] [35, 42, 3] [28, 29, 30, 31, 32, 33, 34, 35, 36, 37, 38, 39, 40, 41, 42, 3] (Row2 w1.heap.size 5 1 (6 + i * 6 + 4) (6 + i * 6 + 4 + 2) (cells (X ++ Tb.le 4 q)) (cells ((X ++ Tb.le 4 q) ++ Tb.le 2 l)) wr)
          (by kernel_rfl) (by kernel_rfl) rfl rfl (fun W h => (hbd.trans (h.mono (by simp))).mono HSZ.out) (fun _ _ _ h => h.1) ⟨?s0, ?s1, ?s2, ?s3, ?s4, ?s5, ?s6, ?s8, ?s9, ?s10, ?s11, ?s12, ?s13, trivial⟩ ?late ?fin
        case s0 =>
          refine ⟨rfl, _, rfl, ?_⟩
          intro ρ W hI hc hf hr
          obtain ⟨r3, -⟩ := hr
          have e3 : ρ (.tmp 3) = .slice AV (6 + i * 6) cv := r3
          clear r3
          simp [execOp, e3]
        case s1 =>
          refine ⟨rfl, _, rfl, ?_⟩
          intro ρ W hI hc hf hr
          obtain ⟨r1, -⟩ := hr
          have e1 : ρ (.tmp 1) = .pointer (some ⟨w.heap.size, 0, none⟩) := r1
          clear r1
          exact free_field e1 rfl (fun W => by go_simp)
        case s2 =>
          refine ⟨rfl, _, rfl, ?_⟩
          intro ρ W hI hc hf hr
          obtain ⟨r29, -⟩ := hr
          have e29 : ρ (.tmp 29) = .pointer (some ⟨w.heap.size, 2, none⟩) := r29
          clear r29
          exact free_load e29 (HC2.out W hI) rfl
        case s3 =>
          refine ⟨rfl, _, rfl, ?_⟩
          intro ρ W hI hc hf hr
          obtain ⟨r4, -⟩ := hr
          have e4 : ρ (.tmp 4) = .int .i64 (i : Int) := r4
          clear r4
          simp [execOp, e4]
        case s4 =>
          refine ⟨rfl, _, rfl, ?_⟩
          intro ρ W hI hc hf hr
          obtain ⟨r30, r31, -⟩ := hr
          have e30 : ρ (.tmp 30) = .slice (some ad) n cap := r30
          clear r30
          have e31 : ρ (.tmp 31) = .int .i64 (i : Int) := r31
          clear r31
          exact free_index e30 e31 (HI2.out W) rfl
        case s5 =>
          refine ⟨rfl, _, rfl, ?_⟩
          intro ρ W hI hc hf hr
          obtain ⟨r32, -⟩ := hr
          have e32 : ρ (.tmp 32) = .pointer (some (ad.add (i * 2))) := r32
          clear r32
          exact free_field e32 rfl (fun W => by go_simp)
        case s6 =>
          refine ⟨rfl, _, rfl, ?_⟩
          intro ρ W hI hc hf hr
          obtain ⟨r33, -⟩ := hr
          have e33 : ρ (.tmp 33) = .pointer (some (ad.add (i * 2))) := r33
          clear r33
          exact free_load e33 (HQ.out W hI) rfl
        case s8 =>
          refine ⟨rfl, _, rfl, ?_⟩
          intro ρ W hI hc hf hr
          obtain ⟨r1, -⟩ := hr
          have e1 : ρ (.tmp 1) = .pointer (some ⟨w.heap.size, 0, none⟩) := r1
          clear r1
          exact free_field e1 rfl (fun W => by go_simp)
        case s9 =>
          refine ⟨rfl, _, rfl, ?_⟩
          intro ρ W hI hc hf hr
          obtain ⟨r36, -⟩ := hr
          have e36 : ρ (.tmp 36) = .pointer (some ⟨w.heap.size, 2, none⟩) := r36
          clear r36
          exact free_load e36 (HC2.out W hI) rfl
        case s10 =>
          refine ⟨rfl, _, rfl, ?_⟩
          intro ρ W hI hc hf hr
          obtain ⟨r4, -⟩ := hr
          have e4 : ρ (.tmp 4) = .int .i64 (i : Int) := r4
          clear r4
          simp [execOp, e4]
        case s11 =>
          refine ⟨rfl, _, rfl, ?_⟩
          intro ρ W hI hc hf hr
          obtain ⟨r37, r38, -⟩ := hr
          have e37 : ρ (.tmp 37) = .slice (some ad) n cap := r37
          clear r37
          have e38 : ρ (.tmp 38) = .int .i64 (i : Int) := r38
          clear r38
          exact free_index e37 e38 (HI2.out W) rfl
        case s12 =>
          refine ⟨rfl, _, rfl, ?_⟩
          intro ρ W hI hc hf hr
          obtain ⟨r39, -⟩ := hr
          have e39 : ρ (.tmp 39) = .pointer (some (ad.add (i * 2))) := r39
          clear r39
          exact free_field e39 rfl (fun W => by go_simp)
        case s13 =>
          refine ⟨rfl, _, rfl, ?_⟩
          intro ρ W hI hc hf hr
          obtain ⟨r40, -⟩ := hr
          have e40 : ρ (.tmp 40) = .pointer (some ⟨(ad.add (i * 2)).block, (ad.add (i * 2)).off + 1, none⟩) := r40
          clear r40
          exact free_load e40 (HL.out W hI) rfl
        case late =>
          intro p j o hj ho a W hsz h0 h1 hfr hou
          match p, hj with
          | 0, hj =>
            obtain rfl : 7 = j := Option.some.inj hj
            obtain rfl := Option.some.inj ho
            clear hj ho
            obtain ⟨hb, hhard⟩ := h0 rfl
            have e28 : a.eval (.tmp 28) = .slice AV (6 + i * 6) cv := hfr 28 0 rfl rfl (by kernel_rfl)
            have e34 : a.eval (.tmp 34) = .int .i64 (q : Int) := hfr 34 6 rfl rfl (by kernel_rfl)
            clear h0 h1 hhard hfr hou
            have hW := hbd.trans (hb.mono (by simp))
            refine late9_call3 rfl e28 e34 rfl (by kernel_rfl) (rputn_walk w1.heap.size 4 (6 + i * 6) q (by omega) hq9 _ X W (Nat.le_trans HSZ.out hW.size) (by omega) (row_keep HOW.out hW)) ?_
            rintro e w' ⟨v', rfl, ho, hbel, -⟩
            exact ⟨v', rfl, _, rfl, (hW.mono HSZ.out).trans hbel, fun _ => by simpa [Act.put, Array.getD_eq_getD_getElem?, hsz] using ho, fun h => absurd h (by omega), fun h => absurd h (by omega)⟩
          | 1, hj =>
            obtain rfl : 14 = j := Option.some.inj hj
            obtain rfl := Option.some.inj ho
            clear hj ho
            have hP := h1 (by omega)
            have e41 : a.eval (.tmp 41) = .int .i64 (l : Int) := hfr 41 13 rfl rfl (by kernel_rfl)
            clear h0 h1 hfr hou
            obtain ⟨hb, ho, -, -⟩ := hP
            refine late9_call3 rfl rfl e41 rfl (by kernel_rfl) (rputn_walk w1.heap.size 2 (6 + i * 6 + 4) l (by omega) hl9 _ (X ++ Tb.le 4 q) W (Nat.le_trans HSZ.out hb.size) hL9 (ho rfl)) ?_
            rintro e w' ⟨v', rfl, ho2, hbel, -⟩
            exact ⟨v', rfl, _, rfl, hb.trans hbel, fun h => absurd h (by omega), fun _ => by simpa [Act.put, Array.getD_eq_getD_getElem?, hsz] using ho2, fun h => absurd h (by omega)⟩
          | 2, hj =>
            obtain rfl : 15 = j := Option.some.inj hj
            obtain rfl := Option.some.inj ho
            clear hj ho
            have hP := h1 (by omega)
            clear h0 h1 hfr hou
            obtain ⟨hb, -, ho, -⟩ := hP
            refine late_assign rfl rfl ⟨_, rfl, ?_⟩
            exact ⟨hb, fun h => absurd h (by omega), fun _ => by simpa [Act.put, Array.getD_eq_getD_getElem?, hsz] using ho (by omega), fun _ => by simp [Act.put, Act.eval, Array.getD_eq_getD_getElem?, hsz]⟩
          | q + 3, hj => cases hj
        case fin =>
          intro a w4 ha hP
          obtain ⟨d4, -, ho4, he4⟩ := hP
          have e3 : a.tmps.getD 3 undef = a.tmps.getD 42 undef := by simpa using he4 rfl
          have hr4 : w4.ownsRow w1.heap.size 5 1 (a.tmps.getD 42 undef) (6 + i * 6 + 4 + 2) (cells ((X ++ Tb.le 4 q) ++ Tb.le 2 l)) := ho4 (by decide)
          clear he4 ho4
          obtain ⟨v42, e42⟩ : ∃ v, a.tmps.getD 42 undef = v := ⟨_, rfl⟩
          rw [e42] at e3 hr4
          simp only [List.foldl_cons, List.foldl_nil, e3, e42] at ha
          clear e3 e42
          generalize a.tmps.getD 28 undef = v28 at ha
          generalize a.tmps.getD 29 undef = v29 at ha
          generalize a.tmps.getD 30 undef = v30 at ha
          generalize a.tmps.getD 31 undef = v31 at ha
          generalize a.tmps.getD 32 undef = v32 at ha
          generalize a.tmps.getD 33 undef = v33 at ha
          generalize a.tmps.getD 34 undef = v34 at ha
          generalize a.tmps.getD 35 undef = v35 at ha
          generalize a.tmps.getD 36 undef = v36 at ha
          generalize a.tmps.getD 37 undef = v37 at ha
          generalize a.tmps.getD 38 undef = v38 at ha
          generalize a.tmps.getD 39 undef = v39 at ha
          generalize a.tmps.getD 40 undef = v40 at ha
          generalize a.tmps.getD 41 undef = v41 at ha
          simp only [Act.put, List.setIfInBounds_toArray, List.set_cons_succ, List.set_cons_zero] at ha
          subst ha
          have HO5 := Lib.hid (show w4.ownsRow w1.heap.size 5 1 v42 (6 + (i + 1) * 6) (cells (front gn n on ++ Tb.flatE (xs.take (i + 1)))) by
            rw [HX.out, HBE.out, ← List.append_assoc, show 6 + (i + 1) * 6 = 6 + i * 6 + 4 + 2 by omega]; exact hr4)
          have HB5 := Lib.hid (hbr.trans d4)
          clear hr4 d4
          go_wp2
          go_roundw
          case rel => exact ⟨i + 1, by go_num, HIN.out, HO5.out, HB5.out⟩
          case measure => have := HIN.out; first | omega | (simp [intOf]; omega)
      · obtain rfl : i = n := by omega
        have HTT := Lib.hid (show xs.take i = xs by rw [← HN.out, List.take_length])
        have hlb := HLB.out
        rw [HTT.out] at hlb
        have HLB2 := Lib.hid hlb
        have z0 : wr.cell? ⟨w.heap.size, 0, none⟩ = some (.int .i64 (gn : Int)) := hbx3.cell 0
        have HLN := Lib.hid (show (front gn i on ++ Tb.flatE xs).length = 6 + i * 6 by rw [HFL.out, HN.out])
        have HBR := Lib.hid (HB1.out.trans (hbr.mono HB1.out.size))
        clear hbx3 hlb
        go_wp2_with fail
        refine (rput_walk (gn : Int) 255 AV cv (6 + i * 6) _ wr HLN.out HLB2.out).mono ?_
        rintro e w5 ⟨v5, rfl, ho5, b5⟩
        have HO6 := Lib.hid (show w5.ownsRow w.heap.size 5 1 v5 PT.length (cells PT) by rw [HPC.out]; exact own_mono ho5 HBR.out.size)
        have HB6 := Lib.hid (HBR.out.trans (b5.mono HBR.out.size))
        clear ho5 b5 z0 z2
        go_wp2
        go_ret
        exact ⟨_, rfl, HO6.out, HB6.out⟩

set_option maxHeartbeats 2000000 in
theorem rtput_any (g o : Int) (A : Option Addr) (cap n : Nat) (xs : List Tb.Ext) (w : World) (hn : xs.length = n) (hA : Lies w A (flatX xs)) :
    Calls Tryz.prog 35 #[tabV g o A n cap] w (Made w (Tb.put ⟨g, o, xs⟩)) := by
  by_cases hr : Tb.right ⟨g, o, xs⟩ = true
  · have hR := Tb.right_iff.1 hr
    obtain ⟨gn, rfl⟩ := Int.eq_ofNat_of_zero_le (show 0 ≤ g by have := hR.g1; simp only at this; omega)
    obtain ⟨on, hon⟩ := Int.eq_ofNat_of_zero_le (show 0 ≤ o + 1 by have := hR.open_ge; simp only at this; omega)
    obtain rfl : o = (on : Int) - 1 := by omega
    exact rtput_yes gn on A cap n xs w hn hA hr
  · have hr : Tb.right ⟨g, o, xs⟩ = false := by simpa using hr
    have HP := Lib.hid (Tb.put_no hr)
    have HB0 := Lib.hid ((Below.refl w.heap.size w).alloc (Nat.le_refl _) (.cells #[.int .i64 g, .int .i64 o, .slice A n cap] 31))
    have HRG := Lib.hid (rright9_any g o A cap n xs _ hn (hA.below HB0.out))
    rw [hr] at HRG
    clear hA hr
    go_enter Tryz.func35, Tryz.ntmps35
    go_wp2_with fail
    refine HRG.out.mono ?_
    rintro e w1 ⟨rfl, d1⟩
    go_wp2
    go_ret
    rw [HP.out]
    exact ⟨_, rfl, World.ownsRow_nil _ _ _ 1, HB0.out.trans (d1.mono HB0.out.size)⟩

end Go.Proofs.YtehnhjnkbclnlaaGreatDoor
