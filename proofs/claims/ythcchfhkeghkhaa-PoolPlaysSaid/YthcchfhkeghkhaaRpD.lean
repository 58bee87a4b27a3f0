/-
  Layer 16, the document's answer: add of its pool: what it answers, of any rows of traces and any span. Nothing is assumed but that they lie in memory.
-/
import Derived.Test.YthcchfhkeghkhaaRpC
import Derived.Test.YthcchfhkeghkhaaLwP
import Derived.Test.YthcchfhkeghkhaaSoftT
import Derived.Test.YthcchfhkeghkhaaSoftA
import Derived.Test.YthcchfhkeghkhaaRpO

namespace Go.Proofs.Ythcchfhkeghkhaa
open Go.RowKit Go.Maps Po
set_option maxRecDepth 100000

/-- what one more comes to -/
def RAdd (S : List Nat) (w : World) (most : Int) (G : List Plain.Sp) (x : Plain.Sp) (e : Ending) (w' : World) : Prop :=
  Below w.heap.size w w' ∧ ((code most G x ≠ 0 ∧ e = .returned (.tuple #[.slice none 0 0, .int .i64 (code most G x)])) ∨
    (code most G x = 0 ∧ ∃ A n cap, e = .returned (.tuple #[.slice A n cap, .int .i64 0]) ∧ RowsP S w' A n cap (G ++ [x])))
theorem run_loadI16 (W : World) (a : Addr) (z : Int) (h : W.cell? a = some (.int .i64 z)) : (Instr.loadAt 3 (.pointer (some a))).run Try.prog W = .ok (.int .i64 z) W := by
  go_simp
/-- what the open region keeps of four slots -/
def FourTr (B k n : Nat) (rs : List Tr) (one : Tr) (W : World) (q : Nat) (vs : List Value) (w : World) : Prop :=
  Below B W w ∧ (q = 1 → w.ownsRow B 29 1 (vs.getD 0 undef) (k + 1) (flatT (rs.take k ++ [one]))) ∧ (2 ≤ q → w.ownsRow B 29 1 (vs.getD 1 undef) (n + 1) (flatT (rs.take k ++ [one] ++ rs.drop k))) ∧ (3 ≤ q → vs.getD 2 undef = vs.getD 1 undef) ∧ (q = 4 → vs.getD 3 undef = .int .i64 0)

/-- what the open region keeps of six slots: a row is made longer, Sort answers, its two answers are laid apart -/
def SortP (B n : Nat) (l l' : List Plain.Sp) (W : World) (q : Nat) (vs : List Value) (w : World) : Prop :=
  Below B W w ∧ (q = 1 → w.ownsRow B 45 7 (vs.getD 0 undef) n (flat l)) ∧ (2 ≤ q → ∃ A cap, l'.length ≤ cap ∧ cap ≤ maxLen ∧ Lies w A (flat l') ∧ (∀ ad, A = some ad → B ≤ ad.block) ∧ vs.getD 1 undef = .tuple #[.slice A l'.length cap, .bool true] ∧
    (3 ≤ q → vs.getD 2 undef = .tuple #[.slice A l'.length cap, .bool true]) ∧ (4 ≤ q → vs.getD 3 undef = .slice A l'.length cap) ∧ (5 ≤ q → vs.getD 4 undef = .slice A l'.length cap) ∧ (q = 6 → vs.getD 5 undef = .bool true))
theorem late_call1 {P : Program} {W : World} {a : Act} {o : Oper} {x : Operand} {f : FuncId} {ats : Array TypeId} {vx : Value} {R : Ending → World → Prop} {K : Act → World → Prop} {Q : Exit → Act → World → Prop}
    (ho : o.op = .call { callee := .value (.func f), args := #[x], argTypes := ats }) (hx : a.eval x = vx) (hfn : (P.funcs[f]?).map (fun fn => (fn.name == "runtime.NumGoroutine", fn.body.isNone)) = some (false, false))
    (hc : Calls P f #[vx] W R) (hK : ∀ e w', R e w' → ∃ v, e = .returned v ∧ K (a.put o.dst v) w') : o.wp P a W K Q := by
  unfold Oper.wp
  have key : ∀ ρ : Operand → Value, ρ x = vx → ρ (.func f) = .func (.func f) #[] #[] → (execOp ρ o).run P W = .ok (.enter f #[vx]) W := fun ρ hx hf => by
    simp [execOp, ho, resolve, invoke, hf, hx, Deferred.ofValue, go_sem, enters hfn]
  rw [key a.eval hx rfl]
  exact hc.mono fun e w' hR => by
    obtain ⟨v, rfl, hv⟩ := hK e w' hR
    exact hv
theorem run_ext16 {P : Program} {W : World} {ρ : Operand → Value} {o : Oper} {x : Operand} {u c : Value} (hx : ρ x = .tuple #[u, c]) (ho : o.op = .extract x 0) : (execOp ρ o).run P W = .ok (.value u) W := by
  simp [execOp, ho, hx, go_sem]
theorem run_loadS16 (W : World) (a : Addr) (v : Value) (h : W.cell? a = some v) : (Instr.loadAt 29 (.pointer (some a))).run Try.prog W = .ok v W := by
  go_simp
theorem run_loadB16 {W : World} {g : Nat} {x : Plain.Sp} (h : BoxS W g x) : (Instr.loadAt 45 (.pointer (some ⟨g, 0, none⟩))).run Try.prog W = .ok (.agg #[.int .i64 x.t, .int .i64 x.i, .int .i64 x.p, .int .i64 x.s, .int .i64 x.d, .string (str x.sv), .string (str x.nm)]) W := by
  obtain ⟨c0, c1, c2, c3, c4, c5, c6⟩ := seven16 h
  clear h
  go_simp

set_option maxHeartbeats 16000000 in
theorem radd16_any {S : List Nat} {w : World} {pb : Nat} {most : Int} {u : Value} {A : Option Addr} {n cap : Nat} {G : List Plain.Sp} (hb0 : Blk w pb #[.int .i64 most, u] 58) (hr : RowsP S w A n cap G) (hok : Ok most G) (hS : ∀ s ∈ S, s < w.heap.size) (x : Plain.Sp) (hF : Fine [x]) :
    Calls Try.prog 34 #[.pointer (some ⟨pb, 0, none⟩), .slice A n cap, .agg #[.int .i64 x.t, .int .i64 x.i, .int .i64 x.p, .int .i64 x.s, .int .i64 x.d, .string (str x.sv), .string (str x.nm)]] w (RAdd S w most G x) := by
  have h64 : n ≤ 64 := by rw [hr.len]; exact hok.many
  have hle := hr.le
  have hcm := hr.cap
  unfold maxLen at hcm
  have hbx := Blk.new w #[.int .i64 x.t, .int .i64 x.i, .int .i64 x.p, .int .i64 x.s, .int .i64 x.d, .string (str x.sv), .string (str x.nm)] 45
  have hb1 : Below w.heap.size w (w.alloc (.cells #[.int .i64 x.t, .int .i64 x.i, .int .i64 x.p, .int .i64 x.s, .int .i64 x.d, .string (str x.sv), .string (str x.nm)] 45)) := (Below.refl _ _).alloc (Nat.le_refl _) _
  obtain ⟨W1, hW1⟩ : ∃ W1, w.alloc (.cells #[.int .i64 x.t, .int .i64 x.i, .int .i64 x.p, .int .i64 x.s, .int .i64 x.d, .string (str x.sv), .string (str x.nm)] 45) = W1 := ⟨_, rfl⟩
  rw [hW1] at hbx hb1
  obtain ⟨B0, hB0⟩ : ∃ B0, w.heap.size = B0 := ⟨_, rfl⟩
  rw [hB0] at hbx
  have HB0 := Lib.hid hB0
  have HB1 := Lib.hid hb1
  have HBX := Lib.hid hbx
  have HS := Lib.hid hS
  have HOK := Lib.hid hok
  have HR1 := Lib.hid (hr.below hb1)
  have HN := Lib.hid hr.len
  have HP1 := Lib.hid ((Kept.of hb1 []).blk hb0 (by simp))
  have HX1 := Lib.hid (fun (W : World) (hW : Below W1.heap.size W1 W) => (show BoxS W B0 x from (Kept.of hW []).blk HBX.out (by simp)))
  have HF := Lib.hid hF
  obtain ⟨hv1, hn1⟩ := hF x (by simp)
  have HRI := Lib.hid (fun (W : World) => rright_any x.t x.i x.p x.s x.d (str x.sv) (str x.nm) W x.right (by rw [str_size]; exact hv1) (by rw [str_size]; exact hn1) (by unfold Plain.Sp.right; rw [str_size, str_size]))
  have HW1 := Lib.hid hW1
  obtain ⟨y0, y1, y2, y3, y4, y5, y6⟩ := seven16 hbx
  clear hbx hb1 hW1 hb0 hr hok hS hF hv1 hn1 hB0
  go_enter Try.func34, Try.ntmps34
  go_wp2_with fail
  rw [HW1.out, HB0.out]
  refine (HRI.out W1).mono ?_
  rintro e w2 ⟨rfl, d2⟩
  have HB2 := Lib.hid d2
  have HW2 := Lib.hid (HB1.out.trans (d2.mono HB1.out.size))
  obtain ⟨z0, z1, z2, z3, z4, z5, z6⟩ := seven16 (HX1.out w2 d2)
  clear d2 HRI HW1 y0 y1 y2 y3 y4 y5 y6
  obtain ⟨ri, hri⟩ : ∃ ri, x.right = ri := ⟨_, rfl⟩
  rw [hri]
  have HRT := Lib.hid hri
  clear hri
  rcases ri with _ | _
  · have HCD := Lib.hid (code_wrong (most := most) (G := G) HRT.out)
    go_wp2
    go_returns
    exact ⟨HW2.out, .inl ⟨by rw [HCD.out]; decide, by rw [HCD.out]; rfl⟩⟩
  · have HR2 := Lib.hid (HR1.out.below HB2.out)
    go_wp2_with fail
    refine (rat16_any HR2.out h64 x.t).mono ?_
    rintro e w3 ⟨v, rfl, hat, rfl⟩
    rcases hat with ⟨rfl, hg⟩ | ⟨k, hk, rfl, hmk⟩
    · have HNO := Lib.hid hg
      have HOF := Lib.hid (of_nil.2 hg)
      clear hg
      have HUN := Lib.hid (show ∀ y ∈ G, ¬ (y.t = x.t ∧ y.i = x.i) from fun y hy e => HNO.out ((ids_mem G x.t).2 ⟨y, hy, e.1⟩))
      by_cases h6 : 64 ≤ n
      · have t6 : decide ((64 : Int) ≤ (n : Int)) = true := decide_eq_true (by omega)
        have HCD := Lib.hid (code_many (most := most) HRT.out HUN.out (.inr ⟨HOF.out, by rw [← HN.out]; exact h6⟩))
        go_wp2
        go_returns
        exact ⟨HW2.out, .inl ⟨by rw [HCD.out]; decide, by rw [HCD.out]; rfl⟩⟩
      · have t6 : decide ((64 : Int) ≤ (n : Int)) = false := decide_eq_false (by omega)
        have HPX := Lib.hid (show Po.part (G ++ [x]) x.t = [x] by
          unfold Po.part
          rw [of_snoc, if_pos rfl, HOF.out]
          simp [Plain.srt])
        obtain ⟨ct, hct⟩ : ∃ ct : Int, (Rc.cost [x] : Int) = ct := ⟨_, rfl⟩
        have HCT := Lib.hid hct
        obtain ⟨bg, hbg⟩ : ∃ bg, decide (most < ct) = bg := ⟨_, rfl⟩
        have HBG := Lib.hid hbg
        obtain ⟨wn, hwn⟩ : ∃ wn, w3.alloc (.cells #[.int .i64 x.t, .int .i64 x.i, .int .i64 x.p, .int .i64 x.s, .int .i64 x.d, .string (str x.sv), .string (str x.nm)] 45) = wn := ⟨_, rfl⟩
        have hbn : Below w3.heap.size w3 wn := by rw [← hwn]; exact (Below.refl _ _).alloc (Nat.le_refl _) _
        have HLN := Lib.hid (show Lies wn (some ⟨w3.heap.size, 0, none⟩) (flat [x]) by rw [← hwn]; exact Lies.new w3 _ _)
        have HBN := Lib.hid hbn
        have HWN := Lib.hid hwn
        have HWWN := Lib.hid (HW2.out.trans (hbn.mono HW2.out.size))
        have HCO := Lib.hid (fun (W : World) (hW : Below wn.heap.size wn W) => show Calls Try.prog 26 #[.slice (some ⟨w3.heap.size, 0, none⟩) 1 1] W (fun e w' => e = .returned (.int .i64 ct) ∧ Below W.heap.size W w') by
          have := rcost13_any (some ⟨w3.heap.size, 0, none⟩) 1 1 [x] W rfl (HLN.out.below hW) HF.out
          rwa [hct] at this)
        have HMO := Lib.hid (fun (W : World) (hW : Below wn.heap.size wn W) => show W.cell? ⟨pb, 0, none⟩ = some (.int .i64 most) from (((Kept.of ((HB2.out.trans (hbn.mono HB2.out.size)).trans (hW.mono (Nat.le_trans HB2.out.size hbn.size))) []).blk HP1.out (by simp)).cell 0))
        have hbd : Below wn.heap.size wn wn.drew := (Below.refl _ _).drew
        clear hct hwn hbn
        go_upto_region 8 with (fail)
        rw [HWN.out]
        refine wp_softS (by kernel_rfl) 120 [(29, [9]), (30, [29]), (31, [0]), (32, [31]), (33, [32]), (34, [33]), (35, [30, 34])]
          [Fact.is (.slice (some ⟨w3.heap.size, 0, none⟩) 1 1), Fact.is (.int .i64 ct), Fact.is (.pointer (some ⟨pb, 0, none⟩)), Fact.is (.pointer (some ⟨pb, 0, none⟩)), Fact.is (.pointer (some ⟨pb, 0, none⟩)), Fact.is (.int .i64 most), Fact.is (.bool bg)]
          (by kernel_rfl) rfl rfl ⟨?s0, ?s1, ?s2, ?s3, ?s4, ?s5, ?s6, trivial⟩ ?fin
        case s0 =>
          intro ρ W hb hc hf hr
          obtain ⟨r9, -⟩ := hr
          have e9 : ρ (.tmp 9) = .slice (some ⟨w3.heap.size, 0, none⟩) 1 1 := r9
          clear r9
          refine under_none rfl ?_
          exact ⟨e9, Below.refl _ _⟩
        case s1 =>
          intro ρ W hb hc hf hr
          obtain ⟨r29, -⟩ := hr
          have e29 : ρ (.tmp 29) = .slice (some ⟨w3.heap.size, 0, none⟩) 1 1 := r29
          clear r29
          refine under_none rfl ?_
          exact soft_call1 hf e29 (HCO.out W (hbd.trans (hb.mono (by simp)))) rfl (by kernel_rfl) below_is
        case s2 =>
          intro ρ W hb hc hf hr
          obtain ⟨r0, -⟩ := hr
          have e0 : ρ (.tmp 0) = .pointer (some ⟨pb, 0, none⟩) := r0
          clear r0
          refine under_none rfl ?_
          exact ⟨e0, Below.refl _ _⟩
        case s3 =>
          intro ρ W hb hc hf hr
          obtain ⟨r31, -⟩ := hr
          have e31 : ρ (.tmp 31) = .pointer (some ⟨pb, 0, none⟩) := r31
          clear r31
          refine under_none rfl ?_
          simp [execOp, e31, go_sem, softUpon, Fact.is, Below.refl]
        case s4 =>
          intro ρ W hb hc hf hr
          obtain ⟨r32, -⟩ := hr
          have e32 : ρ (.tmp 32) = .pointer (some ⟨pb, 0, none⟩) := r32
          clear r32
          refine under_none rfl ?_
          exact soft_field e32 rfl (fun W => by go_simp)
        case s5 =>
          intro ρ W hb hc hf hr
          obtain ⟨r33, -⟩ := hr
          have e33 : ρ (.tmp 33) = .pointer (some ⟨pb, 0, none⟩) := r33
          clear r33
          refine under_none rfl ?_
          exact soft_load e33 (run_loadI16 W _ _ (HMO.out W (hbd.trans (hb.mono (by simp))))) rfl
        case s6 =>
          intro ρ W hb hc hf hr
          obtain ⟨r30, r34, -⟩ := hr
          have e30 : ρ (.tmp 30) = .int .i64 ct := r30
          clear r30
          have e34 : ρ (.tmp 34) = .int .i64 most := r34
          clear r34
          refine under_none rfl ?_
          exact soft_bin e30 e34 rfl rfl (gtr_int W ct most bg hbg)
        case fin =>
          intro a w1 hb hd hsz hk
          have ea := act_puts hd hsz rfl hk
          have k29 : a.tmps.getD 29 undef = .slice (some ⟨w3.heap.size, 0, none⟩) 1 1 := hk 29
          have k30 : a.tmps.getD 30 undef = .int .i64 ct := hk 30
          have k31 : a.tmps.getD 31 undef = .pointer (some ⟨pb, 0, none⟩) := hk 31
          have k32 : a.tmps.getD 32 undef = .pointer (some ⟨pb, 0, none⟩) := hk 32
          have k33 : a.tmps.getD 33 undef = .pointer (some ⟨pb, 0, none⟩) := hk 33
          have k34 : a.tmps.getD 34 undef = .int .i64 most := hk 34
          have k35 : a.tmps.getD 35 undef = .bool bg := hk 35
          clear hk hd hsz
          simp only [List.map_cons, List.map_nil, List.foldl_cons, List.foldl_nil, k29, k30, k31, k32, k33, k34, k35] at ea
          clear k29 k30 k31 k32 k33 k34 k35
          simp only [Act.put, List.setIfInBounds_toArray, List.set_cons_succ, List.set_cons_zero] at ea
          subst ea
          have dV := hbd.trans (hb.mono (by simp))
          have HV := Lib.hid dV
          have HWV := Lib.hid (HWWN.out.trans (dV.mono HWWN.out.size))
          clear hb dV hbd
          rcases bg with _ | _
          rotate_left
          · have HCD := Lib.hid (code_big (most := most) HRT.out HUN.out (by rw [HOF.out]; simp) (fun _ => by rw [← HN.out]; omega) (by rw [HPX.out, HCT.out]; exact of_decide_eq_true HBG.out))
            go_wp2
            go_returns
            exact ⟨HWV.out, .inl ⟨by rw [HCD.out]; decide, by rw [HCD.out]; rfl⟩⟩
          · have HC0 := Lib.hid (show code most G x = 0 from code_zero.2 ⟨HRT.out, HUN.out, by rw [HOF.out]; simp, fun _ => by rw [← HN.out]; omega, by rw [HPX.out, HCT.out]; have := of_decide_eq_false HBG.out; omega⟩)
            have HRV := Lib.hid (HR2.out.below (HBN.out.trans (HV.out.mono HBN.out.size)))
            have HLV := Lib.hid (HLN.out.below HV.out)
            have HXV := Lib.hid (fun (W : World) (hW : Below w1.heap.size w1 W) => HX1.out W (HB2.out.trans ((HBN.out.trans (HV.out.mono HBN.out.size)).mono HB2.out.size |>.trans (hW.mono (Nat.le_trans HB2.out.size (Nat.le_trans HBN.out.size HV.out.size))))))
            clear HR2 HLN HCO HMO HV HBN HWN HB2 HX1 z0 z1 z2 z3 z4 z5 z6
            go_wp2
            go_loopw [10] (fun s wr => ∃ k : Nat, s = .int .i64 (k : Int) ∧ k ≤ n ∧ Below w1.heap.size w1 wr ∧ ∀ (i : Nat) (hi : i < (ids G).length), i < k → (ids G)[i] < x.t) (fun s _ => n - (intOf s).toNat)
            case atStart => exact ⟨0, rfl, Nat.zero_le _, Below.refl _ _, fun i _ h => by omega⟩
            case round =>
              obtain ⟨k, rfl, hk, hbr, hlt⟩ := hrel
              have HBR := Lib.hid hbr
              have HLT := Lib.hid hlt
              obtain ⟨y0, -⟩ := seven16 (HXV.out wr hbr)
              clear hlt hbr
              obtain ⟨L, hL⟩ : ∃ L : Bool, L = (if h : k < (ids G).length then decide ((ids G)[k] < x.t) else false) := ⟨_, rfl⟩
              have HLL := Lib.hid hL
              clear hL
              go_upto_region 11 with (fail)
              go_cut [51] from 36 to 53 (fun s wc => s = .bool L ∧ Below wr.heap.size wr wc)
              case first =>
                by_cases hkn : k < n
                · obtain ⟨ad, r, hii, rfl, hadb, hrr, hin, hc⟩ := HRV.out.at_ hkn
                  have c0 := hc wr HBR.out
                  obtain ⟨ad2, m, e1, e2, e3, e4⟩ := hin.first hrr (List.getElem_mem hii)
                  have d0 := e4 wr HBR.out
                  have hcr := hin.cap
                  have hle2 := hin.le
                  have hf2 := hin.few
                  rw [e1, e2] at c0
                  rw [e2] at hle2 hf2
                  unfold maxLen at hcr
                  obtain ⟨rc, hrc⟩ : ∃ rc, r.cap = rc := ⟨_, rfl⟩
                  rw [hrc] at c0 hcr hle2
                  have hLv : L = decide ((ids G)[k]'hii < x.t) := by rw [HLL.out, dif_pos hii]
                  obtain ⟨i, hi⟩ : ∃ i, (ids G)[k]'hii = i := ⟨_, rfl⟩
                  rw [hi] at d0 hLv
                  have hkn' : decide ((k : Int) < (n : Int)) = true := decide_eq_true (by omega)
                  have hix := fun (W : World) => show (Instr.indexAt 56 (.slice (some ad) n cap) (.int .i64 (k : Int))).run Try.prog W = .ok (.pointer (some (ad.add k))) W by go_simp
                  clear hc hrr hin e1 e2 e4 hrc hii hi
                  have tq : decide (i < x.t) = L := hLv.symm
                  clear hLv
                  go_quiet (fail)
                  go_wp2_with fail
                  go_meet
                  exact ⟨rfl, below_many (Below.refl _ _) _⟩
                · have hkn' : decide ((k : Int) < (n : Int)) = false := decide_eq_false (by omega)
                  obtain rfl : L = false := by rw [HLL.out, dif_neg (by rw [← HN.out]; exact hkn)]
                  go_quiet (fail)
                  go_wp2_with fail
                  go_meet
                  exact ⟨rfl, below_many (Below.refl _ _) _⟩
              case rest =>
                obtain ⟨rfl, hbc⟩ := hcut
                have HBC := Lib.hid (HBR.out.trans (hbc.mono HBR.out.size))
                clear hbc y0
                cases L with
                | true =>
                  have hkn : k < n := by
                    by_cases h : k < (ids G).length
                    · rw [HN.out]; exact h
                    · have := HLL.out; rw [dif_neg h] at this; cases this
                  go_wp2
                  go_roundw
                  case rel =>
                    refine ⟨k + 1, by go_num, by omega, HBC.out, fun i hi' hlt' => ?_⟩
                    by_cases e : i < k
                    · exact HLT.out i hi' e
                    · obtain rfl : i = k := by omega
                      have := HLL.out
                      rw [dif_pos hi'] at this
                      exact of_decide_eq_true this.symm
                  case measure => simp [intOf]; omega
                | false =>
                  have HRN := Lib.hid (rows_new HNO.out (j := k) (by rw [← HN.out]; exact hk) HLT.out (fun h => by
                    have := HLL.out
                    rw [dif_pos h] at this
                    have := of_decide_eq_false this.symm
                    omega))
                  have HRC := Lib.hid (HRV.out.below HBC.out)
                  obtain ⟨-, -, rs, hrl, hrm, hl, -, hrok⟩ := HRC.out
                  have HRL := Lib.hid hrl
                  have HRM := Lib.hid hrm
                  have HL := Lib.hid hl
                  have HRK := Lib.hid hrok
                  have hAr : A = none → n = 0 := by rw [← hrl]; exact lies_noneTr hl
                  have h1 := hle
                  have h2 := hcm
                  clear hrl hrm hl hrok
                  obtain ⟨one, hone⟩ : ∃ one : Tr, one = ⟨[x], some ⟨w3.heap.size, 0, none⟩, 1⟩ := ⟨_, rfl⟩
                  have HONE := Lib.hid hone
                  clear hone
                  have hbd : Below wc.heap.size wc wc.drew := (Below.refl _ _).drew
                  have HWC := Lib.hid (HWV.out.trans (HBC.out.mono HWV.out.size))
                  have HLC := Lib.hid (HLV.out.below HBC.out)
                  go_wp2
                  refine wp_late (by kernel_rfl) 120 [(54, []), (55, [1]), (56, [10]), (57, [55, 56]), (58, [54, 57]), (59, [9]), (60, [59]), (1007, [58, 60]), (62, [1]), (63, [10]), (64, [62, 63]), (1011, [61, 64]), (1012, [65]), (1013, [])]
                    [Fact.fresh wc.heap.size 29, Fact.is (.slice A n cap), Fact.is (.int .i64 (k : Int)), Fact.lie k (flatT (rs.take k)), Fact.row wc.heap.size 29 1 k (flatT (rs.take k)), Fact.is (.slice (some ⟨w3.heap.size, 0, none⟩) 1 1), Fact.lie 1 (flatT [one]), default, Fact.is (.slice A n cap), Fact.is (.int .i64 (k : Int)), Fact.is (.slice (if cap = k then A else A.map (·.add k)) (n - k) (cap - k)), default, default, default]
                    [1, 1, 1, 1, 1, 1, 1, 2, 0, 0, 0, 2, 2, 2] [7, 11, 12, 13] [61, 65, 6, 7] [54, 55, 56, 57, 58, 59, 60, 61, 62, 63, 64, 65, 6, 7] (FourTr wc.heap.size k n rs one wc)
                    (by kernel_rfl) (by kernel_rfl) rfl rfl ⟨?s0, ?s1, ?s2, ?s3, ?s4, ?s5, ?s6, ?s8, ?s9, ?s10, trivial⟩ ?late ?fin
                  case s0 =>
                    intro ρ W hb hc hf hr
                    clear hr
                    refine under_none rfl ?_
                    exact soft_freshTr (hbd.trans (hb.mono (by simp))).size rfl
                  case s1 =>
                    intro ρ W hb hc hf hr
                    obtain ⟨r1, -⟩ := hr
                    have e1 : ρ (.tmp 1) = .slice A n cap := r1
                    clear r1
                    refine under_none rfl ?_
                    exact ⟨e1, Below.refl _ _⟩
                  case s2 =>
                    intro ρ W hb hc hf hr
                    obtain ⟨r10, -⟩ := hr
                    have e10 : ρ (.tmp 10) = .int .i64 (k : Int) := r10
                    clear r10
                    refine under_none rfl ?_
                    exact ⟨e10, Below.refl _ _⟩
                  case s3 =>
                    intro ρ W hb hc hf hr
                    obtain ⟨r55, r56, -⟩ := hr
                    have e55 : ρ (.tmp 55) = .slice A n cap := r55
                    clear r55
                    have e56 : ρ (.tmp 56) = .int .i64 (k : Int) := r56
                    clear r56
                    refine under_none rfl ?_
                    exact soft_takeTr e55 e56 HRL.out hk h1 h2 (HL.out.below (hbd.trans (hb.mono (by simp)))) rfl
                  case s4 =>
                    intro ρ W hb hc hf hr
                    obtain ⟨r54, r57, -⟩ := hr
                    refine under_none rfl ?_
                    exact soft_app0Tr r54 r57 (by rw [List.length_take, HRL.out]; omega) (by omega) rfl
                  case s5 =>
                    intro ρ W hb hc hf hr
                    obtain ⟨r9, -⟩ := hr
                    have e9 : ρ (.tmp 9) = .slice (some ⟨w3.heap.size, 0, none⟩) 1 1 := r9
                    clear r9
                    refine under_none rfl ?_
                    exact ⟨e9, Below.refl _ _⟩
                  case s6 =>
                    intro ρ W hb hc hf hr
                    obtain ⟨r59, -⟩ := hr
                    have e59 : ρ (.tmp 59) = .slice (some ⟨w3.heap.size, 0, none⟩) 1 1 := r59
                    clear r59
                    refine under_none rfl ?_
                    exact soft_oneTr (s := one) (by rw [HONE.out]; exact e59) rfl
                  case s8 =>
                    refine ⟨rfl, _, rfl, ?_⟩
                    intro ρ W hc hf hr
                    obtain ⟨r1, -⟩ := hr
                    have e1 : ρ (.tmp 1) = .slice A n cap := r1
                    clear r1
                    simp [execOp, e1]
                  case s9 =>
                    refine ⟨rfl, _, rfl, ?_⟩
                    intro ρ W hc hf hr
                    obtain ⟨r10, -⟩ := hr
                    have e10 : ρ (.tmp 10) = .int .i64 (k : Int) := r10
                    clear r10
                    simp [execOp, e10]
                  case s10 =>
                    refine ⟨rfl, _, rfl, ?_⟩
                    intro ρ W hc hf hr
                    obtain ⟨r62, r63, -⟩ := hr
                    have e62 : ρ (.tmp 62) = .slice A n cap := r62
                    clear r62
                    have e63 : ρ (.tmp 63) = .int .i64 (k : Int) := r63
                    clear r63
                    exact run_dropTLr e62 e63 hk h1 h2 hAr rfl
                  case late =>
                    intro p j o hj ho a W hsz h0 h1 hfr hou
                    match p, hj with
                    | 0, hj =>
                      obtain rfl : 7 = j := Option.some.inj hj
                      obtain rfl := Option.some.inj ho
                      clear hj ho
                      obtain ⟨hb, hhard⟩ := h0 rfl
                      have r58 : (Fact.row wc.heap.size 29 1 k (flatT (rs.take k))).φ (a.tmps.getD 58 undef) W := hhard 58 4 rfl rfl
                      have r60 : (Fact.lie 1 (flatT [one])).φ (a.tmps.getD 60 undef) W := hhard 60 6 rfl rfl
                      clear h0 h1 hhard hfr hou
                      refine late_appTr (s := .tmp 58) (x := .tmp 60) (n := k) (m := 1) (l := rs.take k) (k := [one]) r58 r60 rfl (by omega) (hbd.trans (hb.mono (by simp))).size rfl fun v w' ho hbb => ⟨v, rfl, ?_⟩
                      exact ⟨hbb _ (hbd.trans (hb.mono (by simp))), fun _ => by simpa [Act.put, Array.getD_eq_getD_getElem?, hsz] using ho, fun h => absurd h (by omega), fun h => absurd h (by omega), fun h => absurd h (by omega)⟩
                    | 1, hj =>
                      obtain rfl : 11 = j := Option.some.inj hj
                      obtain rfl := Option.some.inj ho
                      clear hj ho
                      have hP := h1 (by omega)
                      have e64 : a.eval (.tmp 64) = .slice (if cap = k then A else A.map (·.add k)) (n - k) (cap - k) := hfr 64 10 rfl rfl (by kernel_rfl)
                      clear h0 h1 hfr hou
                      obtain ⟨hb, ho, -, -, -⟩ := hP
                      refine late_appTr (s := .tmp 61) (x := .tmp 64) (n := k + 1) (m := n - k) (l := rs.take k ++ [one]) (k := rs.drop k) (ho rfl) ⟨_, _, e64, drop_liesTr HRL.out h1 (HL.out.below hb)⟩ (by rw [List.length_drop, HRL.out]) (by omega) hb.size rfl fun v w' ho2 hbb => ⟨v, rfl, ?_⟩
                      have ejk : k + 1 + (n - k) = n + 1 := by omega
                      rw [ejk] at ho2
                      exact ⟨hbb _ hb, fun h => absurd h (by omega), fun _ => by simpa [Act.put, Array.getD_eq_getD_getElem?, hsz] using ho2, fun h => absurd h (by omega), fun h => absurd h (by omega)⟩
                    | 2, hj =>
                      obtain rfl : 12 = j := Option.some.inj hj
                      obtain rfl := Option.some.inj ho
                      clear hj ho
                      have hP := h1 (by omega)
                      clear h0 h1 hfr hou
                      obtain ⟨hb, -, ho, -, -⟩ := hP
                      refine late_assign rfl rfl ⟨_, rfl, ?_⟩
                      exact ⟨hb, fun h => absurd h (by omega), fun _ => by simpa [Act.put, Array.getD_eq_getD_getElem?, hsz] using ho (by omega), fun _ => by simp [Act.put, Act.eval, Array.getD_eq_getD_getElem?, hsz], fun h => absurd h (by omega)⟩
                    | 3, hj =>
                      obtain rfl : 13 = j := Option.some.inj hj
                      obtain rfl := Option.some.inj ho
                      clear hj ho
                      have hP := h1 (by omega)
                      clear h0 h1 hfr hou
                      obtain ⟨hb, -, ho, h6, -⟩ := hP
                      refine late_assign rfl rfl ⟨_, rfl, ?_⟩
                      exact ⟨hb, fun h => absurd h (by omega), fun _ => by simpa [Act.put, Array.getD_eq_getD_getElem?, hsz] using ho (by omega), fun _ => by simpa [Act.put, Array.getD_eq_getD_getElem?, hsz] using h6 (by omega), fun _ => by simp [Act.put, Act.eval, Array.getD_eq_getD_getElem?, hsz]⟩
                    | q + 4, hj => cases hj
                  case fin =>
                    intro a w5 ha hP
                    obtain ⟨d5, -, ho5, he6, he7⟩ := hP
                    have e7 : a.tmps.getD 7 undef = .int .i64 0 := by simpa using he7 rfl
                    have e6 : a.tmps.getD 6 undef = a.tmps.getD 65 undef := by simpa using he6 (by decide)
                    have hr5 : w5.ownsRow wc.heap.size 29 1 (a.tmps.getD 65 undef) (n + 1) (flatT (rs.take k ++ [one] ++ rs.drop k)) := ho5 (by decide)
                    clear he6 he7 ho5
                    obtain ⟨v65, e65⟩ : ∃ v, a.tmps.getD 65 undef = v := ⟨_, rfl⟩
                    rw [e65] at e6 hr5
                    simp only [List.foldl_cons, List.foldl_nil, e6, e7, e65] at ha
                    clear e6 e7 e65
                    generalize a.tmps.getD 54 undef = v54 at ha
                    generalize a.tmps.getD 55 undef = v55 at ha
                    generalize a.tmps.getD 56 undef = v56 at ha
                    generalize a.tmps.getD 57 undef = v57 at ha
                    generalize a.tmps.getD 58 undef = v58 at ha
                    generalize a.tmps.getD 59 undef = v59 at ha
                    generalize a.tmps.getD 60 undef = v60 at ha
                    generalize a.tmps.getD 61 undef = v61 at ha
                    generalize a.tmps.getD 62 undef = v62 at ha
                    generalize a.tmps.getD 63 undef = v63 at ha
                    generalize a.tmps.getD 64 undef = v64 at ha
                    simp only [Act.put, List.setIfInBounds_toArray, List.set_cons_succ, List.set_cons_zero] at ha
                    subst ha
                    have h5 := HWC.out.trans (d5.mono HWC.out.size)
                    have hR5 := HRC.out.below d5
                    have hL5 := HLC.out.below d5
                    obtain ⟨A5, cap5, rfl, hrp⟩ := rows_made (S := S) (G := G ++ [x]) hr5 (fun s hs => by have := HS.out s hs; have := HWC.out.size; omega) (by rw [HRN.out, List.map_append, List.map_append, List.map_take, List.map_drop, HRM.out, HONE.out]; rfl) (by simp [HRL.out]; omega) (fun r hr => by
                      rcases List.mem_append.1 hr with h | h
                      · rcases List.mem_append.1 h with h | h
                        · exact (HRK.out r (List.mem_of_mem_take h)).below d5
                        · rw [List.mem_singleton.1 h, HONE.out]
                          refine ⟨by simp, by unfold maxLen; simp, by simp, hL5, .inr fun ad e hm => ?_⟩
                          injection e with e
                          have := HS.out _ hm
                          have hw2 := HW2.out.size
                          rw [← e] at this
                          simp only at this
                          omega
                      · exact (HRK.out r (List.mem_of_mem_drop h)).below d5)
                    have HF5 := Lib.hid hrp
                    have HW5 := Lib.hid h5
                    clear hrp hr5 hR5 hL5 h5 d5
                    go_wp2
                    go_returns
                    exact ⟨HW5.out, .inr ⟨HC0.out, _, _, _, rfl, HF5.out⟩⟩
    · have hkn : k < n := by rw [HN.out]; exact hk
      obtain ⟨ad, r, hii, rfl, hadb, hr, hin, hc⟩ := HR2.out.at_ hkn
      rw [hmk] at hr
      have HHK := Lib.hid (show x.t ∈ ids G by rw [← hmk]; exact List.getElem_mem hk)
      have HKM := Lib.hid (show ∃ hk : k < (ids G).length, (ids G)[k] = x.t from ⟨hk, hmk⟩)
      have hle2 := hin.le
      have hf2 := hin.few
      have hcr := hin.cap
      unfold maxLen at hcr
      obtain ⟨m, hm⟩ : ∃ m, r.ts.length = m := ⟨_, rfl⟩
      obtain ⟨rA, hrA⟩ : ∃ rA, r.A = rA := ⟨_, rfl⟩
      obtain ⟨rc, hrc⟩ : ∃ rc, r.cap = rc := ⟨_, rfl⟩
      rw [hm, hrc] at hle2
      rw [hm] at hf2
      rw [hrc] at hcr
      have HCK := Lib.hid (fun (W : World) (hW : Below w3.heap.size w3 W) => show W.cell? (ad.add k) = some (.slice rA m rc) by rw [hc W hW, hm, hrA, hrc])
      have HLK := Lib.hid (show Lies w3 rA (flat r.ts) by rw [← hrA]; exact hin.lies)
      have HM := Lib.hid hm
      have HRS := Lib.hid hr
      have HIX := Lib.hid (fun (W : World) => show (Instr.indexAt 56 (.slice (some ad) n cap) (.int .i64 (k : Int))).run Try.prog W = .ok (.pointer (some (ad.add k))) W by go_simp)
      have HX3 := Lib.hid (fun (W : World) (hW : Below w3.heap.size w3 W) => HX1.out W (HB2.out.trans (hW.mono HB2.out.size)))
      have hlt0 : decide ((k : Int) < 0) = false := by simp
      clear hmk hii hr hin hc hm hrA hrc hk HX1 z0 z1 z2 z3 z4 z5 z6
      go_wp2
      go_loopw [11] (fun s wr => ∃ j : Nat, s = .int .i64 (j : Int) ∧ j ≤ m ∧ Below w3.heap.size w3 wr ∧ ∀ (q : Nat) (hq : q < r.ts.length), q < j → r.ts[q].i ≠ x.i) (fun s _ => m - (intOf s).toNat)
      case atStart => exact ⟨0, rfl, Nat.zero_le _, Below.refl _ _, fun q _ h => by omega⟩
      case round =>
        obtain ⟨j, rfl, hj, hbr, hno⟩ := hrel
        have HBR := Lib.hid hbr
        have HNO := Lib.hid hno
        have c0 := HCK.out wr hbr
        clear hno
        by_cases hlt : j < m
        · have hjl : j < r.ts.length := by rw [HM.out]; exact hlt
          obtain ⟨rd, rfl, hrdb, hsp⟩ := at_span HLK.out j hjl
          obtain ⟨d0, d1, -⟩ := hsp wr hbr
          obtain ⟨y0, y1, -⟩ := seven16 (HX3.out wr hbr)
          have hix := HIX.out
          have hiy := fun (W : World) => show (Instr.indexAt 29 (.slice (some rd) m rc) (.int .i64 (j : Int))).run Try.prog W = .ok (.pointer (some (rd.add (j * 7)))) W by go_simp
          obtain ⟨q, hq⟩ : ∃ q, r.ts[j].i = q := ⟨_, rfl⟩
          rw [hq] at d1
          have HQ := Lib.hid hq
          clear hq hsp d0 hbr y0
          by_cases he : q = x.i
          · have hb : (q == x.i) = true := by simpa using he
            have HE := Lib.hid he
            have HCD := Lib.hid (code_there (most := most) (G := G) HRT.out ⟨r.ts[j], (part_mem.1 (by rw [← HRS.out]; exact List.getElem_mem hjl)).1, (part_mem.1 (by rw [← HRS.out]; exact List.getElem_mem hjl)).2, HQ.out.trans he⟩)
            clear he
            go_upto_region 17 with (fail)
            go_quiet (fail)
            go_wp2_with fail
            go_returns
            exact ⟨below_many (HW2.out.trans (HBR.out.mono HW2.out.size)) _, .inl ⟨by rw [HCD.out]; decide, by rw [HCD.out]; rfl⟩⟩
          · have hb : (q == x.i) = false := by simpa using he
            have HE := Lib.hid he
            clear he
            go_upto_region 17 with (fail)
            go_quiet (fail)
            go_wp2_with fail
            go_roundw
            case rel =>
              refine ⟨j + 1, by go_num, by omega, below_many HBR.out _, fun q' hq' hlt' => ?_⟩
              by_cases e : q' < j
              · exact HNO.out q' hq' e
              · obtain rfl : q' = j := by omega
                rw [HQ.out]; exact HE.out
            case measure => simp [intOf]; omega
        · obtain rfl : m = j := by omega
          have HUN := Lib.hid (show ∀ y ∈ G, ¬ (y.t = x.t ∧ y.i = x.i) from fun y hy ⟨e1, e2⟩ => by
            have hp : y ∈ r.ts := by rw [HRS.out]; exact part_mem.2 ⟨hy, e1⟩
            obtain ⟨q, hq, rfl⟩ := List.getElem_of_mem hp
            exact HNO.out q hq (by rw [← HM.out]; exact hq) e2)
          have HLO := Lib.hid (show (Po.of G x.t).length = m by rw [← part_len, ← HRS.out, HM.out])
          have hwr := HW2.out.trans (hbr.mono HW2.out.size)
          have HWR := Lib.hid hwr
          clear hwr
          by_cases h6 : 64 ≤ m
          · have t6 : decide ((64 : Int) ≤ (m : Int)) = true := decide_eq_true (by omega)
            have HCD := Lib.hid (code_many (most := most) HRT.out HUN.out (.inl (by rw [HLO.out]; exact h6)))
            go_wp2
            go_returns
            exact ⟨HWR.out, .inl ⟨by rw [HCD.out]; decide, by rw [HCD.out]; rfl⟩⟩
          · have t6 : decide ((64 : Int) ≤ (m : Int)) = false := decide_eq_false (by omega)
            have hpt := part_ts HOK.out HRT.out HUN.out (by rw [HLO.out]; omega)
            rw [← HRS.out] at hpt
            obtain ⟨hp1, hp2, hp3⟩ := hpt
            have HFN := Lib.hid (show Fine (r.ts ++ [x]) from fun y hy => by
              rcases List.mem_append.1 hy with h | h
              · exact fine_right HOK.out.right y (part_mem.1 (by rw [← HRS.out]; exact h)).1
              · exact HF.out y h)
            have HSO := Lib.hid (fun (A : Option Addr) (c : Nat) (W : World) (hA : Lies W A (flat (r.ts ++ [x]))) => show Calls Try.prog 46 #[.slice A (m + 1) c] W (fun e w' => ∃ v, e = .returned (.tuple #[v, .bool true]) ∧ GivesO W w' (Po.part (G ++ [x]) x.t) v) by
              have := rtsort_own A (m + 1) c (r.ts ++ [x]) W (by rw [List.length_append, HM.out]; rfl) hA HFN.out
              rwa [hp1, hp2] at this)
            clear hp1 hp2 hp3
            have hbd : Below wr.heap.size wr wr.drew := (Below.refl _ _).drew
            go_wp2
            refine wp_lateT (by kernel_rfl) 92 2 (fun y => ∃ v, y = Value.tuple #[v, .bool true]) 120 [(93, []), (94, [1]), (95, [8]), (96, [94, 95]), (97, [96]), (98, [93, 97]), (99, [5]), (100, [99]), (1008, [98, 100]), (1009, [101]), (1010, [102]), (1011, [92]), (104, [92]), (1013, [103]), (1014, [104])]
              [Fact.fresh wr.heap.size 45, Fact.is (.slice (some ad) n cap), Fact.is (.int .i64 (k : Int)), Fact.is (.pointer (some (ad.add k))), Fact.is (.slice rA m rc), Fact.row wr.heap.size 45 7 m (flat r.ts), Fact.is (.agg #[.int .i64 x.t, .int .i64 x.i, .int .i64 x.p, .int .i64 x.s, .int .i64 x.d, .string (str x.sv), .string (str x.nm)]), Fact.lie 1 (flat [x]), default, default, default, default, Fact.is (.bool true), default, default]
              [1, 1, 1, 1, 1, 1, 1, 1, 2, 2, 2, 2, 0, 2, 2] [8, 9, 10, 11, 13, 14] [101, 102, 92, 103, 12, 13] [93, 94, 95, 96, 97, 98, 99, 100, 101, 102, 92, 103, 104, 12, 13] (SortP wr.heap.size (m + 1) (r.ts ++ [x]) (Po.part (G ++ [x]) x.t) wr)
              (by kernel_rfl) (by kernel_rfl) rfl rfl (fun p a w hp h => by obtain ⟨-, -, h2⟩ := h; obtain ⟨A, cap, -, -, -, -, -, h3, -⟩ := h2 (by omega); exact ⟨_, by simpa using h3 (by omega)⟩) ⟨?s0, ?s1, ?s2, ?s3, ?s4, ?s5, ?s6, ?s7, ?s12, trivial⟩ ?late ?fin
            case s0 =>
              intro ρ W hb hc hf hr
              clear hr
              refine under_none rfl ?_
              exact soft_freshS (hbd.trans (hb.mono (by simp))).size rfl
            case s1 =>
              intro ρ W hb hc hf hr
              obtain ⟨r1, -⟩ := hr
              have e1 : ρ (.tmp 1) = .slice (some ad) n cap := r1
              clear r1
              refine under_none rfl ?_
              exact ⟨e1, Below.refl _ _⟩
            case s2 =>
              intro ρ W hb hc hf hr
              obtain ⟨r8, -⟩ := hr
              have e8 : ρ (.tmp 8) = .int .i64 (k : Int) := r8
              clear r8
              refine under_none rfl ?_
              exact ⟨e8, Below.refl _ _⟩
            case s3 =>
              intro ρ W hb hc hf hr
              obtain ⟨r94, r95, -⟩ := hr
              have e94 : ρ (.tmp 94) = .slice (some ad) n cap := r94
              clear r94
              have e95 : ρ (.tmp 95) = .int .i64 (k : Int) := r95
              clear r95
              refine under_none rfl ?_
              exact soft_index e94 e95 (HIX.out W) rfl
            case s4 =>
              intro ρ W hb hc hf hr
              obtain ⟨r96, -⟩ := hr
              have e96 : ρ (.tmp 96) = .pointer (some (ad.add k)) := r96
              clear r96
              refine under_none rfl ?_
              exact soft_load e96 (run_loadS16 W _ _ (HCK.out W (HBR.out.trans ((hbd.trans (hb.mono (by simp))).mono HBR.out.size)))) rfl
            case s5 =>
              intro ρ W hb hc hf hr
              obtain ⟨r93, r97, -⟩ := hr
              have e97 : ρ (.tmp 97) = .slice rA m rc := r97
              clear r97
              refine under_none rfl ?_
              exact soft_app0S r93 e97 (HLK.out.below (HBR.out.trans ((hbd.trans (hb.mono (by simp))).mono HBR.out.size))) HM.out (by omega) rfl
            case s6 =>
              intro ρ W hb hc hf hr
              obtain ⟨r5, -⟩ := hr
              have e5 : ρ (.tmp 5) = .pointer (some ⟨B0, 0, none⟩) := r5
              clear r5
              refine under_none rfl ?_
              exact soft_load e5 (run_loadB16 (HX3.out W (HBR.out.trans ((hbd.trans (hb.mono (by simp))).mono HBR.out.size)))) rfl
            case s7 =>
              intro ρ W hb hc hf hr
              obtain ⟨r99, -⟩ := hr
              have e99 : ρ (.tmp 99) = .agg #[.int .i64 x.t, .int .i64 x.i, .int .i64 x.p, .int .i64 x.s, .int .i64 x.d, .string (str x.sv), .string (str x.nm)] := r99
              clear r99
              refine under_none rfl ?_
              exact soft_oneS e99 rfl
            case s12 =>
              refine ⟨rfl, _, rfl, ?_⟩
              intro ρ W hc hf hp hr
              replace hp := hp rfl
              clear hr
              obtain ⟨v, hv⟩ := hp; simp [execOp, hv, go_sem]
            case late =>
              intro p j o hj ho a W hsz h0 h1 hfr hou
              match p, hj with
              | 0, hj =>
                obtain rfl : 8 = j := Option.some.inj hj
                obtain rfl := Option.some.inj ho
                clear hj ho
                obtain ⟨hb, hhard⟩ := h0 rfl
                have r98 : (Fact.row wr.heap.size 45 7 m (flat r.ts)).φ (a.tmps.getD 98 undef) W := hhard 98 5 rfl rfl
                have r100 : (Fact.lie 1 (flat [x])).φ (a.tmps.getD 100 undef) W := hhard 100 7 rfl rfl
                clear h0 h1 hhard hfr hou
                refine late_appS (s := .tmp 98) (x := .tmp 100) (n := m) (m := 1) (l := r.ts) (k := [x]) r98 r100 rfl (by omega) (hbd.trans (hb.mono (by simp))).size rfl fun v w' ho hbb => ⟨v, rfl, ?_⟩
                exact ⟨hbb _ (hbd.trans (hb.mono (by simp))), fun _ => by simpa [Act.put, Array.getD_eq_getD_getElem?, hsz] using ho, fun h => absurd h (by omega)⟩
              | 1, hj =>
                obtain rfl : 9 = j := Option.some.inj hj
                obtain rfl := Option.some.inj ho
                clear hj ho
                have hP := h1 (by omega)
                clear h0 h1 hfr hou
                obtain ⟨hb, ho, -⟩ := hP
                obtain ⟨A', cap', hv, -, -, hl, -⟩ := row_formT (ho rfl)
                have e101 : a.eval (.tmp 101) = .slice A' (m + 1) cap' := by simpa [Act.eval] using hv
                refine late_call1 rfl e101 (by kernel_rfl) (HSO.out A' cap' W (hl.resolve_left (by omega))) fun e w' h => ?_
                obtain ⟨v, rfl, A2, cap2, rfl, h1, h2, h3, h4, h5⟩ := h
                refine ⟨_, rfl, _, rfl, ?_⟩
                exact ⟨hb.trans (h4.mono hb.size), fun h => absurd h (by omega), fun _ => ⟨A2, cap2, h1, h2, h3, fun ad e => Nat.le_trans hb.size (h5 ad e), by simp [Act.put, Array.getD_eq_getD_getElem?, hsz], fun h => absurd h (by omega), fun h => absurd h (by omega), fun h => absurd h (by omega), fun h => absurd h (by omega)⟩⟩
              | 2, hj =>
                obtain rfl : 10 = j := Option.some.inj hj
                obtain rfl := Option.some.inj ho
                clear hj ho
                have hP := h1 (by omega)
                clear h0 h1 hfr hou
                obtain ⟨hb, -, ho⟩ := hP
                obtain ⟨A2, cap2, h1, h2, h3, h5, hv, -⟩ := ho (by omega)
                have e102 : a.eval (.tmp 102) = .tuple #[.slice A2 (Po.part (G ++ [x]) x.t).length cap2, .bool true] := by simpa [Act.eval] using hv
                refine late_value16 (v := .tuple #[.slice A2 (Po.part (G ++ [x]) x.t).length cap2, .bool true]) (by simp [execOp, e102]) ⟨_, rfl, ?_⟩
                exact ⟨hb, fun h => absurd h (by omega), fun _ => ⟨A2, cap2, h1, h2, h3, h5, by simpa [Act.put, Array.getD_eq_getD_getElem?, hsz] using hv, fun _ => by simp [Act.put, Array.getD_eq_getD_getElem?, hsz], fun h => absurd h (by omega), fun h => absurd h (by omega), fun h => absurd h (by omega)⟩⟩
              | 3, hj =>
                obtain rfl : 11 = j := Option.some.inj hj
                obtain rfl := Option.some.inj ho
                clear hj ho
                have hP := h1 (by omega)
                clear h0 h1 hfr hou
                obtain ⟨hb, -, ho⟩ := hP
                obtain ⟨A2, cap2, h1, h2, h3, h5, hv, hv2, -⟩ := ho (by omega)
                have e92 : a.eval (.tmp 92) = .tuple #[.slice A2 (Po.part (G ++ [x]) x.t).length cap2, .bool true] := by simpa [Act.eval] using hv2 (by omega)
                refine late_value16 (v := .slice A2 (Po.part (G ++ [x]) x.t).length cap2) (run_ext16 e92 rfl) ⟨_, rfl, ?_⟩
                exact ⟨hb, fun h => absurd h (by omega), fun _ => ⟨A2, cap2, h1, h2, h3, h5, by simpa [Act.put, Array.getD_eq_getD_getElem?, hsz] using hv, fun _ => by simpa [Act.put, Array.getD_eq_getD_getElem?, hsz] using hv2 (by omega), fun _ => by simp [Act.put, Array.getD_eq_getD_getElem?, hsz], fun h => absurd h (by omega), fun h => absurd h (by omega)⟩⟩
              | 4, hj =>
                obtain rfl : 13 = j := Option.some.inj hj
                obtain rfl := Option.some.inj ho
                clear hj ho
                have hP := h1 (by omega)
                clear h0 h1 hfr hou
                obtain ⟨hb, -, ho⟩ := hP
                obtain ⟨A2, cap2, h1, h2, h3, h5, hv, hv2, hv3, -⟩ := ho (by omega)
                have e103 : a.eval (.tmp 103) = .slice A2 (Po.part (G ++ [x]) x.t).length cap2 := by simpa [Act.eval] using hv3 (by omega)
                refine late_assign rfl e103 ⟨_, rfl, ?_⟩
                exact ⟨hb, fun h => absurd h (by omega), fun _ => ⟨A2, cap2, h1, h2, h3, h5, by simpa [Act.put, Array.getD_eq_getD_getElem?, hsz] using hv, fun _ => by simpa [Act.put, Array.getD_eq_getD_getElem?, hsz] using hv2 (by omega), fun _ => by simpa [Act.put, Array.getD_eq_getD_getElem?, hsz] using hv3 (by omega), fun _ => by simp [Act.put, Array.getD_eq_getD_getElem?, hsz], fun h => absurd h (by omega)⟩⟩
              | 5, hj =>
                obtain rfl : 14 = j := Option.some.inj hj
                obtain rfl := Option.some.inj ho
                clear hj ho
                have hP := h1 (by omega)
                have e104 : a.eval (.tmp 104) = .bool true := hfr 104 12 rfl rfl (by kernel_rfl)
                clear h0 h1 hfr hou
                obtain ⟨hb, -, ho⟩ := hP
                obtain ⟨A2, cap2, h1, h2, h3, h5, hv, hv2, hv3, hv4, -⟩ := ho (by omega)
                refine late_assign rfl e104 ⟨_, rfl, ?_⟩
                exact ⟨hb, fun h => absurd h (by omega), fun _ => ⟨A2, cap2, h1, h2, h3, h5, by simpa [Act.put, Array.getD_eq_getD_getElem?, hsz] using hv, fun _ => by simpa [Act.put, Array.getD_eq_getD_getElem?, hsz] using hv2 (by omega), fun _ => by simpa [Act.put, Array.getD_eq_getD_getElem?, hsz] using hv3 (by omega), fun _ => by simpa [Act.put, Array.getD_eq_getD_getElem?, hsz] using hv4 (by omega), fun _ => by simp [Act.put, Array.getD_eq_getD_getElem?, hsz]⟩⟩
              | q + 6, hj => cases hj
            case fin =>
              intro a w5 ha hP
              obtain ⟨d5, -, ho⟩ := hP
              obtain ⟨MA, mc, h1, h2, h3, h5, -, -, -, hv4, hv5⟩ := ho (by decide)
              have e13 : a.tmps.getD 13 undef = .bool true := by simpa using hv5 rfl
              obtain ⟨mn, hmn⟩ : ∃ mn, (Po.part (G ++ [x]) x.t).length = mn := ⟨_, rfl⟩
              rw [hmn] at h1 hv4
              have e12 : a.tmps.getD 12 undef = .slice MA mn mc := by simpa using hv4 (by decide)
              clear hv4 hv5 ho
              simp only [List.foldl_cons, List.foldl_nil, e12, e13] at ha
              clear e12 e13
              generalize a.tmps.getD 93 undef = v93 at ha
              generalize a.tmps.getD 94 undef = v94 at ha
              generalize a.tmps.getD 95 undef = v95 at ha
              generalize a.tmps.getD 96 undef = v96 at ha
              generalize a.tmps.getD 97 undef = v97 at ha
              generalize a.tmps.getD 98 undef = v98 at ha
              generalize a.tmps.getD 99 undef = v99 at ha
              generalize a.tmps.getD 100 undef = v100 at ha
              generalize a.tmps.getD 101 undef = v101 at ha
              generalize a.tmps.getD 102 undef = v102 at ha
              generalize a.tmps.getD 92 undef = v92 at ha
              generalize a.tmps.getD 103 undef = v103 at ha
              generalize a.tmps.getD 104 undef = v104 at ha
              simp only [Act.put, List.setIfInBounds_toArray, List.set_cons_succ, List.set_cons_zero] at ha
              subst ha
              have HW5 := Lib.hid (HWR.out.trans (d5.mono HWR.out.size))
              have HD5 := Lib.hid d5
              have HB5 := Lib.hid (HBR.out.trans (d5.mono HBR.out.size))
              have HMN := Lib.hid hmn
              have HLM := Lib.hid h3
              have HFM := Lib.hid h5
              have hmn64 : mn ≤ 64 := by rw [← hmn, part_len, of_snoc, if_pos rfl, List.length_append, HLO.out]; simp; omega
              have HFP := Lib.hid (show Fine (Po.part (G ++ [x]) x.t) from fun y hy => by
                rcases List.mem_append.1 (part_mem.1 hy).1 with h | h
                · exact fine_right HOK.out.right y h
                · exact HF.out y h)
              have HM2 := Lib.hid h2
              unfold maxLen at h2
              obtain ⟨ct, hct⟩ : ∃ ct : Int, (Rc.cost (Po.part (G ++ [x]) x.t) : Int) = ct := ⟨_, rfl⟩
              have HCT := Lib.hid hct
              obtain ⟨bg, hbg⟩ : ∃ bg, decide (most < ct) = bg := ⟨_, rfl⟩
              have HBG := Lib.hid hbg
              have HCO := Lib.hid (fun (W : World) (hW : Below w5.heap.size w5 W) => show Calls Try.prog 26 #[.slice MA mn mc] W (fun e w' => e = .returned (.int .i64 ct) ∧ Below W.heap.size W w') by
                have := rcost13_any MA mn mc _ W HMN.out (HLM.out.below hW) HFP.out
                rwa [hct] at this)
              have HMO := Lib.hid (fun (W : World) (hW : Below w5.heap.size w5 W) => show W.cell? ⟨pb, 0, none⟩ = some (.int .i64 most) from (((Kept.of ((HB2.out.trans (HB5.out.mono HB2.out.size)).trans (hW.mono (Nat.le_trans HB2.out.size HB5.out.size))) []).blk HP1.out (by simp)).cell 0))
              have hbd : Below w5.heap.size w5 w5.drew := (Below.refl _ _).drew
              clear hct h3 h5 d5 hmn hbr
              go_wp2
              refine wp_softS (by kernel_rfl) 120 [(105, [12]), (106, [105]), (107, [0]), (108, [107]), (109, [108]), (110, [109]), (111, [106, 110])]
                [Fact.is (.slice MA mn mc), Fact.is (.int .i64 ct), Fact.is (.pointer (some ⟨pb, 0, none⟩)), Fact.is (.pointer (some ⟨pb, 0, none⟩)), Fact.is (.pointer (some ⟨pb, 0, none⟩)), Fact.is (.int .i64 most), Fact.is (.bool bg)]
                (by kernel_rfl) rfl rfl ⟨?s0, ?s1, ?s2, ?s3, ?s4, ?s5, ?s6, trivial⟩ ?fin
              case s0 =>
                intro ρ W hb hc hf hr
                obtain ⟨r12, -⟩ := hr
                have e12 : ρ (.tmp 12) = .slice MA mn mc := r12
                clear r12
                refine under_none rfl ?_
                exact ⟨e12, Below.refl _ _⟩
              case s1 =>
                intro ρ W hb hc hf hr
                obtain ⟨r105, -⟩ := hr
                have e105 : ρ (.tmp 105) = .slice MA mn mc := r105
                clear r105
                refine under_none rfl ?_
                exact soft_call1 hf e105 (HCO.out W (hbd.trans (hb.mono (by simp)))) rfl (by kernel_rfl) below_is
              case s2 =>
                intro ρ W hb hc hf hr
                obtain ⟨r0, -⟩ := hr
                have e0 : ρ (.tmp 0) = .pointer (some ⟨pb, 0, none⟩) := r0
                clear r0
                refine under_none rfl ?_
                exact ⟨e0, Below.refl _ _⟩
              case s3 =>
                intro ρ W hb hc hf hr
                obtain ⟨r107, -⟩ := hr
                have e107 : ρ (.tmp 107) = .pointer (some ⟨pb, 0, none⟩) := r107
                clear r107
                refine under_none rfl ?_
                simp [execOp, e107, go_sem, softUpon, Fact.is, Below.refl]
              case s4 =>
                intro ρ W hb hc hf hr
                obtain ⟨r108, -⟩ := hr
                have e108 : ρ (.tmp 108) = .pointer (some ⟨pb, 0, none⟩) := r108
                clear r108
                refine under_none rfl ?_
                exact soft_field e108 rfl (fun W => by go_simp)
              case s5 =>
                intro ρ W hb hc hf hr
                obtain ⟨r109, -⟩ := hr
                have e109 : ρ (.tmp 109) = .pointer (some ⟨pb, 0, none⟩) := r109
                clear r109
                refine under_none rfl ?_
                exact soft_load e109 (run_loadI16 W _ _ (HMO.out W (hbd.trans (hb.mono (by simp))))) rfl
              case s6 =>
                intro ρ W hb hc hf hr
                obtain ⟨r106, r110, -⟩ := hr
                have e106 : ρ (.tmp 106) = .int .i64 ct := r106
                clear r106
                have e110 : ρ (.tmp 110) = .int .i64 most := r110
                clear r110
                refine under_none rfl ?_
                exact soft_bin e106 e110 rfl rfl (gtr_int W ct most bg hbg)
              case fin =>
                intro a w6 hb hd hsz hk
                have ea := act_puts hd hsz rfl hk
                have k105 : a.tmps.getD 105 undef = .slice MA mn mc := hk 105
                have k106 : a.tmps.getD 106 undef = .int .i64 ct := hk 106
                have k107 : a.tmps.getD 107 undef = .pointer (some ⟨pb, 0, none⟩) := hk 107
                have k108 : a.tmps.getD 108 undef = .pointer (some ⟨pb, 0, none⟩) := hk 108
                have k109 : a.tmps.getD 109 undef = .pointer (some ⟨pb, 0, none⟩) := hk 109
                have k110 : a.tmps.getD 110 undef = .int .i64 most := hk 110
                have k111 : a.tmps.getD 111 undef = .bool bg := hk 111
                clear hk hd hsz
                simp only [List.map_cons, List.map_nil, List.foldl_cons, List.foldl_nil, k105, k106, k107, k108, k109, k110, k111] at ea
                clear k105 k106 k107 k108 k109 k110 k111
                simp only [Act.put, List.setIfInBounds_toArray, List.set_cons_succ, List.set_cons_zero] at ea
                subst ea
                have dV := hbd.trans (hb.mono (by simp))
                have HV := Lib.hid dV
                have HWV := Lib.hid (HW5.out.trans (dV.mono HW5.out.size))
                clear hb dV hbd
                rcases bg with _ | _
                rotate_left
                · have HCD := Lib.hid (code_big (most := most) HRT.out HUN.out (by rw [HLO.out]; omega) (fun e => absurd HHK.out (of_nil.1 e)) (by rw [HCT.out]; exact of_decide_eq_true HBG.out))
                  go_wp2
                  go_returns
                  exact ⟨HWV.out, .inl ⟨by rw [HCD.out]; decide, by rw [HCD.out]; rfl⟩⟩
                · have HC0 := Lib.hid (show code most G x = 0 from code_zero.2 ⟨HRT.out, HUN.out, by rw [HLO.out]; omega, fun e => absurd HHK.out (of_nil.1 e), by rw [HCT.out]; have := of_decide_eq_false HBG.out; omega⟩)
                  have HB6 := Lib.hid (HB5.out.trans (HV.out.mono HB5.out.size))
                  have HR6 := Lib.hid (HR2.out.below HB6.out)
                  obtain ⟨-, -, rs, hrl, hrm, hl, -, hrok⟩ := HR6.out
                  obtain ⟨i0, hi, hz0, hz1, hz2⟩ := info_parts infoTr
                  have HLIT := Lib.hid (show (w6.alloc (.cells #[] 29)).ownsRow w6.heap.size 29 1 (.slice (some ⟨w6.heap.size, 0, none⟩) 0 0) 0 [] by
                    have := World.ownsRow_lit (base := w6.heap.size) (e := 29) (size := 1) w6 #[] 0 (Nat.le_refl _) (by unfold maxLen; omega) rfl
                    simpa using this)
                  have HBA := Lib.hid (show Below w6.heap.size w6 (w6.alloc (.cells #[] 29)) from (Below.refl _ _).alloc (Nat.le_refl _) _)
                  have HRL := Lib.hid hrl
                  have HRM := Lib.hid hrm
                  have HL6 := Lib.hid (hl.below HBA.out)
                  have HRK := Lib.hid hrok
                  clear hrl hrm hl hrok
                  go_wp2_with (at_builtin; refine wpList_appK rfl _ _ 56 rfl w6.heap.size 29 i0 (.slice none 0 0) 1 24 Try.underlying56 hi hz0 hz1 hz2 rfl (by decide) (.slice (some ⟨w6.heap.size, 0, none⟩) 0 0) 0 [] rfl ?b1 (some ad) n cap (flatT rs) rfl (by rw [flatT_length, HRL.out]; omega) ?b2 (flatT_one rs) ?b4 ?b5 ?b6 ?b7)
                  case b1 => exact HLIT.out
                  case b2 => exact HL6.out
                  case b4 => unfold maxLen; omega
                  case b5 => omega
                  case b6 => simp
                  case b7 =>
                    intro v7 w7 hown7 hg7 _
                    have HB7 := Lib.hid (HBA.out.grown hg7 (by simp) (fun g e => by
                      simp only [Value.ownBlock, Option.some.injEq] at e; omega))
                    obtain ⟨g, c7, rfl, hgl, hglt⟩ := hown7.form (by omega)
                    have hkr : k < rs.length := by rw [HRL.out]; exact hkn
                    have cA : w7.cell? ⟨g, k, none⟩ = some (trV rs[k]) := by
                      rw [hown7.cellAt k (by omega)]
                      simp [flatT, hkr]
                    have fA := hown7.frozenAt k
                    obtain ⟨o8, -⟩ := hown7.stored k (.slice MA mn mc)
                    have h68 : Below w6.heap.size w6 (w7.setCell ⟨g, k, none⟩ (.slice MA mn mc)) := HB7.out.setCell hgl _
                    have h58 : Below w5.heap.size w5 (w7.setCell ⟨g, k, none⟩ (.slice MA mn mc)) := HV.out.trans (h68.mono HV.out.size)
                    have h38 : Below w3.heap.size w3 (w7.setCell ⟨g, k, none⟩ (.slice MA mn mc)) := HB6.out.trans (h68.mono HB6.out.size)
                    have HW8 := Lib.hid (HWV.out.trans (h68.mono HWV.out.size))
                    have HHT := HMN.out
                    obtain ⟨A8, c8, e8, hrp⟩ := rows_made (S := S) (G := G ++ [x]) (us := rs.set k ⟨Po.part (G ++ [x]) x.t, MA, mc⟩) (by rw [flatT, List.map_set]; unfold trV; simp only [HHT]; exact o8) (fun s hs => by have := HS.out s hs; have := HWV.out.size; omega) (by
                      obtain ⟨hk, hmk⟩ := HKM.out
                      rw [rows_old hk hmk, List.map_set, HRM.out]) (by rw [List.length_set, HRL.out]) (fun y hy => by
                      rcases List.mem_or_eq_of_mem_set hy with h | rfl
                      · exact (HRK.out y h).below h68
                      · refine ⟨by simp only [HHT]; exact h1, HM2.out, by simp only [HHT]; exact hmn64, HLM.out.below h58, .inr fun ad e hm => ?_⟩
                        have h9 := HFM.out ad e
                        have h10 := HS.out _ hm
                        have h11 := HWR.out.size
                        omega)
                    injection e8 with e8 _ e9
                    subst e8 e9
                    have HF8 := Lib.hid hrp
                    clear hrp o8 h68 h58 h38 hown7 hg7
                    go_wp2
                    go_returns
                    exact ⟨HW8.out, .inr ⟨HC0.out, _, _, _, rfl, HF8.out⟩⟩
end Go.Proofs.Ythcchfhkeghkhaa

