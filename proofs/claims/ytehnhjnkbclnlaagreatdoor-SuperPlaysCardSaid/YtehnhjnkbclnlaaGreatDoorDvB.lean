/-
  Layer 7: dev.Boot: what of the loose sectors is kept, and what of that has turned. Nothing is assumed but that what is handed in lies in other memory than the device.
-/
import Derived.Test.YtehnhjnkbclnlaaGreatDoorDvF
import Derived.Test.YtehnhjnkbclnlaaGreatDoorLoo

namespace Go.Proofs.YtehnhjnkbclnlaaGreatDoor
open Go.RowKit Go.Maps
set_option maxRecDepth 100000

def bools (l : List Bool) : List Value := l.map .bool
theorem bools_length (l : List Bool) : (bools l).length = l.length := by simp [bools]
theorem bools_one (l : List Bool) : ∀ u ∈ bools l, u.oneCell' = true := by
  intro u hu
  obtain ⟨s, _, rfl⟩ := List.mem_map.1 hu
  rfl
def huCells (h : Plain.Hu) : List Value := [.int .i64 h.which, .int .i64 h.at_, .int .u32 (h.bits : Int)]
theorem huCells_length (h : Plain.Hu) : (huCells h).length = 3 := rfl
def flatH (l : List Plain.Hu) : List Value := l.flatMap huCells
theorem flatH_length (xs : List Plain.Hu) : (flatH xs).length = xs.length * 3 := by
  induction xs with
  | nil => rfl
  | cons x xs ih => simp only [flatH, List.flatMap_cons, List.length_append, List.length_cons, huCells_length] at ih ⊢; omega
theorem flatH_at (xs : List Plain.Hu) (i j : Nat) (x : Plain.Hu) (h : xs[i]? = some x) (hj : j < 3) : (flatH xs)[i * 3 + j]? = (huCells x)[j]? := by
  induction xs generalizing i with
  | nil => simp at h
  | cons y ys ih =>
    cases i with
    | zero =>
      simp only [List.getElem?_cons_zero, Option.some.injEq] at h
      subst h
      simp only [flatH, List.flatMap_cons]
      rw [List.getElem?_append_left (by rw [huCells_length]; omega)]
      simp
    | succ i =>
      have := ih i (by simpa using h)
      simp only [flatH, List.flatMap_cons] at this ⊢
      rw [List.getElem?_append_right (by rw [huCells_length]; omega), huCells_length]
      rw [show (i + 1) * 3 + j - 3 = i * 3 + j by omega]
      exact this
theorem flatH_one (xs : List Plain.Hu) : ∀ u ∈ flatH xs, u.oneCell' = true := by
  intro u hu
  obtain ⟨x, _, hx⟩ := List.mem_flatMap.1 hu
  simp only [huCells, List.mem_cons, List.not_mem_nil, or_false] at hx
  rcases hx with rfl | rfl | rfl <;> rfl

theorem min_run (x y : Nat) (W : World) : (Builtin.min_ #[3, 3] 3 #[.int .i64 (x : Int), .int .i64 (y : Int)]).run Tryz.prog W = .ok (.int .i64 ((min x y : Nat) : Int)) W := by
  rcases Nat.le_total x y with h | h
  · rw [Nat.min_eq_left h]
    have h1 : ¬ ((y : Int) < (x : Int)) := by omega
    have h2 : (x : Int) ≤ (y : Int) := by omega
    simp [Builtin.min_, Builtin.min2, go_sem]
    omega
  · rw [Nat.min_eq_right h]
    have h2 : (y : Int) ≤ (x : Int) := by omega
    simp [Builtin.min_, Builtin.min2, go_sem]
    omega
theorem run_idxInt (W : World) (ad : Addr) (n cap k : Nat) (hk : k < n) : (Instr.indexAt 51 (.slice (some ad) n cap) (.int .i64 (k : Int))).run Tryz.prog W = .ok (.pointer (some (ad.add k))) W := by
  go_simp
/-- memory of one's own: where it lies -/
theorem own_off {w : World} {base n : Nat} {e : TypeId} {v : Value} {xs : List Value} (h : w.ownsRow base e 1 v n xs) : ∃ A cap, v = .slice A n cap ∧ n ≤ cap ∧ cap ≤ maxLen ∧ xs.length = n ∧ Lies w A xs ∧ ∀ ad, A = some ad → base ≤ ad.block := by
  obtain ⟨A, cap, rfl, h1, h2, h3, h4⟩ := own_form h
  refine ⟨A, cap, rfl, h1, h2, h3, h4, fun ad e => ?_⟩
  subst e
  rcases h.2 with ⟨h5, _⟩ | ⟨g, cap', cur, h5, hb, _⟩
  · cases h5
  · injection h5 with h5
    injection h5 with h5
    subst h5
    exact hb
theorem lookup_yes {W : World} {g n i : Nat} {wr : Nat → Option (List UInt8)} {s : List UInt8} (hi : i < n) (hn : n ≤ 4096) (hw : wr i = some s) (h : W.ownsMap Tryz.prog 3 secElem (g + 1) n (wD wr n)) :
    (Instr.lookup 58 (.map (some (g + 1))) (.int .i64 (i : Int)) false).run Tryz.prog W = .ok (secV s) W := by
  obtain ⟨t, hrun, _, ht⟩ := lookup_is hi hn h false
  rw [ht s hw] at hrun
  exact hrun
theorem late_call3 {P : Program} {W : World} {a : Act} {o : Oper} {x y z : Operand} {f : FuncId} {ats : Array TypeId} {vx vy vz : Value} {R : Ending → World → Prop} {K : Act → World → Prop} {Q : Exit → Act → World → Prop}
    (ho : o.op = .call { callee := .value (.func f), args := #[x, y, z], argTypes := ats }) (hx : a.eval x = vx) (hy : a.eval y = vy) (hz : a.eval z = vz) (hfn : (P.funcs[f]?).map (fun fn => (fn.name == "runtime.NumGoroutine", fn.body.isNone)) = some (false, false))
    (hc : Calls P f #[vx, vy, vz] W R) (hK : ∀ e w', R e w' → ∃ v, e = .returned v ∧ K (a.put o.dst v) w') : o.wp P a W K Q := by
  unfold Oper.wp
  have key : ∀ ρ : Operand → Value, ρ x = vx → ρ y = vy → ρ z = vz → ρ (.func f) = .func (.func f) #[] #[] → (execOp ρ o).run P W = .ok (.enter f #[vx, vy, vz]) W := fun ρ hx hy hz hf => by
    simp [execOp, ho, resolve, invoke, hf, hx, hy, hz, Deferred.ofValue, go_sem, enters hfn]
  rw [key a.eval hx hy hz rfl]
  exact hc.mono fun e w' hR => by
    obtain ⟨v, rfl, hv⟩ := hK e w' hR
    exact hv

theorem at_hu {w : World} {A : Option Addr} {l : List Plain.Hu} (h : Lies w A (flatH l)) (k : Nat) (hk : k < l.length) :
    ∃ ad, A = some ad ∧ ad.block < w.heap.size ∧ w.cell? (ad.add (k * 3)) = some (.int .i64 l[k].which) ∧ w.cell? ⟨(ad.add (k * 3)).block, (ad.add (k * 3)).off + 1, none⟩ = some (.int .i64 l[k].at_) ∧ w.cell? ⟨(ad.add (k * 3)).block, (ad.add (k * 3)).off + 2, none⟩ = some (.int .u32 (l[k].bits : Int)) := by
  obtain ⟨ad, rfl, hadb, -⟩ := h.at_ (k := k * 3) (by rw [flatH_length]; omega)
  refine ⟨ad, rfl, hadb, ?_⟩
  have hc2 : ∀ j u, (huCells l[k])[j]? = some u → w.cell? ((ad.add (k * 3)).add j) = some u := fun j u hu => by
    have hj : j < 3 := by
      rcases Nat.lt_or_ge j 3 with h | h
      · exact h
      · rw [List.getElem?_eq_none (by rw [huCells_length]; exact h)] at hu; cases hu
    have hf := flatH_at l k j l[k] (List.getElem?_eq_getElem hk) hj
    rw [hu] at hf
    rw [addr_add]
    rcases h with h | ⟨ad', e, _, hc⟩
    · rw [h] at hf; simp at hf
    · injection e with e; subst e; exact hc _ _ hf
  exact ⟨hc2 0 _ rfl, hc2 1 _ rfl, hc2 2 _ rfl⟩
theorem hits_no {d : Plain.Dv} {keep : List Bool} {u : Plain.Hu} {mm : Nat} (hm : min d.loose.length keep.length = mm) (hw : ¬ (0 ≤ u.which ∧ u.which < mm)) : d.hits keep u = false := by
  rw [Bool.eq_false_iff]
  intro e
  unfold Plain.Dv.hits at e
  simp only [Bool.and_eq_true, decide_eq_true_eq] at e
  obtain ⟨⟨e1, e2⟩, e3⟩ := e
  have : u.which.toNat < keep.length := by
    rcases Nat.lt_or_ge u.which.toNat keep.length with h | h
    · exact h
    · simp [show ¬ (u.which.toNat < keep.length) by omega] at e3
  omega
theorem hits_is {d : Plain.Dv} {keep : List Bool} {h : Plain.Hu} {wh : Nat} {B : Bool} (hw : h.which = (wh : Int)) (hl : wh < d.loose.length) (hk : keep.getD wh false = B) : d.hits keep h = B := by
  unfold Plain.Dv.hits
  rw [hw, Int.toNat_natCast, hk]
  have : decide (0 ≤ (wh : Int) ∧ (wh : Int) < (d.loose.length : Int)) = true := by simp; omega
  rw [this, Bool.true_and]

set_option maxHeartbeats 4000000 in
theorem boot_any (w : World) (g : Nat) (d : Plain.Dv) (keep : List Bool) (hurt : List Plain.Hu) (Ak Ah : Option Addr) (kn kcap hn hcap : Nat) (hkn : keep.length = kn) (hhn : hurt.length = hn) (hkm : kn ≤ maxLen) (hhm : hn ≤ maxLen)
    (hLk : Lies w Ak (bools keep)) (hLh : Lies w Ah (flatH hurt)) (hok : Off [g, g + 1, g + 2] Ak (bools keep)) (hoh : Off [g, g + 1, g + 2] Ah (flatH hurt)) (hbits : ∀ h ∈ hurt, h.bits < 4294967296) (h : IsDev w g d) :
    Calls Tryz.prog 12 #[.pointer (some ⟨g + 2, 0, none⟩), .slice Ak kn kcap, .slice Ah hn hcap] w fun e w' => e = .returned (.tuple #[]) ∧ IsDev w' g (d.boot keep hurt) ∧ Kept [g, g + 1, g + 2] w w' := by
  have HLO := Lib.hid (loose_any w g d h)
  have HD := Lib.hid h
  have hlt := h.lt
  have hfew := h.ok.few
  have hll := d.loose_len
  unfold maxLen at hkm hhm
  clear h
  go_enter Tryz.func12, Tryz.ntmps12
  go_wp2_with fail
  refine HLO.out.mono ?_
  rintro e w1 ⟨v, rfl, hown, hb1⟩
  obtain ⟨Al, capl, rfl, hlc, hlm, hnl, hLl, hAl⟩ := own_off hown
  have hol : Off [g, g + 1, g + 2] Al (nums d.loose) := .inr fun ad e hm => by
    have := hAl ad e
    simp at hm
    omega
  have HLL := Lib.hid hLl
  have HOL := Lib.hid hol
  have HLK := Lib.hid (hLk.below hb1)
  have HLH := Lib.hid (hLh.below hb1)
  have HOK := Lib.hid hok
  have HOH := Lib.hid hoh
  have HD1 := Lib.hid (HD.out.below hb1)
  have HB1 := Lib.hid hb1
  have hs1 := hb1.size
  have HKN := Lib.hid hkn
  have HHN := Lib.hid hhn
  have HBI := Lib.hid hbits
  obtain ⟨m, hm⟩ : ∃ m, d.loose.length = m := ⟨_, rfl⟩
  obtain ⟨mm, hmm⟩ : ∃ mm, min m kn = mm := ⟨_, rfl⟩
  have hm1 := fun W => min_run m kn W
  rw [hmm] at hm1
  have hmm1 : mm ≤ m := by omega
  have hmm2 : mm ≤ kn := by omega
  have HM := Lib.hid hm
  have HMM := Lib.hid hmm
  rw [hm] at hlc hll ⊢
  unfold maxLen at hlm
  have hsl := fun W : World => show (Instr.sliceAt 51 (.slice Al m capl) none (some (.int .i64 (mm : Int))) none).run Tryz.prog W = .ok (.slice Al mm capl) W from by
    have hh : ¬ capl < mm := by omega
    go_simp
  have c0 : w1.cell? ⟨g + 2, 0, none⟩ = some (.slice (some ⟨g, 0, none⟩) d.n d.n) := HD1.out.box.cell 0
  have c1 : w1.cell? ⟨g + 2, 1, none⟩ = some (.map (some (g + 1))) := HD1.out.box.cell 1
  clear hown hb1 hnl hLl hAl hol hLk hLh hok hoh hkn hhn hbits hm hmm
  go_wp2
  go_loopw [22] (fun s wr => ∃ k : Nat, s = .int .i64 (k : Int) ∧ k ≤ mm ∧ Kb wr g d.n (d.bk keep k) ∧ Kept [g] w1 wr) (fun s _ => mm - (RowKit.intOf s).toNat)
  case atStart => exact ⟨0, rfl, Nat.zero_le _, HD1.out.kept, Kept.refl _ _⟩
  case round =>
    obtain ⟨k, rfl, hk, hkb, hkr⟩ := hrel
    have HKB := Lib.hid hkb
    have HKR := Lib.hid hkr
    have hsr := hkr.size
    clear hkb hkr
    by_cases hkm2 : k < mm
    · have hkl : k < d.loose.length := by rw [HM.out]; omega
      have hkk : k < keep.length := by rw [HKN.out]; omega
      obtain ⟨adl, rfl, hlb, hlcell⟩ := (HLL.out.kept (HOL.out.mono (by simp)) HKR.out).at_ (k := k) (by rw [nums_length]; exact hkl)
      obtain ⟨adk, rfl, hkbk, hkcell⟩ := (HLK.out.kept (HOK.out.mono (by simp)) HKR.out).at_ (k := k) (by rw [bools_length]; exact hkk)
      obtain ⟨q, hq⟩ : ∃ q, d.loose[k] = q := ⟨_, rfl⟩
      obtain ⟨B, hB⟩ : ∃ B, keep[k] = B := ⟨_, rfl⟩
      rw [show (nums d.loose)[k]'(by rw [nums_length]; exact hkl) = .int .i64 (q : Int) by simp [nums, hq]] at hlcell
      rw [show (bools keep)[k]'(by rw [bools_length]; exact hkk) = .bool B by simp [bools, hB]] at hkcell
      have hqn : q < d.n := by rw [← hq]; exact d.loose_lt k hkl
      have HGD := Lib.hid (show d.loose.getD k 0 = q by simp [hkl, hq])
      have HKD := Lib.hid (show keep.getD k false = B by simp [hkk, hB])
      obtain ⟨s, hws⟩ : ∃ s, d.wr q = some s := by rw [← hq]; exact d.loose_some k hkl
      have hsl2 : s.length = 64 := (HD.out.ok.wr q s hws).2
      have HWS := Lib.hid hws
      have HSL := Lib.hid hsl2
      have HKL := Lib.hid hkl
      clear hq hB hws hsl2
      rcases B with _ | _
      · go_wp2
        go_roundw
        case rel =>
          refine ⟨k + 1, by go_num, by omega, ?_, HKR.out⟩
          rw [Plain.Dv.bk_succ, if_neg (by rw [HKD.out]; simp)]
          exact HKB.out
        case measure => simp [RowKit.intOf]; omega
      · have hbx : Blk wr (g + 2) _ _ := (HKR.out.block (g + 2) (by omega) (by simp)).trans HD1.out.box
        have HC0 := Lib.hid (fun (W : World) (hW : Below wr.heap.size wr W) => show (Instr.loadAt 57 (.pointer (some ⟨g + 2, 0, none⟩))).run Tryz.prog W = .ok (.slice (some ⟨g, 0, none⟩) d.n d.n) W from by
          have c1 : W.cell? ⟨g + 2, 0, none⟩ = some (.slice (some ⟨g, 0, none⟩) d.n d.n) := (hW.cell (p := ⟨g + 2, 0, none⟩) (by simp; omega)).trans (hbx.cell 0)
          go_simp)
        have HC1 := Lib.hid (fun (W : World) (hW : Below wr.heap.size wr W) => show (Instr.loadAt 58 (.pointer (some ⟨g + 2, 1, none⟩))).run Tryz.prog W = .ok (.map (some (g + 1))) W from by
          have c1 : W.cell? ⟨g + 2, 1, none⟩ = some (.map (some (g + 1))) := (hW.cell (p := ⟨g + 2, 1, none⟩) (by simp; omega)).trans (hbx.cell 1)
          go_simp)
        have hmr : wr.ownsMap Tryz.prog 3 secElem (g + 1) d.n (wD d.wr d.n) := ownsMap_block HD1.out.map (HKR.out.block (g + 1) (by omega) (by simp))
        have HLKU := Lib.hid (fun (W : World) (hW : Below wr.heap.size wr W) => lookup_yes hqn hfew HWS.out (ownsMap_block hmr (hW.block (g + 1) (by omega))))
        clear hbx hmr
        have hbd : Below wr.heap.size wr wr.drew := (Below.refl _ _).drew
        go_wp2
        generalize hnn : d.n = n at *
        refine wp_late (by kernel_rfl) 93 [(31, [0]), (32, [31]), (33, [32]), (34, [33]), (35, [8]), (36, [0]), (37, [36]), (38, [37]), (39, [38]), (40, [8]), (41, [39, 40]), (42, [34, 35]), (1012, [42, 41])]
          [Fact.is (.pointer (some ⟨g + 2, 0, none⟩)), Fact.is (.pointer (some ⟨g + 2, 0, none⟩)), Fact.is (.pointer (some ⟨g + 2, 0, none⟩)), Fact.is (.slice (some ⟨g, 0, none⟩) n n), Fact.is (.int .i64 (q : Int)), Fact.is (.pointer (some ⟨g + 2, 0, none⟩)), Fact.is (.pointer (some ⟨g + 2, 0, none⟩)), Fact.is (.pointer (some ⟨g + 2, 1, none⟩)), Fact.is (.map (some (g + 1))), Fact.is (.int .i64 (q : Int)), Fact.is (secV s), Fact.is (.pointer (some ⟨g, q * 64, none⟩)), default]
          [1, 1, 1, 1, 1, 1, 1, 1, 1, 1, 1, 1, 2] [12] [] [31, 32, 33, 34, 35, 36, 37, 38, 39, 40, 41, 42] ((fun _ _ w' => ∃ W, Below wr.heap.size wr W ∧ w' = W.setCells g (q * 64) (cells s)))
          (by kernel_rfl) (by kernel_rfl) rfl rfl ⟨?s0, ?s1, ?s2, ?s3, ?s4, ?s5, ?s6, ?s7, ?s8, ?s9, ?s10, ?s11, trivial⟩ ?late ?fin
        case s0 =>
          intro ρ W hb hc hf hr
          obtain ⟨r0, -⟩ := hr
          have e0 : ρ (.tmp 0) = .pointer (some ⟨g + 2, 0, none⟩) := r0
          clear r0
          refine under_none rfl ?_
          exact ⟨e0, Below.refl _ _⟩
        case s1 =>
          intro ρ W hb hc hf hr
          obtain ⟨r31, -⟩ := hr
          have e31 : ρ (.tmp 31) = .pointer (some ⟨g + 2, 0, none⟩) := r31
          clear r31
          refine under_none rfl ?_
          simp [execOp, e31, go_sem, softUpon, Fact.is, Below.refl]
        case s2 =>
          intro ρ W hb hc hf hr
          obtain ⟨r32, -⟩ := hr
          have e32 : ρ (.tmp 32) = .pointer (some ⟨g + 2, 0, none⟩) := r32
          clear r32
          refine under_none rfl ?_
          exact soft_field e32 rfl (fun W => by go_simp)
        case s3 =>
          intro ρ W hb hc hf hr
          obtain ⟨r33, -⟩ := hr
          have e33 : ρ (.tmp 33) = .pointer (some ⟨g + 2, 0, none⟩) := r33
          clear r33
          refine under_none rfl ?_
          exact soft_load e33 (HC0.out W (hbd.trans (hb.mono (by simp)))) rfl
        case s4 =>
          intro ρ W hb hc hf hr
          obtain ⟨r8, -⟩ := hr
          have e8 : ρ (.tmp 8) = .int .i64 (q : Int) := r8
          clear r8
          refine under_none rfl ?_
          exact ⟨e8, Below.refl _ _⟩
        case s5 =>
          intro ρ W hb hc hf hr
          obtain ⟨r0, -⟩ := hr
          have e0 : ρ (.tmp 0) = .pointer (some ⟨g + 2, 0, none⟩) := r0
          clear r0
          refine under_none rfl ?_
          exact ⟨e0, Below.refl _ _⟩
        case s6 =>
          intro ρ W hb hc hf hr
          obtain ⟨r36, -⟩ := hr
          have e36 : ρ (.tmp 36) = .pointer (some ⟨g + 2, 0, none⟩) := r36
          clear r36
          refine under_none rfl ?_
          simp [execOp, e36, go_sem, softUpon, Fact.is, Below.refl]
        case s7 =>
          intro ρ W hb hc hf hr
          obtain ⟨r37, -⟩ := hr
          have e37 : ρ (.tmp 37) = .pointer (some ⟨g + 2, 0, none⟩) := r37
          clear r37
          refine under_none rfl ?_
          exact soft_field e37 rfl (fun W => by go_simp)
        case s8 =>
          intro ρ W hb hc hf hr
          obtain ⟨r38, -⟩ := hr
          have e38 : ρ (.tmp 38) = .pointer (some ⟨g + 2, 1, none⟩) := r38
          clear r38
          refine under_none rfl ?_
          exact soft_load e38 (HC1.out W (hbd.trans (hb.mono (by simp)))) rfl
        case s9 =>
          intro ρ W hb hc hf hr
          obtain ⟨r8, -⟩ := hr
          have e8 : ρ (.tmp 8) = .int .i64 (q : Int) := r8
          clear r8
          refine under_none rfl ?_
          exact ⟨e8, Below.refl _ _⟩
        case s10 =>
          intro ρ W hb hc hf hr
          obtain ⟨r39, r40, -⟩ := hr
          have e39 : ρ (.tmp 39) = .map (some (g + 1)) := r39
          clear r39
          have e40 : ρ (.tmp 40) = .int .i64 (q : Int) := r40
          clear r40
          refine under_none rfl ?_
          exact soft_lookup e39 e40 (HLKU.out W (hbd.trans (hb.mono (by simp)))) rfl
        case s11 =>
          intro ρ W hb hc hf hr
          obtain ⟨r34, r35, -⟩ := hr
          have e34 : ρ (.tmp 34) = .slice (some ⟨g, 0, none⟩) n n := r34
          clear r34
          have e35 : ρ (.tmp 35) = .int .i64 (q : Int) := r35
          clear r35
          refine under_none rfl ?_
          exact soft_index e34 e35 (run_indexSec W g n q hqn) rfl
        case late =>
          intro p j o hj ho a W hsz h0 h1 hfr hou
          match p, hj with
          | 0, hj =>
            obtain rfl : 12 = j := Option.some.inj hj
            obtain rfl := Option.some.inj ho
            clear hj ho
            obtain ⟨hb, hhard⟩ := h0 rfl
            have e42 : a.eval (.tmp 42) = .pointer (some ⟨g, q * 64, none⟩) := hhard 42 11 rfl rfl
            have e41 : a.eval (.tmp 41) = secV s := hhard 41 10 rfl rfl
            clear h0 h1 hhard hfr hou
            refine late_store (x := .tmp 42) (y := .tmp 41) (w' := W.setCells g (q * 64) (cells s)) rfl (by rw [e42, e41]; exact run_storeSec W g (q * 64) s HSL.out ((HKB.out.block ((hbd.trans (hb.mono (by simp))).block g (by omega))).there hqn)) ⟨undef, rfl, W, hbd.trans (hb.mono (by simp)), rfl⟩
          | q + 1, hj => cases hj
        case fin =>
          intro a w5 ha hP
          obtain ⟨W, hW, rfl⟩ := hP
          have HW := Lib.hid hW
          clear hW
          simp only [List.foldl_cons, List.foldl_nil] at ha
          generalize a.tmps.getD 31 undef = v31 at ha
          generalize a.tmps.getD 32 undef = v32 at ha
          generalize a.tmps.getD 33 undef = v33 at ha
          generalize a.tmps.getD 34 undef = v34 at ha
          generalize a.tmps.getD 35 undef = v35 at ha
          generalize a.tmps.getD 36 undef = v36 at ha
          generalize a.tmps.getD 37 undef = v37 at ha
          generalize a.tmps.getD 38 undef = v38 at ha
          generalize a.tmps.getD 39 undef = v39 at ha
          generalize a.tmps.getD 40 undef = v40 at ha
          generalize a.tmps.getD 41 undef = v41 at ha
          generalize a.tmps.getD 42 undef = v42 at ha
          simp only [Act.put, List.setIfInBounds_toArray, List.set_cons_succ, List.set_cons_zero] at ha
          subst ha
          have hk5 : Kept [g] w1 (W.setCells g (q * 64) (cells s)) := (HKR.out.trans (Kept.of HW.out _)).setCells (g := g) (by simp) _ _
          have hkb5 : Kb (W.setCells g (q * 64) (cells s)) g n (d.bk keep (k + 1)) := by
            have h1 := (HKB.out.block (HW.out.block g (by omega))).store (fun j hj => d.bk_length HD.out.ok keep k j (by omega)) hqn s HSL.out
            have e : d.bk keep (k + 1) = Plain.upd (d.bk keep k) q s := by
              rw [Plain.Dv.bk_succ, if_pos ⟨HKL.out, HKD.out⟩, HGD.out]
              unfold Plain.Dv.sec
              rw [HWS.out]; rfl
            rw [e]
            exact h1
          have HK5 := Lib.hid hk5
          have HKB5 := Lib.hid hkb5
          clear hk5 hkb5
          go_wp2
          go_roundw
          case rel =>
            subst hnn
            exact ⟨k + 1, by go_num, by omega, HKB5.out, HK5.out⟩
          case measure => simp [RowKit.intOf]; omega
    · obtain rfl : mm = k := by omega
      have hmr : wr.ownsMap Tryz.prog 3 secElem (g + 1) d.n (wD d.wr d.n) := ownsMap_block HD1.out.map (HKR.out.block (g + 1) (by omega) (by simp))
      have c1r : wr.cell? ⟨g + 2, 1, none⟩ = some (.map (some (g + 1))) := (World.cell?_of_block (HKR.out.block (g + 2) (by omega) (by simp))).trans c1
      have HMR := Lib.hid hmr
      have hkb : Kb wr g d.n (d.bk keep d.loose.length) := by
        rw [← d.bk_min, HM.out, HKN.out, HMM.out]; exact HKB.out
      have HKB2 := Lib.hid hkb
      clear hkb hmr
      go_wp2_with (refine wpList_clear rfl _ rfl (g + 1) d.n d.wr rfl HMR.out ?_; intro w5 hm5 hg5)
      have hk5 : Kept [g, g + 1] w1 w5 := (HKR.out.mono (by simp)).grown hg5 (by simp)
      have hkb5 : Kb w5 g d.n (d.bk keep d.loose.length) := HKB2.out.block (hg5.block g (by omega) (by simp))
      have HM5 := Lib.hid hm5
      have HK5 := Lib.hid hk5
      have HKB5 := Lib.hid hkb5
      have hs5 := hk5.size
      have hbx5 : Blk w5 (g + 2) _ _ := (hk5.block (g + 2) (by omega) (by simp)).trans HD1.out.box
      have HBX := Lib.hid hbx5
      clear hm5 hg5 hk5 hkb5 c1r hbx5
      generalize wr = wo at *
      go_loopw [50] (fun s wr => ∃ j : Nat, s = .int .i64 (j : Int) ∧ j ≤ hn ∧ Kb wr g d.n ((hurt.take j).foldl (d.hurt1 keep) (d.bk keep d.loose.length)) ∧ Kept [g] w5 wr) (fun s _ => hn - (RowKit.intOf s).toNat)
      case atStart => exact ⟨0, rfl, Nat.zero_le _, HKB5.out, Kept.refl _ _⟩
      case round =>
        obtain ⟨j, rfl, hj, hkb, hkr⟩ := hrel
        have HKB := Lib.hid hkb
        have HKR := Lib.hid hkr
        have hsr := hkr.size
        clear hkb hkr
        by_cases hjn : j < hn
        · have hjl : j < hurt.length := by rw [HHN.out]; exact hjn
          have hK15 : Kept [g, g + 1] w1 wr := HK5.out.trans (HKR.out.mono (by simp))
          have HK15 := Lib.hid hK15
          obtain ⟨adh, rfl, hhb, x0, x1, x2⟩ := at_hu (HLH.out.kept (HOH.out.mono (by simp)) hK15) j hjl
          obtain ⟨u, hu⟩ : ∃ u, hurt[j] = u := ⟨_, rfl⟩
          have HTK := Lib.hid (show (hurt.take (j + 1)).foldl (d.hurt1 keep) (d.bk keep d.loose.length) = d.hurt1 keep ((hurt.take j).foldl (d.hurt1 keep) (d.bk keep d.loose.length)) u by
            rw [List.take_succ_eq_append_getElem hjl, List.foldl_append, hu]; rfl)
          have hub : u.bits < 4294967296 := by rw [← hu]; exact HBI.out _ (List.getElem_mem hjl)
          rw [hu] at x0 x1 x2
          have HK4L := Lib.hid (show ∀ i, i < d.n → ((hurt.take j).foldl (d.hurt1 keep) (d.bk keep d.loose.length) i).length = 64 from d.hurts_length keep _ _ (d.bk_length HD.out.ok keep _))
          obtain ⟨K, hK⟩ : ∃ K, (hurt.take j).foldl (d.hurt1 keep) (d.bk keep d.loose.length) = K := ⟨_, rfl⟩
          rw [hK] at HTK HKB HK4L
          have HH1D := Lib.hid (show d.hurt1 keep K u = if d.hits keep u = true then Plain.upd K (d.loose.getD u.which.toNat 0) (Plain.turn (K (d.loose.getD u.which.toNat 0)) u.at_ u.bits) else K from rfl)
          have HNO := Lib.hid (fun hw => @hits_no d keep u mm (by rw [HM.out, HKN.out, HMM.out]) hw)
          have HIS := Lib.hid (fun wh B hw hl hk => @hits_is d keep u wh B hw hl hk)
          clear hu hK hK15
          obtain ⟨uw, ua, ub⟩ := u
          simp only at x0 x1 x2 hub
          have bx := Blk.new wr #[.int .i64 uw, .int .i64 ua, .int .u32 (ub : Int)] 72
          have z0 := bx.cell 0
          have z1 := bx.cell 1
          have z2 := bx.cell 2
          have hkA : Kept [g] w5 (wr.alloc (.cells #[.int .i64 uw, .int .i64 ua, .int .u32 (ub : Int)] 72)) := HKR.out.alloc _
          have HKA := Lib.hid hkA
          have HKBA := Lib.hid (show Kb (wr.alloc (.cells #[.int .i64 uw, .int .i64 ua, .int .u32 (ub : Int)] 72)) g d.n K from HKB.out.block (Below.heap_alloc _ _ _ (by omega)))
          have hbd0 : Below wr.heap.size wr (wr.alloc (.cells #[.int .i64 uw, .int .i64 ua, .int .u32 (ub : Int)] 72)) := (Below.refl _ _).alloc (Nat.le_refl _) _
          by_cases hin : 0 ≤ uw ∧ uw < (mm : Int)
          · obtain ⟨hw0, hw1⟩ := hin
            obtain ⟨wh, rfl⟩ := Int.eq_ofNat_of_zero_le hw0
            have hwm : wh < mm := by omega
            have hwl : wh < d.loose.length := by rw [HM.out]; omega
            have hwk : wh < keep.length := by rw [HKN.out]; omega
            have t1 : decide ((0 : Int) ≤ (wh : Int)) = true := by simp
            have t2 : decide ((wh : Int) < (mm : Int)) = true := by simpa using hwm
            have hKA1 : Kept [g, g + 1] w1 (wr.alloc (.cells #[.int .i64 (wh : Int), .int .i64 ua, .int .u32 (ub : Int)] 72)) := HK15.out.alloc _
            obtain ⟨adl, rfl, hlb, hlcell⟩ := (HLL.out.kept (HOL.out.mono (by simp)) hKA1).at_ (k := wh) (by rw [nums_length]; exact hwl)
            obtain ⟨adk, rfl, hkbk, hkcell⟩ := (HLK.out.kept (HOK.out.mono (by simp)) hKA1).at_ (k := wh) (by rw [bools_length]; exact hwk)
            obtain ⟨q, hq⟩ : ∃ q, d.loose[wh] = q := ⟨_, rfl⟩
            obtain ⟨B, hB⟩ : ∃ B, keep[wh] = B := ⟨_, rfl⟩
            rw [show (nums d.loose)[wh]'(by rw [nums_length]; exact hwl) = .int .i64 (q : Int) by simp [nums, hq]] at hlcell
            rw [show (bools keep)[wh]'(by rw [bools_length]; exact hwk) = .bool B by simp [bools, hB]] at hkcell
            have hqn : q < d.n := by rw [← hq]; exact d.loose_lt wh hwl
            have HGD := Lib.hid (show d.loose.getD wh 0 = q by simp [hwl, hq])
            have HKD := Lib.hid (HIS.out wh B rfl hwl (by simp [hwk, hB]))
            clear hq hB hKA1
            rcases B with _ | _
            · go_wp2
              go_roundw
              case rel =>
                refine ⟨j + 1, by go_num, by omega, ?_, HKA.out⟩
                rw [HTK.out, HH1D.out, if_neg (by rw [HKD.out]; simp)]
                exact HKBA.out
              case measure => simp [RowKit.intOf]; omega
            · have hsz6 : (wr.alloc (.cells #[.int .i64 (wh : Int), .int .i64 ua, .int .u32 (ub : Int)] 72)).heap.size = wr.heap.size + 1 := by simp
              have hb06 : wr.heap.size < (wr.alloc (.cells #[.int .i64 (wh : Int), .int .i64 ua, .int .u32 (ub : Int)] 72)).heap.size := by omega
              have hgb6 : (wr.alloc (.cells #[.int .i64 (wh : Int), .int .i64 ua, .int .u32 (ub : Int)] 72)).heap[g + 2]? = w5.heap[g + 2]? := HKA.out.block (g + 2) (by omega) (by simp)
              have HGB := Lib.hid hgb6
              clear hgb6 hsz6
              go_wp2
              obtain ⟨hb0, hhb0⟩ : ∃ hb0, wr.heap.size = hb0 := ⟨_, rfl⟩
              rw [hhb0] at z0 z1 z2 hb06 ⊢
              generalize wr.alloc (.cells #[.int .i64 (wh : Int), .int .i64 ua, .int .u32 (ub : Int)] 72) = w6 at *
              have hbx := HGB.out.trans HBX.out
              have hlt6 : g + 2 < w6.heap.size := by have := HKA.out.size; omega
              have HC0 := Lib.hid (fun (W : World) (hW : Below w6.heap.size w6 W) => show (Instr.loadAt 57 (.pointer (some ⟨g + 2, 0, none⟩))).run Tryz.prog W = .ok (.slice (some ⟨g, 0, none⟩) d.n d.n) W from by
                have c1 : W.cell? ⟨g + 2, 0, none⟩ = some (.slice (some ⟨g, 0, none⟩) d.n d.n) := (hW.cell (p := ⟨g + 2, 0, none⟩) hlt6).trans (Blk.cell hbx 0)
                go_simp)
              have HH0 := Lib.hid (fun (W : World) (hW : Below w6.heap.size w6 W) => show (Instr.loadAt 3 (.pointer (some ⟨hb0, 0, none⟩))).run Tryz.prog W = .ok (.int .i64 (wh : Int)) W from by
                have c1 : W.cell? ⟨hb0, 0, none⟩ = some (.int .i64 (wh : Int)) := (hW.cell (p := ⟨hb0, 0, none⟩) hb06).trans z0
                go_simp)
              have HH1 := Lib.hid (fun (W : World) (hW : Below w6.heap.size w6 W) => show (Instr.loadAt 3 (.pointer (some ⟨hb0, 1, none⟩))).run Tryz.prog W = .ok (.int .i64 ua) W from by
                have c1 : W.cell? ⟨hb0, 1, none⟩ = some (.int .i64 ua) := (hW.cell (p := ⟨hb0, 1, none⟩) hb06).trans z1
                go_simp)
              have HH2 := Lib.hid (fun (W : World) (hW : Below w6.heap.size w6 W) => show (Instr.loadAt 70 (.pointer (some ⟨hb0, 2, none⟩))).run Tryz.prog W = .ok (.int .u32 (ub : Int)) W from by
                have c1 : W.cell? ⟨hb0, 2, none⟩ = some (.int .u32 (ub : Int)) := (hW.cell (p := ⟨hb0, 2, none⟩) hb06).trans z2
                go_simp)
              have HLQ := Lib.hid (fun (W : World) (hW : Below w6.heap.size w6 W) => show (Instr.loadAt 3 (.pointer (some (adl.add wh)))).run Tryz.prog W = .ok (.int .i64 (q : Int)) W from by
                have c1 : W.cell? (adl.add wh) = some (.int .i64 (q : Int)) := (hW.cell (by rw [addr_block]; exact hlb)).trans hlcell
                go_simp)
              clear hbx z0 z1 z2 x0 x1 x2
              have hbd : Below w6.heap.size w6 w6.drew := (Below.refl _ _).drew
              generalize hnn : d.n = n at *
              refine wp_late (by kernel_rfl) 93 [(71, [0]), (72, [71]), (73, [72]), (74, [73]), (75, [6]), (76, [10]), (77, [76]), (78, [75, 77]), (79, [78]), (80, [74, 79]), (81, [10]), (82, [81]), (83, [10]), (84, [83]), (1014, [80, 82, 84])]
                [Fact.is (.pointer (some ⟨g + 2, 0, none⟩)), Fact.is (.pointer (some ⟨g + 2, 0, none⟩)), Fact.is (.pointer (some ⟨g + 2, 0, none⟩)), Fact.is (.slice (some ⟨g, 0, none⟩) n n), Fact.is (.slice (some adl) mm capl), Fact.is (.pointer (some ⟨hb0, 0, none⟩)), Fact.is (.int .i64 (wh : Int)), Fact.is (.pointer (some (Addr.add adl wh))), Fact.is (.int .i64 (q : Int)), Fact.is (.pointer (some ⟨g, q * 64, none⟩)), Fact.is (.pointer (some ⟨hb0, 1, none⟩)), Fact.is (.int .i64 ua), Fact.is (.pointer (some ⟨hb0, 2, none⟩)), Fact.is (.int .u32 (ub : Int)), default]
                [1, 1, 1, 1, 1, 1, 1, 1, 1, 1, 1, 1, 1, 1, 2] [14] [] [71, 72, 73, 74, 75, 76, 77, 78, 79, 80, 81, 82, 83, 84, 85] ((fun _ _ w' => Kb w' g n (Plain.upd K q (Plain.turn (K q) ua ub)) ∧ Kept [g] w5 w'))
                (by kernel_rfl) (by kernel_rfl) rfl rfl ⟨?s0, ?s1, ?s2, ?s3, ?s4, ?s5, ?s6, ?s7, ?s8, ?s9, ?s10, ?s11, ?s12, ?s13, trivial⟩ ?late ?fin
              case s0 =>
                intro ρ W hb hc hf hr
                obtain ⟨r0, -⟩ := hr
                have e0 : ρ (.tmp 0) = .pointer (some ⟨g + 2, 0, none⟩) := r0
                clear r0
                refine under_none rfl ?_
                exact ⟨e0, Below.refl _ _⟩
              case s1 =>
                intro ρ W hb hc hf hr
                obtain ⟨r71, -⟩ := hr
                have e71 : ρ (.tmp 71) = .pointer (some ⟨g + 2, 0, none⟩) := r71
                clear r71
                refine under_none rfl ?_
                simp [execOp, e71, go_sem, softUpon, Fact.is, Below.refl]
              case s2 =>
                intro ρ W hb hc hf hr
                obtain ⟨r72, -⟩ := hr
                have e72 : ρ (.tmp 72) = .pointer (some ⟨g + 2, 0, none⟩) := r72
                clear r72
                refine under_none rfl ?_
                exact soft_field e72 rfl (fun W => by go_simp)
              case s3 =>
                intro ρ W hb hc hf hr
                obtain ⟨r73, -⟩ := hr
                have e73 : ρ (.tmp 73) = .pointer (some ⟨g + 2, 0, none⟩) := r73
                clear r73
                refine under_none rfl ?_
                exact soft_load e73 (HC0.out W (hbd.trans (hb.mono (by simp)))) rfl
              case s4 =>
                intro ρ W hb hc hf hr
                obtain ⟨r6, -⟩ := hr
                have e6 : ρ (.tmp 6) = .slice (some adl) mm capl := r6
                clear r6
                refine under_none rfl ?_
                exact ⟨e6, Below.refl _ _⟩
              case s5 =>
                intro ρ W hb hc hf hr
                obtain ⟨r10, -⟩ := hr
                have e10 : ρ (.tmp 10) = .pointer (some ⟨hb0, 0, none⟩) := r10
                clear r10
                refine under_none rfl ?_
                exact soft_field e10 rfl (fun W => by go_simp)
              case s6 =>
                intro ρ W hb hc hf hr
                obtain ⟨r76, -⟩ := hr
                have e76 : ρ (.tmp 76) = .pointer (some ⟨hb0, 0, none⟩) := r76
                clear r76
                refine under_none rfl ?_
                exact soft_load e76 (HH0.out W (hbd.trans (hb.mono (by simp)))) rfl
              case s7 =>
                intro ρ W hb hc hf hr
                obtain ⟨r75, r77, -⟩ := hr
                have e75 : ρ (.tmp 75) = .slice (some adl) mm capl := r75
                clear r75
                have e77 : ρ (.tmp 77) = .int .i64 (wh : Int) := r77
                clear r77
                refine under_none rfl ?_
                exact soft_index e75 e77 (run_idxInt W adl mm capl wh hwm) rfl
              case s8 =>
                intro ρ W hb hc hf hr
                obtain ⟨r78, -⟩ := hr
                have e78 : ρ (.tmp 78) = .pointer (some (Addr.add adl wh)) := r78
                clear r78
                refine under_none rfl ?_
                exact soft_load e78 (HLQ.out W (hbd.trans (hb.mono (by simp)))) rfl
              case s9 =>
                intro ρ W hb hc hf hr
                obtain ⟨r74, r79, -⟩ := hr
                have e74 : ρ (.tmp 74) = .slice (some ⟨g, 0, none⟩) n n := r74
                clear r74
                have e79 : ρ (.tmp 79) = .int .i64 (q : Int) := r79
                clear r79
                refine under_none rfl ?_
                exact soft_index e74 e79 (run_indexSec W g n q hqn) rfl
              case s10 =>
                intro ρ W hb hc hf hr
                obtain ⟨r10, -⟩ := hr
                have e10 : ρ (.tmp 10) = .pointer (some ⟨hb0, 0, none⟩) := r10
                clear r10
                refine under_none rfl ?_
                exact soft_field e10 rfl (fun W => by go_simp)
              case s11 =>
                intro ρ W hb hc hf hr
                obtain ⟨r81, -⟩ := hr
                have e81 : ρ (.tmp 81) = .pointer (some ⟨hb0, 1, none⟩) := r81
                clear r81
                refine under_none rfl ?_
                exact soft_load e81 (HH1.out W (hbd.trans (hb.mono (by simp)))) rfl
              case s12 =>
                intro ρ W hb hc hf hr
                obtain ⟨r10, -⟩ := hr
                have e10 : ρ (.tmp 10) = .pointer (some ⟨hb0, 0, none⟩) := r10
                clear r10
                refine under_none rfl ?_
                exact soft_field e10 rfl (fun W => by go_simp)
              case s13 =>
                intro ρ W hb hc hf hr
                obtain ⟨r83, -⟩ := hr
                have e83 : ρ (.tmp 83) = .pointer (some ⟨hb0, 2, none⟩) := r83
                clear r83
                refine under_none rfl ?_
                exact soft_load e83 (HH2.out W (hbd.trans (hb.mono (by simp)))) rfl
              case late =>
                intro p j o hj ho a W hsz h0 h1 hfr hou
                match p, hj with
                | 0, hj =>
                  obtain rfl : 14 = j := Option.some.inj hj
                  obtain rfl := Option.some.inj ho
                  clear hj ho
                  obtain ⟨hb, hhard⟩ := h0 rfl
                  have e80 : a.eval (.tmp 80) = .pointer (some ⟨g, q * 64, none⟩) := hhard 80 9 rfl rfl
                  have e82 : a.eval (.tmp 82) = .int .i64 ua := hhard 82 11 rfl rfl
                  have e84 : a.eval (.tmp 84) = .int .u32 (ub : Int) := hhard 84 13 rfl rfl
                  clear h0 h1 hhard hfr hou
                  have hW := hbd.trans (hb.mono (by simp))
                  refine late_call3 (x := .tmp 80) (y := .tmp 82) (z := .tmp 84) rfl e80 e82 e84 (by kernel_rfl) (turn_any W g n q K ua ub (HKBA.out.block (hW.block g (by omega))) HK4L.out hqn hub) ?_
                  rintro e w' ⟨rfl, h1, h2⟩
                  exact ⟨_, rfl, _, rfl, h1, (HKA.out.trans (Kept.of hW _)).trans h2⟩
                | q + 1, hj => cases hj
              case fin =>
                intro a w7 ha hP
                obtain ⟨h1, h2⟩ := hP
                have H1 := Lib.hid h1
                have H2 := Lib.hid h2
                clear h1 h2
                simp only [List.foldl_cons, List.foldl_nil] at ha
                generalize a.tmps.getD 71 undef = v71 at ha
                generalize a.tmps.getD 72 undef = v72 at ha
                generalize a.tmps.getD 73 undef = v73 at ha
                generalize a.tmps.getD 74 undef = v74 at ha
                generalize a.tmps.getD 75 undef = v75 at ha
                generalize a.tmps.getD 76 undef = v76 at ha
                generalize a.tmps.getD 77 undef = v77 at ha
                generalize a.tmps.getD 78 undef = v78 at ha
                generalize a.tmps.getD 79 undef = v79 at ha
                generalize a.tmps.getD 80 undef = v80 at ha
                generalize a.tmps.getD 81 undef = v81 at ha
                generalize a.tmps.getD 82 undef = v82 at ha
                generalize a.tmps.getD 83 undef = v83 at ha
                generalize a.tmps.getD 84 undef = v84 at ha
                generalize a.tmps.getD 85 undef = v85 at ha
                simp only [Act.put, List.setIfInBounds_toArray, List.set_cons_succ, List.set_cons_zero] at ha
                subst ha
                go_wp2
                go_roundw
                case rel =>
                  subst hnn
                  refine ⟨j + 1, by go_num, by omega, ?_, H2.out⟩
                  rw [HTK.out, HH1D.out, if_pos HKD.out]
                  simp only [Int.toNat_natCast]
                  rw [HGD.out]
                  exact H1.out
                case measure => simp [RowKit.intOf]; omega
          · have HNI := Lib.hid (HNO.out hin)
            by_cases h0 : 0 ≤ uw
            · have t1 : decide (0 ≤ uw) = true := by simpa using h0
              have t2 : decide (uw < (mm : Int)) = false := by simp; omega
              go_wp2
              go_roundw
              case rel =>
                refine ⟨j + 1, by go_num, by omega, ?_, HKA.out⟩
                rw [HTK.out, HH1D.out, if_neg (by rw [HNI.out]; simp)]
                exact HKBA.out
              case measure => simp [RowKit.intOf]; omega
            · have t1 : decide (0 ≤ uw) = false := by simpa using h0
              go_wp2
              go_roundw
              case rel =>
                refine ⟨j + 1, by go_num, by omega, ?_, HKA.out⟩
                rw [HTK.out, HH1D.out, if_neg (by rw [HNI.out]; simp)]
                exact HKBA.out
              case measure => simp [RowKit.intOf]; omega
        · have hjh : hurt.length ≤ j := by rw [HHN.out]; omega
          have hbr : Blk wr (g + 2) #[.slice (some ⟨g, 0, none⟩) d.n d.n, .map (some (g + 1)), .bool d.down, .bool d.cut, .int .i64 (d.left : Int), .int .i64 (d.done : Int)] 60 := (HKR.out.block (g + 2) (by omega) (by simp)).trans HBX.out
          have y2 : wr.cell? ⟨g + 2, 2, none⟩ = some (.bool d.down) := hbr.cell 2
          have y3 : wr.cell? ⟨g + 2, 3, none⟩ = some (.bool d.cut) := hbr.cell 3
          have f2 := hbr.frozen 2
          have f3 := hbr.frozen 3
          have hs := (hbr.set 2 (.bool false)).set 3 (.bool false)
          have HS := Lib.hid hs
          have hkz : Kept [g + 2] wr ((wr.setCell ⟨g + 2, 2, none⟩ (.bool false)).setCell ⟨g + 2, 3, none⟩ (.bool false)) := ((Kept.refl _ _).setCell (by simp) _).setCell (by simp) _
          have HKZ := Lib.hid hkz
          have HTA := Lib.hid (show hurt.take j = hurt from List.take_of_length_le hjh)
          clear hbr hs hkz hjh
          go_wp2
          go_returns
          have hm5 := ownsMap_block HM5.out (HKR.out.block (g + 1) (by omega) (by simp))
          refine ⟨rfl, ⟨d.boot_ok HD.out.ok keep hurt, ?_, ?_, ?_⟩, ?_⟩
          · simpa [Plain.Dv.boot] using HS.out
          · have := HKB.out
            rw [HTA.out] at this
            exact this.block (HKZ.out.block g (by omega) (by simp))
          · exact ownsMap_block hm5 (HKZ.out.block (g + 1) (by omega) (by simp))
          · exact (((Kept.of HB1.out _).trans (HK5.out.mono (by simp))).trans (HKR.out.mono (by simp))).trans (HKZ.out.mono (by simp))
end Go.Proofs.YtehnhjnkbclnlaaGreatDoor

