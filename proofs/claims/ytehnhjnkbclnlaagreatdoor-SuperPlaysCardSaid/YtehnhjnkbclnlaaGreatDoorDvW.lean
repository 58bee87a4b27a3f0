/-
  DvW: Layer 7: dev.Write and dev.Read: what they answer, and how the device stands then. Nothing is assumed but that fewer than 2^62 things were done, and that what is written lies in other memory than the device.
  DvR: Layer 7: dev.Read: what it answers: bytes of one's own. Nothing is assumed.
-/
import Derived.Test.YtehnhjnkbclnlaaGreatDoorDvA

namespace Go.Proofs.YtehnhjnkbclnlaaGreatDoor
open Go.RowKit Go.Maps
set_option maxRecDepth 100000

/-- the map has been written -/
def Wrote (w w' : World) (g n : Nat) (wr : Nat → Option (List UInt8)) : Prop := w'.ownsMap Tryz.prog 3 secElem (g + 1) n (wD wr n) ∧ Kept [g + 1] w w'
theorem map_store {W : World} {g n i : Nat} {wr : Nat → Option (List UInt8)} {s : List UInt8} (hn : n ≤ 4096) (hi : i < n) (hs : s.length = 64) (h : W.ownsMap Tryz.prog 3 secElem (g + 1) n (wD wr n)) :
    ∃ w', (Instr.mapUpdate 58 (.map (some (g + 1))) (.int .i64 (i : Int)) (secV s)).run Tryz.prog W = .ok () w' ∧ w'.ownsMap Tryz.prog 3 secElem (g + 1) n (wD (Plain.upd wr i (some s)) n) ∧ W.grownBy w' (some (g + 1)) := by
  obtain ⟨w', hrun, r1, r2⟩ := h.update keyedI Tryz.underlying58 (by unfold maxLen; omega) (keyI i (by omega)) (secElem_mk s hs)
  rw [wD_put s hi (r1.canon keyedI)] at r1
  exact ⟨w', hrun, ownsMap_trim r1 (wD_size _ _), r2⟩

theorem write_bad (w : World) (g : Nat) (d : Plain.Dv) (i : Int) (A : Option Addr) (len cap : Nat) (hc : d.has i = false ∨ len ≠ 64) (h : IsDev w g d) :
    Calls Tryz.prog 14 #[.pointer (some ⟨g + 2, 0, none⟩), .int .i64 i, .slice A len cap] w fun e w' => e = .returned (.int .i64 1) ∧ w = w' := by
  by_cases hh : d.has i = false
  · have HH := Lib.hid (has_is w g d i false hh h)
    clear hh hc h
    go_enter Tryz.func14, Tryz.ntmps14
    go_wp2_with fail
    refine HH.out.mono ?_
    rintro e w' ⟨rfl, rfl⟩
    go_wp2
    go_returns
    exact ⟨rfl, rfl⟩
  · have hl : len ≠ 64 := hc.resolve_left hh
    have t0 : ((len : Int) != 64) = true := by simp; omega
    have HH := Lib.hid (has_is w g d i true (by simpa using hh) h)
    clear hh hc h hl
    go_enter Tryz.func14, Tryz.ntmps14
    go_wp2_with fail
    refine HH.out.mono ?_
    rintro e w' ⟨rfl, rfl⟩
    go_wp2
    go_returns
    exact ⟨rfl, rfl⟩

set_option maxHeartbeats 2000000 in
theorem write_any (w : World) (g : Nat) (d : Plain.Dv) (i : Int) (A : Option Addr) (cap len : Nat) (bs : List UInt8) (hlen : bs.length = len) (hL : Lies w A (cells bs)) (hoff : Off [g, g + 1, g + 2] A (cells bs)) (hdone : d.done < 4611686018427387904) (h : IsDev w g d) :
    Calls Tryz.prog 14 #[.pointer (some ⟨g + 2, 0, none⟩), .int .i64 i, .slice A len cap] w fun e w' => e = .returned (.int .i64 ((d.write i bs).2 : Int)) ∧ IsDev w' g (d.write i bs).1 ∧ Kept [g + 1, g + 2] w w' := by
  by_cases hc : d.has i = false ∨ len ≠ 64
  · have e1 : d.write i bs = (d, 1) := by unfold Plain.Dv.write; rw [if_pos (by rw [hlen]; exact hc)]
    rw [e1]
    refine (write_bad w g d i A len cap hc h).mono ?_
    rintro e w' ⟨rfl, rfl⟩
    exact ⟨rfl, h, Kept.refl _ _⟩
  have hh : d.has i = true := by cases hq : d.has i <;> simp_all
  obtain rfl : len = 64 := Decidable.byContradiction fun e => hc (.inr e)
  obtain ⟨hi0, hi1⟩ := (d.has_iff i).1 hh
  obtain ⟨i, rfl⟩ := Int.eq_ofNat_of_zero_le hi0
  have hin : i < d.n := by omega
  have hok := d.write_ok h.ok i bs
  have hWE := show d.write i bs = if d.has i = false ∨ bs.length ≠ 64 then (d, 1) else if d.begin.2 ≠ 0 then d.begin else ({ d.begin.1 with wr := Plain.upd d.wr i (some bs) }, 0) by rfl
  rw [if_neg (by rw [hlen]; exact hc)] at hWE
  have HWE := Lib.hid hWE
  have HOK := Lib.hid hok
  have HLEN := Lib.hid hlen
  have HH := Lib.hid (has_is w g d i true hh h)
  have HB := Lib.hid (begin_any w g d h hdone)
  have hne : cells bs ≠ [] := by intro e; have := congrArg List.length e; rw [cells_length, hlen] at this; simp at this
  obtain ⟨b, o, rfl, hbl, hrg⟩ := hL.plain hne
  have hbo : b ∉ [g, g + 1, g + 2] := hoff.resolve_left hne _ rfl
  clear hne
  have hfew := h.ok.few
  have HRG := Lib.hid hrg
  obtain ⟨e1, e2, e3, -⟩ := d.begin_same
  have HS1 := Lib.hid (And.intro e1 (And.intro e2 e3))
  have herr := d.begin_err
  clear hWE hok hlen hh hc hL hrg hoff e1 e2 e3 h hi0
  go_enter Tryz.func14, Tryz.ntmps14
  go_wp2_with fail
  refine HH.out.mono ?_
  rintro e w' ⟨rfl, rfl⟩
  have t0 : ((64 : Int) != 64) = false := rfl
  go_wp2_with fail
  refine HB.out.mono ?_
  rintro e w1 ⟨rfl, hd1, k1⟩
  generalize he : d.begin.2 = er at *
  have hk1 : Kept [g + 1, g + 2] w w1 := k1.mono (by simp)
  rcases herr with h0 | h0
  · subst h0
    have hrg1 : w1.rangeAt b o (cells bs) := rangeAt_block HRG.out (k1.block b hbl (by intro hm; exact hbo (by simp at hm; simp [hm])))
    have hbl1 : b < w1.heap.size := Nat.lt_of_lt_of_le hbl k1.size
    have HK1 := Lib.hid hk1
    have c1 : w1.cell? ⟨g + 2, 1, none⟩ = some (.map (some (g + 1))) := hd1.box.cell 1
    have hlt1 := hd1.lt
    have HC1 := Lib.hid (fun (W : World) (hW : Below w1.heap.size w1 W) => show (Instr.loadAt 58 (.pointer (some ⟨g + 2, 1, none⟩))).run Tryz.prog W = .ok (.map (some (g + 1))) W from by
      have c1 : W.cell? ⟨g + 2, 1, none⟩ = some (.map (some (g + 1))) := (hW.cell (p := ⟨g + 2, 1, none⟩) hd1.lt).trans (hd1.box.cell 1)
      go_simp)
    have HC2 := Lib.hid (fun (W : World) (hW : Below w1.heap.size w1 W) => run_loadSec W b o bs HLEN.out (rangeAt_block hrg1 (hW.block b hbl1)))
    have hbx := hd1.box
    have hkp := hd1.kept
    have hmp := hd1.map
    rw [HS1.out.1, HS1.out.2.2] at hmp
    have HD1 := Lib.hid hd1
    generalize hn : d.n = n at *
    generalize hwr : d.wr = wr at *
    have HMP := Lib.hid hmp
    clear hd1 hbx hkp hmp k1 hrg1 hbl1 hk1
    have hbd : Below w1.heap.size w1 w1.drew := (Below.refl _ _).drew
    go_wp2
    refine wp_late (by kernel_rfl) 30 [(22, [0]), (23, [22]), (24, [23]), (25, [24]), (26, [1]), (27, [2]), (28, [27]), (29, [28]), (1008, [25, 26, 29])]
      [Fact.is (.pointer (some ⟨g + 2, 0, none⟩)), Fact.is (.pointer (some ⟨g + 2, 0, none⟩)), Fact.is (.pointer (some ⟨g + 2, 1, none⟩)), Fact.is (.map (some (g + 1))), Fact.is (.int .i64 (i : Int)), Fact.is (.slice (some ⟨b, o, none⟩) 64 cap), Fact.is (.pointer (some ⟨b, o, none⟩)), Fact.is (secV bs), default]
      [1, 1, 1, 1, 1, 1, 1, 1, 2] [8] [] [22, 23, 24, 25, 26, 27, 28, 29] ((fun _ _ w' => Wrote w1 w' g n (Plain.upd wr i (some bs))))
      (by kernel_rfl) (by kernel_rfl) rfl rfl ⟨?s0, ?s1, ?s2, ?s3, ?s4, ?s5, ?s6, ?s7, trivial⟩ ?late ?fin
    case s0 =>
      intro ρ W hb hc hf hr
      obtain ⟨r0, -⟩ := hr
      have e0 : ρ (.tmp 0) = .pointer (some ⟨g + 2, 0, none⟩) := r0
      clear r0
      refine under_none rfl ?_
      exact ⟨e0, Below.refl _ _⟩
    case s1 =>
      intro ρ W hb hc hf hr
      obtain ⟨r22, -⟩ := hr
      have e22 : ρ (.tmp 22) = .pointer (some ⟨g + 2, 0, none⟩) := r22
      clear r22
      refine under_none rfl ?_
      simp [execOp, e22, go_sem, softUpon, Fact.is, Below.refl]
    case s2 =>
      intro ρ W hb hc hf hr
      obtain ⟨r23, -⟩ := hr
      have e23 : ρ (.tmp 23) = .pointer (some ⟨g + 2, 0, none⟩) := r23
      clear r23
      refine under_none rfl ?_
      exact soft_field e23 rfl (fun W => by go_simp)
    case s3 =>
      intro ρ W hb hc hf hr
      obtain ⟨r24, -⟩ := hr
      have e24 : ρ (.tmp 24) = .pointer (some ⟨g + 2, 1, none⟩) := r24
      clear r24
      refine under_none rfl ?_
      exact soft_load e24 (HC1.out W (hbd.trans (hb.mono (by simp)))) rfl
    case s4 =>
      intro ρ W hb hc hf hr
      obtain ⟨r1, -⟩ := hr
      have e1 : ρ (.tmp 1) = .int .i64 (i : Int) := r1
      clear r1
      refine under_none rfl ?_
      exact ⟨e1, Below.refl _ _⟩
    case s5 =>
      intro ρ W hb hc hf hr
      obtain ⟨r2, -⟩ := hr
      have e2 : ρ (.tmp 2) = .slice (some ⟨b, o, none⟩) 64 cap := r2
      clear r2
      refine under_none rfl ?_
      exact ⟨e2, Below.refl _ _⟩
    case s6 =>
      intro ρ W hb hc hf hr
      obtain ⟨r27, -⟩ := hr
      have e27 : ρ (.tmp 27) = .slice (some ⟨b, o, none⟩) 64 cap := r27
      clear r27
      refine under_none rfl ?_
      exact soft_array e27 rfl Tryz.underlying69 (by omega)
    case s7 =>
      intro ρ W hb hc hf hr
      obtain ⟨r28, -⟩ := hr
      have e28 : ρ (.tmp 28) = .pointer (some ⟨b, o, none⟩) := r28
      clear r28
      refine under_none rfl ?_
      exact soft_load e28 (HC2.out W (hbd.trans (hb.mono (by simp)))) rfl
    case late =>
      intro p j o hj ho a W hsz h0 h1 hfr hou
      match p, hj with
      | 0, hj =>
        obtain rfl : 8 = j := Option.some.inj hj
        obtain rfl := Option.some.inj ho
        clear hj ho
        obtain ⟨hb, hhard⟩ := h0 rfl
        have e25 : a.eval (.tmp 25) = .map (some (g + 1)) := hhard 25 3 rfl rfl
        have e26 : a.eval (.tmp 26) = .int .i64 (i : Int) := hhard 26 4 rfl rfl
        have e29 : a.eval (.tmp 29) = secV bs := hhard 29 7 rfl rfl
        clear h0 h1 hhard hfr hou
        obtain ⟨w2, hrun, r1, r2⟩ := map_store hfew hin HLEN.out (ownsMap_block HMP.out ((hbd.trans (hb.mono (by simp))).block (g + 1) (by omega)))
        refine late_mapUpdate (m := .tmp 25) (x := .tmp 26) (y := .tmp 29) (w' := w2) rfl (by rw [e25, e26, e29]; exact hrun) ⟨undef, rfl, r1, ?_⟩
        exact (Kept.of (hbd.trans (hb.mono (by simp))) _).grown r2 (by simp)
      | q + 1, hj => cases hj
    case fin =>
      intro a w2 ha hP
      have HP := Lib.hid hP
      clear hP
      simp only [List.foldl_cons, List.foldl_nil] at ha
      generalize a.tmps.getD 22 undef = v22 at ha
      generalize a.tmps.getD 23 undef = v23 at ha
      generalize a.tmps.getD 24 undef = v24 at ha
      generalize a.tmps.getD 25 undef = v25 at ha
      generalize a.tmps.getD 26 undef = v26 at ha
      generalize a.tmps.getD 27 undef = v27 at ha
      generalize a.tmps.getD 28 undef = v28 at ha
      generalize a.tmps.getD 29 undef = v29 at ha
      simp only [Act.put, List.setIfInBounds_toArray, List.set_cons_succ, List.set_cons_zero] at ha
      subst ha
      go_wp2
      go_returns
      obtain ⟨r1, r2⟩ := HP.out
      have hl := HD1.out.lt
      have e4 : d.write i bs = ({ d.begin.1 with wr := Plain.upd wr i (some bs) }, 0) := by rw [HWE.out, if_neg (by simp)]
      have ok2 := HOK.out
      rw [e4] at ok2 ⊢
      refine ⟨rfl, ⟨ok2, ?_, ?_, ?_⟩, HK1.out.trans (r2.mono (by simp))⟩
      · exact r2.blk HD1.out.box (by simp)
      · exact HD1.out.kept.block (r2.block g (by omega) (by simp))
      · show w2.ownsMap _ _ _ _ d.begin.1.n (wD (Plain.upd wr i (some bs)) d.begin.1.n)
        rw [HS1.out.1]
        exact r1
  · subst h0
    have HD1 := Lib.hid hd1
    clear hd1
    go_wp2
    go_returns
    have e4 : d.write i bs = d.begin := by rw [HWE.out, if_pos (by omega)]
    rw [e4, he]
    exact ⟨rfl, HD1.out, hk1⟩
end Go.Proofs.YtehnhjnkbclnlaaGreatDoor

namespace Go.Proofs.YtehnhjnkbclnlaaGreatDoor
open Go.RowKit Go.Maps
set_option maxRecDepth 100000

/-! a sector of one's own -/
theorem wpList_allocSec {w : World} {ops : Array Oper} {rest : List Oper} {o : Oper} {a : Act} {Q : Exit → Act → World → Prop} (hg : o.guard = none) (ho : o.op = .alloc 69)
    (hK : ∀ (ZS : Array Value) (w2 : World), ZS.size = 64 → Blk w2 w.heap.size ZS 69 → Below w.heap.size w w2 → w2.heap.size = w.heap.size + 1 → wpList Tryz.prog ops Q rest (a.put o.dst (.pointer (some ⟨w.heap.size, 0, none⟩))) w2) : wpList Tryz.prog ops Q (o :: rest) a w := by
  refine wpList_plain hg fun K hK' => ?_
  have hr : (execOp a.eval o).run Tryz.prog w = .ok (.value (.pointer (some ⟨w.heap.size, 0, none⟩))) (w.alloc (.cells (cells (Plain.full 0)).toArray 69)) := by
    simp only [execOp, ho, Instr.alloc]
    simp [zeroSec w, secV, Value.cells, newVar, newRow, Result.andThen]
  unfold Oper.wp
  rw [hr]
  exact hK' _ _ (hK _ _ (by simp [cells, Plain.full]) (Blk.new w _ _) ((Below.refl _ _).alloc (Nat.le_refl _) _) (by simp))
theorem wpList_storeSec {w : World} {ops : Array Oper} {rest : List Oper} {o : Oper} {a : Act} {Q : Exit → Act → World → Prop} (hg : o.guard = none) (x y : Operand) (ho : o.op = .store 69 x y) (b : Nat) (hx : a.eval x = .pointer (some ⟨b, 0, none⟩))
    (s : List UInt8) (hs : s.length = 64) (hy : a.eval y = secV s) (cs : Array Value) (hc : cs.size = 64) (hb : Blk w b cs 69)
    (hK : ∀ w2, Blk w2 b (cells s).toArray 69 → Kept [b] w w2 → wpList Tryz.prog ops Q rest (a.put o.dst undef) w2) : wpList Tryz.prog ops Q (o :: rest) a w := by
  refine wpList_plain hg fun K hK' => ?_
  have hth : w.there b 0 64 := fun j hj => by
    refine ⟨?_, hb.frozen _⟩
    rw [hb.cell]
    simp
    omega
  have hr := run_storeSec w b 0 s hs hth
  unfold Oper.wp
  simp [execOp, ho, hx, hy, hr, Result.andThen]
  exact hK' _ _ (hK _ (hb.whole hc hs) ((Kept.refl _ _).setCells (by simp) _ _))

/-- bytes that are handed out, or none, and an error -/
def GivesB (w : World) (bs : List UInt8) (er : Nat) (e : Ending) (w' : World) : Prop :=
  ∃ A cap, e = .returned (.tuple #[.slice A bs.length cap, .int .i64 (er : Int)]) ∧ bs.length ≤ cap ∧ cap ≤ maxLen ∧ (bs ≠ [] → ∃ b t cs, A = some ⟨b, 0, none⟩ ∧ w.heap.size ≤ b ∧ Blk w' b cs t ∧ cs.toList.take bs.length = cells bs) ∧ Below w.heap.size w w'
theorem GivesB.none (w : World) (er : Nat) : GivesB w [] er (.returned (.tuple #[.slice none 0 0, .int .i64 (er : Int)])) w :=
  ⟨Option.none, 0, rfl, Nat.le_refl _, by unfold maxLen; omega, fun h => absurd rfl h, Below.refl _ _⟩
theorem lookup_is {W : World} {g n i : Nat} {wr : Nat → Option (List UInt8)} (hi : i < n) (hn : n ≤ 4096) (h : W.ownsMap Tryz.prog 3 secElem (g + 1) n (wD wr n)) (ok : Bool) :
    ∃ s, (Instr.lookup 58 (.map (some (g + 1))) (.int .i64 (i : Int)) ok).run Tryz.prog W = .ok (if ok = true then .tuple #[secV s, .bool (wr i).isSome] else secV s) W ∧ s.length = 64 ∧ ∀ t, wr i = some t → s = t := by
  have hk := keyI i (by omega)
  have hz := zeroSec W
  have hzd := secElem_mk (Plain.full 0) (Plain.full_length 0)
  have key : ∀ (v : Value) ps, secElem v = some ((wD wr n).atKey (.int .i64 (i : Int)) (.held (Plain.full 0)), ps) → ∃ s, v = secV s ∧ s.length = 64 ∧ ∀ t, wr i = some t → s = t := by
    intro v ps hv
    obtain ⟨s, hs, rfl, e⟩ := secElem_inv hv
    refine ⟨s, rfl, hs, fun t ht => ?_⟩
    rw [wD_at hi ht] at e
    injection e with e1 _
    injection e1 with e1
    exact e1.symm
  cases ok with
  | true =>
    obtain ⟨v, ps, hrun, hv⟩ := h.look_ok keyedI Tryz.underlying58 hz hzd hk
    obtain ⟨s, rfl, h2, h3⟩ := key v ps hv
    rw [wD_hasB _ _ _ hi] at hrun
    exact ⟨s, hrun, h2, h3⟩
  | false =>
    obtain ⟨v, ps, hrun, hv⟩ := h.lookup keyedI Tryz.underlying58 hz hzd hk
    obtain ⟨s, rfl, h2, h3⟩ := key v ps hv
    exact ⟨s, hrun, h2, h3⟩
theorem run_indexSec0 (W : World) (ad : Addr) (n cap k : Nat) (hk : k < n) : (Instr.indexAt 57 (.slice (some ad) n cap) (.int .i64 (k : Int))).run Tryz.prog W = .ok (.pointer (some (ad.add (k * 64)))) W := by
  go_simp
theorem run_indexSec (W : World) (g n i : Nat) (hi : i < n) : (Instr.indexAt 57 (.slice (some ⟨g, 0, none⟩) n n) (.int .i64 (i : Int))).run Tryz.prog W = .ok (.pointer (some ⟨g, i * 64, none⟩)) W := by
  have := run_indexSec0 W ⟨g, 0, none⟩ n n i hi
  rwa [Addr.add_mid, Nat.zero_add] at this
theorem wpList_loadSec {w : World} {ops : Array Oper} {rest : List Oper} {o : Oper} {a : Act} {Q : Exit → Act → World → Prop} (hg : o.guard = none) (x : Operand) (ho : o.op = .load 69 x) (b off : Nat) (hx : a.eval x = .pointer (some ⟨b, off, none⟩))
    (s : List UInt8) (hs : s.length = 64) (hr : w.rangeAt b off (cells s)) (hK : wpList Tryz.prog ops Q rest (a.put o.dst (secV s)) w) : wpList Tryz.prog ops Q (o :: rest) a w := by
  refine wpList_plain hg fun K hK' => ?_
  have hr := run_loadSec w b off s hs hr
  unfold Oper.wp
  simp [execOp, ho, hx, hr, Result.andThen]
  exact hK' _ _ hK
theorem run_sliceSec (W : World) (b : Nat) : (Instr.sliceAt 69 (.pointer (some ⟨b, 0, none⟩)) none none none).run Tryz.prog W = .ok (.slice (some ⟨b, 0, none⟩) 64 64) W := by
  go_simp

set_option maxHeartbeats 1000000 in
theorem read_any (w : World) (g : Nat) (d : Plain.Dv) (i : Int) (h : IsDev w g d) :
    Calls Tryz.prog 42 #[.pointer (some ⟨g + 2, 0, none⟩), .int .i64 i] w (GivesB w (d.read i).1 (d.read i).2) := by
  have c2 : w.cell? ⟨g + 2, 2, none⟩ = some (.bool d.down) := h.box.cell 2
  have HE := Lib.hid (show d.read i = if d.has i = false then ([], 1) else if d.down = true then ([], 71) else (d.sec i.toNat, 0) from rfl)
  cases hh : d.has i with
  | false =>
    have HH := Lib.hid (has_is w g d i false hh h)
    have HE2 := Lib.hid (show d.read i = ([], 1) by rw [HE.out, if_pos hh])
    clear hh h HE
    go_enter Tryz.func42, Tryz.ntmps42
    go_wp2_with fail
    refine HH.out.mono ?_
    rintro e w' ⟨rfl, rfl⟩
    go_wp2
    go_returns
    rw [HE2.out]
    exact GivesB.none w 1
  | true =>
    have HH := Lib.hid (has_is w g d i true hh h)
    obtain ⟨hi0, hi1⟩ := (d.has_iff i).1 hh
    obtain ⟨i, rfl⟩ := Int.eq_ofNat_of_zero_le hi0
    have hin : i < d.n := by omega
    cases hdn : d.down with
    | true =>
      rw [hdn] at c2
      have HE2 := Lib.hid (show d.read i = ([], 71) by rw [HE.out, if_neg (by simp [hh]), if_pos hdn])
      clear hh h HE hdn
      go_enter Tryz.func42, Tryz.ntmps42
      go_wp2_with fail
      refine HH.out.mono ?_
      rintro e w' ⟨rfl, rfl⟩
      go_wp2
      go_returns
      rw [HE2.out]
      exact GivesB.none w 71
    | false =>
      rw [hdn] at c2
      have HE2 := Lib.hid (show d.read i = (d.sec i, 0) by rw [HE.out, if_neg (by simp [hh]), if_neg (by simp [hdn])]; rfl)
      have hsl := h.ok.few
      have HSEC := Lib.hid (show d.sec i = (d.wr i).getD (d.kept i) from rfl)
      have HSL := Lib.hid (d.sec_length h.ok i hin)
      have HKL := Lib.hid (h.ok.kept i hin)
      have c0 : w.cell? ⟨g + 2, 0, none⟩ = some (.slice (some ⟨g, 0, none⟩) d.n d.n) := h.box.cell 0
      have c1 : w.cell? ⟨g + 2, 1, none⟩ = some (.map (some (g + 1))) := h.box.cell 1
      obtain ⟨s, hlk, hs, hst⟩ := lookup_is hin hsl h.map true
      rw [if_pos rfl] at hlk
      have hz := h.lt
      have HKR := Lib.hid (fun (W : World) (hW : Below w.heap.size w W) => rangeAt_block (h.kept.range hin) (hW.block g (by omega)))
      have HC0 := Lib.hid (fun (W : World) (hW : Below w.heap.size w W) => (hW.cell (p := ⟨g + 2, 0, none⟩) h.lt).trans c0)
      have hsl2 := run_sliceSec
      have HS := Lib.hid hs
      have HST := Lib.hid hst
      obtain ⟨B, hB⟩ : ∃ B, (d.wr i).isSome = B := ⟨_, rfl⟩
      have HB := Lib.hid hB
      rw [hB] at hlk
      have hi0' : (0 : Int) ≤ (i : Int) := by omega
      clear hh h HE hdn hs hst hB hi0 c0
      go_enter Tryz.func42, Tryz.ntmps42
      go_wp2_with fail
      refine HH.out.mono ?_
      rintro e w' ⟨rfl, rfl⟩
      rcases B with _ | _
      · go_wp2_with (first
          | (refine wpList_allocSec rfl rfl ?_; intro ZS w2 hZ hb2 hB2 hz2)
          | (refine wpList_storeSec rfl _ _ rfl _ rfl s HS.out rfl _ hZ hb2 ?_; intro w3 hb3 hk3; have hB3 := hk3.below hB2 (by simp); have c0 := HC0.out w3 hB3; clear hb2)
          | (refine wpList_loadSec rfl _ rfl g (i * 64) rfl (d.kept i) HKL.out (HKR.out w3 hB3) ?_)
          | (refine wpList_storeSec rfl _ _ rfl _ rfl (d.kept i) HKL.out rfl _ (by simp [cells_length, HS.out]) hb3 ?_; intro w4 hb4 hk4; have hB4 := hk4.below hB3 (by simp); clear hb3))
        go_ret2
        rw [HE2.out]
        have e : d.sec i = d.kept i := by
          rw [HSEC.out]
          have := HB.out
          cases hw : d.wr i with
          | none => rfl
          | some t => rw [hw] at this; cases this
        refine ⟨some ⟨w.heap.size, 0, none⟩, 64, by rw [HSL.out]; rfl, by rw [HSL.out]; exact Nat.le_refl _, by unfold maxLen; omega, fun _ => ⟨_, _, _, rfl, Nat.le_refl _, hb4, ?_⟩, hB4⟩
        rw [e]
        exact List.take_of_length_le (by simp [cells_length])
      · go_wp2_with (first
          | (refine wpList_allocSec rfl rfl ?_; intro ZS w2 hZ hb2 hB2 hz2)
          | (refine wpList_storeSec rfl _ _ rfl _ rfl s HS.out rfl _ hZ hb2 ?_; intro w3 hb3 hk3; have hB3 := hk3.below hB2 (by simp); clear hb2))
        go_ret2
        rw [HE2.out]
        have e : d.sec i = s := by
          rw [HSEC.out]
          obtain ⟨t, ht⟩ := Option.isSome_iff_exists.1 HB.out
          rw [ht, HST.out t ht]; rfl
        refine ⟨some ⟨w.heap.size, 0, none⟩, 64, by rw [HSL.out]; rfl, by rw [HSL.out]; exact Nat.le_refl _, by unfold maxLen; omega, fun _ => ⟨_, _, _, rfl, Nat.le_refl _, hb3, ?_⟩, hB3⟩
        rw [e]
        exact List.take_of_length_le (by simp [cells_length])
end Go.Proofs.YtehnhjnkbclnlaaGreatDoor
