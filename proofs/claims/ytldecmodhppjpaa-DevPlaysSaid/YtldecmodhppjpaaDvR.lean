/-
  Layer 7: dev.Read: what it answers: bytes of one's own. Nothing is assumed.
-/
import Derived.Test.YtldecmodhppjpaaDvA
import Derived.Test.YtldecmodhppjpaaLat

namespace Go.Proofs.Ytldecmodhppjpaa
open Go.RowKit Go.Maps
set_option maxRecDepth 100000

/-! a sector of one's own -/
theorem Blk.whole {w : World} {b : Nat} {cs : Array Value} {t : TypeId} {s : List UInt8} (h : Blk w b cs t) (hc : cs.size = 64) (hs : s.length = 64) : Blk (w.setCells b 0 (cells s)) b (cells s).toArray t := by
  obtain ⟨cs', h1, h2⟩ := h.setCells (cells s) 0
  have hth : w.there b 0 (cells s).length := fun j hj => by
    rw [cells_length, hs] at hj
    refine ⟨?_, h.frozen _⟩
    rw [h.cell]
    simp
    omega
  have hr := World.rangeAt_setCells_same w b 0 (cells s) hth
  have e : cs' = (cells s).toArray := by
    apply Array.ext_getElem?
    intro j
    rcases Nat.lt_or_ge j 64 with hj | hj
    · have hj2 : j < (cells s).length := by rw [cells_length, hs]; exact hj
      have := hr j _ (List.getElem?_eq_getElem hj2)
      rw [h1.cell, Nat.zero_add] at this
      rw [this]
      simp [hj2]
    · rw [Array.getElem?_eq_none (by omega), Array.getElem?_eq_none (by simp [cells_length, hs]; exact hj)]
  rw [← e]
  exact h1
theorem wpList_allocSec {w : World} {ops : Array Oper} {rest : List Oper} {o : Oper} {a : Act} {Q : Exit → Act → World → Prop} (hg : o.guard = none) (ho : o.op = .alloc 66)
    (hK : ∀ (ZS : Array Value) (w2 : World), ZS.size = 64 → Blk w2 w.heap.size ZS 66 → Below w.heap.size w w2 → w2.heap.size = w.heap.size + 1 → wpList Try.prog ops Q rest (a.put o.dst (.pointer (some ⟨w.heap.size, 0, none⟩))) w2) : wpList Try.prog ops Q (o :: rest) a w := by
  refine wpList_plain hg fun K hK' => ?_
  have hr : (execOp a.eval o).run Try.prog w = .ok (.value (.pointer (some ⟨w.heap.size, 0, none⟩))) (w.alloc (.cells (cells (Plain.full 0)).toArray 66)) := by
    simp only [execOp, ho, Instr.alloc]
    simp [zeroSec w, secV, Value.cells, newVar, newRow, Result.andThen]
  unfold Oper.wp
  rw [hr]
  exact hK' _ _ (hK _ _ (by simp [cells, Plain.full]) (Blk.new w _ _) ((Below.refl _ _).alloc (Nat.le_refl _) _) (by simp))
theorem wpList_storeSec {w : World} {ops : Array Oper} {rest : List Oper} {o : Oper} {a : Act} {Q : Exit → Act → World → Prop} (hg : o.guard = none) (x y : Operand) (ho : o.op = .store 66 x y) (b : Nat) (hx : a.eval x = .pointer (some ⟨b, 0, none⟩))
    (s : List UInt8) (hs : s.length = 64) (hy : a.eval y = secV s) (cs : Array Value) (hc : cs.size = 64) (hb : Blk w b cs 66)
    (hK : ∀ w2, Blk w2 b (cells s).toArray 66 → Kept [b] w w2 → wpList Try.prog ops Q rest (a.put o.dst undef) w2) : wpList Try.prog ops Q (o :: rest) a w := by
  refine wpList_plain hg fun K hK' => ?_
  have hth : w.there b 0 64 := fun j hj => by
    refine ⟨?_, hb.frozen _⟩
    rw [hb.cell]
    simp
    omega
  have hr := run_storeSec w b 0 s hs hth
  unfold Oper.wp
  simp [execOp, ho, hx, hy, hr, Result.andThen]
  exact hK' _ _ (hK _ (hb.whole hc hs) ((Kept.refl _ _).setCells (by simp) _ _))

/-- bytes that are handed out, or none, and an error -/
def GivesB (w : World) (bs : List UInt8) (er : Nat) (e : Ending) (w' : World) : Prop :=
  ∃ A cap, e = .returned (.tuple #[.slice A bs.length cap, .int .i64 (er : Int)]) ∧ bs.length ≤ cap ∧ cap ≤ maxLen ∧ (bs ≠ [] → ∃ b t cs, A = some ⟨b, 0, none⟩ ∧ w.heap.size ≤ b ∧ Blk w' b cs t ∧ cs.toList.take bs.length = cells bs) ∧ Below w.heap.size w w'
theorem GivesB.none (w : World) (er : Nat) : GivesB w [] er (.returned (.tuple #[.slice none 0 0, .int .i64 (er : Int)])) w :=
  ⟨Option.none, 0, rfl, Nat.le_refl _, by unfold maxLen; omega, fun h => absurd rfl h, Below.refl _ _⟩
theorem lookup_is {W : World} {g n i : Nat} {wr : Nat → Option (List UInt8)} (hi : i < n) (hn : n ≤ 4096) (h : W.ownsMap Try.prog 3 secElem (g + 1) n (wD wr n)) (ok : Bool) :
    ∃ s, (Instr.lookup 58 (.map (some (g + 1))) (.int .i64 (i : Int)) ok).run Try.prog W = .ok (if ok = true then .tuple #[secV s, .bool (wr i).isSome] else secV s) W ∧ s.length = 64 ∧ ∀ t, wr i = some t → s = t := by
  have hk := keyI i (by omega)
  have hz := zeroSec W
  have hzd := secElem_mk (Plain.full 0) (Plain.full_length 0)
  have key : ∀ (v : Value) ps, secElem v = some ((wD wr n).atKey (.int .i64 (i : Int)) (.held (Plain.full 0)), ps) → ∃ s, v = secV s ∧ s.length = 64 ∧ ∀ t, wr i = some t → s = t := by
    intro v ps hv
    obtain ⟨s, hs, rfl, e⟩ := secElem_inv hv
    refine ⟨s, rfl, hs, fun t ht => ?_⟩
    rw [wD_at hi ht] at e
    injection e with e1 _
    injection e1 with e1
    exact e1.symm
  cases ok with
  | true =>
    obtain ⟨v, ps, hrun, hv⟩ := h.look_ok keyedI Try.underlying58 hz hzd hk
    obtain ⟨s, rfl, h2, h3⟩ := key v ps hv
    rw [wD_hasB _ _ _ hi] at hrun
    exact ⟨s, hrun, h2, h3⟩
  | false =>
    obtain ⟨v, ps, hrun, hv⟩ := h.lookup keyedI Try.underlying58 hz hzd hk
    obtain ⟨s, rfl, h2, h3⟩ := key v ps hv
    exact ⟨s, hrun, h2, h3⟩
theorem run_indexSec0 (W : World) (ad : Addr) (n cap k : Nat) (hk : k < n) : (Instr.indexAt 57 (.slice (some ad) n cap) (.int .i64 (k : Int))).run Try.prog W = .ok (.pointer (some (ad.add (k * 64)))) W := by
  go_simp
theorem run_indexSec (W : World) (g n i : Nat) (hi : i < n) : (Instr.indexAt 57 (.slice (some ⟨g, 0, none⟩) n n) (.int .i64 (i : Int))).run Try.prog W = .ok (.pointer (some ⟨g, i * 64, none⟩)) W := by
  have := run_indexSec0 W ⟨g, 0, none⟩ n n i hi
  rwa [Addr.add_mid, Nat.zero_add] at this
theorem wpList_loadSec {w : World} {ops : Array Oper} {rest : List Oper} {o : Oper} {a : Act} {Q : Exit → Act → World → Prop} (hg : o.guard = none) (x : Operand) (ho : o.op = .load 66 x) (b off : Nat) (hx : a.eval x = .pointer (some ⟨b, off, none⟩))
    (s : List UInt8) (hs : s.length = 64) (hr : w.rangeAt b off (cells s)) (hK : wpList Try.prog ops Q rest (a.put o.dst (secV s)) w) : wpList Try.prog ops Q (o :: rest) a w := by
  refine wpList_plain hg fun K hK' => ?_
  have hr := run_loadSec w b off s hs hr
  unfold Oper.wp
  simp [execOp, ho, hx, hr, Result.andThen]
  exact hK' _ _ hK
theorem run_sliceSec (W : World) (b : Nat) : (Instr.sliceAt 66 (.pointer (some ⟨b, 0, none⟩)) none none none).run Try.prog W = .ok (.slice (some ⟨b, 0, none⟩) 64 64) W := by
  go_simp

set_option maxHeartbeats 1000000 in
theorem read_any (w : World) (g : Nat) (d : Plain.Dv) (i : Int) (h : IsDev w g d) :
    Calls Try.prog 17 #[.pointer (some ⟨g + 2, 0, none⟩), .int .i64 i] w (GivesB w (d.read i).1 (d.read i).2) := by
  have c2 : w.cell? ⟨g + 2, 2, none⟩ = some (.bool d.down) := h.box.cell 2
  have HE := Lib.hid (show d.read i = if d.has i = false then ([], 1) else if d.down = true then ([], 71) else (d.sec i.toNat, 0) from rfl)
  cases hh : d.has i with
  | false =>
    have HH := Lib.hid (has_is w g d i false hh h)
    have HE2 := Lib.hid (show d.read i = ([], 1) by rw [HE.out, if_pos hh])
    clear hh h HE
    go_enter Try.func17, Try.ntmps17
    go_wp2_with fail
    refine HH.out.mono ?_
    rintro e w' ⟨rfl, rfl⟩
    go_wp2
    go_returns
    rw [HE2.out]
    exact GivesB.none w 1
  | true =>
    have HH := Lib.hid (has_is w g d i true hh h)
    obtain ⟨hi0, hi1⟩ := (d.has_iff i).1 hh
    obtain ⟨i, rfl⟩ := Int.eq_ofNat_of_zero_le hi0
    have hin : i < d.n := by omega
    cases hdn : d.down with
    | true =>
      rw [hdn] at c2
      have HE2 := Lib.hid (show d.read i = ([], 71) by rw [HE.out, if_neg (by simp [hh]), if_pos hdn])
      clear hh h HE hdn
      go_enter Try.func17, Try.ntmps17
      go_wp2_with fail
      refine HH.out.mono ?_
      rintro e w' ⟨rfl, rfl⟩
      go_wp2
      go_returns
      rw [HE2.out]
      exact GivesB.none w 71
    | false =>
      rw [hdn] at c2
      have HE2 := Lib.hid (show d.read i = (d.sec i, 0) by rw [HE.out, if_neg (by simp [hh]), if_neg (by simp [hdn])]; rfl)
      have hsl := h.ok.few
      have HSEC := Lib.hid (show d.sec i = (d.wr i).getD (d.kept i) from rfl)
      have HSL := Lib.hid (d.sec_length h.ok i hin)
      have HKL := Lib.hid (h.ok.kept i hin)
      have c0 : w.cell? ⟨g + 2, 0, none⟩ = some (.slice (some ⟨g, 0, none⟩) d.n d.n) := h.box.cell 0
      have c1 : w.cell? ⟨g + 2, 1, none⟩ = some (.map (some (g + 1))) := h.box.cell 1
      obtain ⟨s, hlk, hs, hst⟩ := lookup_is hin hsl h.map true
      rw [if_pos rfl] at hlk
      have hz := h.lt
      have HKR := Lib.hid (fun (W : World) (hW : Below w.heap.size w W) => rangeAt_block (h.kept.range hin) (hW.block g (by omega)))
      have HC0 := Lib.hid (fun (W : World) (hW : Below w.heap.size w W) => (hW.cell (p := ⟨g + 2, 0, none⟩) h.lt).trans c0)
      have hsl2 := run_sliceSec
      have HS := Lib.hid hs
      have HST := Lib.hid hst
      obtain ⟨B, hB⟩ : ∃ B, (d.wr i).isSome = B := ⟨_, rfl⟩
      have HB := Lib.hid hB
      rw [hB] at hlk
      have hi0' : (0 : Int) ≤ (i : Int) := by omega
      clear hh h HE hdn hs hst hB hi0 c0
      go_enter Try.func17, Try.ntmps17
      go_wp2_with fail
      refine HH.out.mono ?_
      rintro e w' ⟨rfl, rfl⟩
      rcases B with _ | _
      · go_wp2_with (first
          | (refine wpList_allocSec rfl rfl ?_; intro ZS w2 hZ hb2 hB2 hz2)
          | (refine wpList_storeSec rfl _ _ rfl _ rfl s HS.out rfl _ hZ hb2 ?_; intro w3 hb3 hk3; have hB3 := hk3.below hB2 (by simp); have c0 := HC0.out w3 hB3; clear hb2)
          | (refine wpList_loadSec rfl _ rfl g (i * 64) rfl (d.kept i) HKL.out (HKR.out w3 hB3) ?_)
          | (refine wpList_storeSec rfl _ _ rfl _ rfl (d.kept i) HKL.out rfl _ (by simp [cells_length, HS.out]) hb3 ?_; intro w4 hb4 hk4; have hB4 := hk4.below hB3 (by simp); clear hb3))
        go_ret2
        rw [HE2.out]
        have e : d.sec i = d.kept i := by
          rw [HSEC.out]
          have := HB.out
          cases hw : d.wr i with
          | none => rfl
          | some t => rw [hw] at this; cases this
        refine ⟨some ⟨w.heap.size, 0, none⟩, 64, by rw [HSL.out]; rfl, by rw [HSL.out]; exact Nat.le_refl _, by unfold maxLen; omega, fun _ => ⟨_, _, _, rfl, Nat.le_refl _, hb4, ?_⟩, hB4⟩
        rw [e]
        exact List.take_of_length_le (by simp [cells_length])
      · go_wp2_with (first
          | (refine wpList_allocSec rfl rfl ?_; intro ZS w2 hZ hb2 hB2 hz2)
          | (refine wpList_storeSec rfl _ _ rfl _ rfl s HS.out rfl _ hZ hb2 ?_; intro w3 hb3 hk3; have hB3 := hk3.below hB2 (by simp); clear hb2))
        go_ret2
        rw [HE2.out]
        have e : d.sec i = s := by
          rw [HSEC.out]
          obtain ⟨t, ht⟩ := Option.isSome_iff_exists.1 HB.out
          rw [ht, HST.out t ht]; rfl
        refine ⟨some ⟨w.heap.size, 0, none⟩, 64, by rw [HSL.out]; rfl, by rw [HSL.out]; exact Nat.le_refl _, by unfold maxLen; omega, fun _ => ⟨_, _, _, rfl, Nat.le_refl _, hb3, ?_⟩, hB3⟩
        rw [e]
        exact List.take_of_length_le (by simp [cells_length])
end Go.Proofs.Ytldecmodhppjpaa
