/-
  DvA: Layer 7: dev.New, Size, Done, Down, has, begin, Cut: what they answer, and how the device stands then. Nothing is assumed but that fewer than 2^62 things were done.
  Lat: Stores into blocks and maps as the last operation of a statement whose order is open; bytes that lie elsewhere. Nothing is assumed.
-/
import Derived.Test.YtehnhjnkbclnlaaGreatDoorDvs
import Derived.Test.YtehnhjnkbclnlaaGreatDoorSec
import Derived.Maps.OwnSet

namespace Go.Proofs.YtehnhjnkbclnlaaGreatDoor
open Go.RowKit Go.Maps
set_option maxRecDepth 100000

theorem newDev_no (n : Int) (w : World) (h : n < 1 ∨ 4096 < n) : Calls Tryz.prog 6 #[.int .i64 n] w fun e w' => e = .returned (.pointer none) ∧ w = w' := by
  go_enter Tryz.func6, Tryz.ntmps6
  rcases h with h | h
  · have h1 : decide (n < 1) = true := by simpa using h
    go_wp2
    go_returns
    exact ⟨rfl, rfl⟩
  · have h1 : decide (n < 1) = false := by simp; omega
    have h2 : decide (4096 < n) = true := by simpa using h
    go_wp2
    go_returns
    exact ⟨rfl, rfl⟩
set_option maxHeartbeats 1000000 in
theorem newDev_yes (n : Nat) (w : World) (h1 : 1 ≤ n) (h2 : n ≤ 4096) : Calls Tryz.prog 6 #[.int .i64 (n : Int)] w fun e w' => e = .returned (.pointer (some ⟨w.heap.size + 2, 0, none⟩)) ∧ IsDev w' w.heap.size (Plain.Dv.new n) ∧ Below w.heap.size w w' := by
  obtain ⟨i0, hi, hz0, hz1, hz2⟩ := info_parts infoSec
  have t1 : decide ((n : Int) < 1) = false := by simp; omega
  have t2 : decide ((4096 : Int) < (n : Int)) = false := by simp; omega
  have hmk : ∀ W : World, (Instr.makeSlice 57 (.int .i64 (n : Int)) (.int .i64 (n : Int))).run Tryz.prog W = .ok (.slice (some ⟨W.heap.size, 0, none⟩) n n) (W.alloc (.cells (madeCells (cells (Plain.full 0)).toArray (n * 64)) 69)) := fun W => by
    have := run_make (P := Tryz.prog) W 57 69 i0 _ Tryz.underlying57 hi hz0 .i64 .i64 (n : Int) (n : Int) (by omega) (by omega) (by rw [hz2]; omega) (by omega)
    simp only [Int.toNat_natCast, hz1] at this
    simpa [secV, Value.cells] using this
  have hmm := @run_makeMap Tryz.prog
  have k0 := Kb.made w n
  generalize madeCells (cells (Plain.full 0)).toArray (n * 64) = CS at *
  have HK := Lib.hid k0
  clear k0 hi hz0 hz1 hz2
  go_enter Tryz.func6, Tryz.ntmps6
  go_wp2
  go_returns
  have hB : Below w.heap.size w (((w.alloc (.cells CS 69)).alloc (.map #[] 0)).alloc (.cells #[.slice (some ⟨w.heap.size, 0, none⟩) n n, .map (some (w.heap.size + 1)), .bool false, .bool false, .int .i64 0, .int .i64 0] 60)) :=
    (((Below.refl _ _).alloc (Nat.le_refl _) _).alloc (by simp) _).alloc (by simp; omega) _
  refine ⟨rfl, ⟨Plain.Dv.new_ok n h1 h2, ?_, ?_, ?_⟩, hB⟩
  · have := Blk.new ((w.alloc (.cells CS 69)).alloc (.map #[] 0)) #[.slice (some ⟨w.heap.size, 0, none⟩) n n, .map (some (w.heap.size + 1)), .bool false, .bool false, .int .i64 0, .int .i64 0] 60
    simpa [Plain.Dv.new] using this
  · exact HK.out.block (by
      rw [Below.heap_alloc _ _ _ (by simp; omega), Below.heap_alloc _ _ _ (by simp)])
  · have hm := World.ownsMap_made (w.alloc (.cells CS 69)) Tryz.prog 3 secElem
    rw [show wD (Plain.Dv.new n).wr (Plain.Dv.new n).n = .map [] from wD_empty n]
    have h3 := (hm.mono (Nat.zero_le n)).alloc (.cells #[.slice (some ⟨w.heap.size, 0, none⟩) n n, .map (some (w.heap.size + 1)), .bool false, .bool false, .int .i64 0, .int .i64 0] 60)
    simpa [Plain.Dv.new] using h3

section
variable (w : World) (g : Nat) (d : Plain.Dv)
theorem done_any (h : IsDev w g d) : Calls Tryz.prog 19 #[.pointer (some ⟨g + 2, 0, none⟩)] w fun e w' => e = .returned (.int .i64 (d.done : Int)) ∧ w = w' := by
  have c0 : w.cell? ⟨g + 2, 5, none⟩ = some (.int .i64 (d.done : Int)) := h.box.cell 5
  go_enter Tryz.func19, Tryz.ntmps19
  go_wp2
  go_returns
  exact ⟨rfl, rfl⟩
theorem has_is (i : Int) (b : Bool) (hb : d.has i = b) (h : IsDev w g d) : Calls Tryz.prog 38 #[.pointer (some ⟨g + 2, 0, none⟩), .int .i64 i] w fun e w' => e = .returned (.bool b) ∧ w = w' := by
  have c0 : w.cell? ⟨g + 2, 0, none⟩ = some (.slice (some ⟨g, 0, none⟩) d.n d.n) := h.box.cell 0
  rcases b with _ | _
  · have hn : ¬ (0 ≤ i ∧ i < d.n) := fun e => by rw [(d.has_iff i).2 e] at hb; cases hb
    clear hb
    by_cases h0 : 0 ≤ i
    · have t0 : decide (0 ≤ i) = true := by simpa using h0
      have t1 : decide (i < (d.n : Int)) = false := by simp; omega
      go_enter Tryz.func38, Tryz.ntmps38
      go_wp2
      go_returns
      exact ⟨rfl, rfl⟩
    · have t0 : decide (0 ≤ i) = false := by simpa using h0
      go_enter Tryz.func38, Tryz.ntmps38
      go_wp2
      go_returns
      exact ⟨rfl, rfl⟩
  · obtain ⟨h0, h1⟩ := (d.has_iff i).1 hb
    clear hb
    have t0 : decide (0 ≤ i) = true := by simpa using h0
    have t1 : decide (i < (d.n : Int)) = true := by simpa using h1
    go_enter Tryz.func38, Tryz.ntmps38
    go_wp2
    go_returns
    exact ⟨rfl, rfl⟩

/-- the box written -/
theorem IsDev.boxed {w w' : World} {g : Nat} {d d' : Plain.Dv} (h : IsDev w g d) (k : Kept [g + 2] w w') (hn : d'.n = d.n) (hk : d'.kept = d.kept) (hw : d'.wr = d.wr) (ho : d'.Ok)
    (hb : Blk w' (g + 2) #[.slice (some ⟨g, 0, none⟩) d'.n d'.n, .map (some (g + 1)), .bool d'.down, .bool d'.cut, .int .i64 (d'.left : Int), .int .i64 (d'.done : Int)] 60) : IsDev w' g d' := by
  have hl := h.lt
  refine ⟨ho, hb, ?_, ?_⟩
  · rw [hn, hk]; exact h.kept.block (k.block g (by omega) (by simp))
  · rw [hn, hw]; exact ownsMap_block h.map (k.block (g + 1) (by omega) (by simp))

set_option maxHeartbeats 1000000 in
theorem begin_any (h : IsDev w g d) (hd : d.done < 4611686018427387904) :
    Calls Tryz.prog 39 #[.pointer (some ⟨g + 2, 0, none⟩)] w fun e w' => e = .returned (.int .i64 (d.begin.2 : Int)) ∧ IsDev w' g d.begin.1 ∧ Kept [g + 2] w w' := by
  have c2 : w.cell? ⟨g + 2, 2, none⟩ = some (.bool d.down) := h.box.cell 2
  have c3 : w.cell? ⟨g + 2, 3, none⟩ = some (.bool d.cut) := h.box.cell 3
  have c4 : w.cell? ⟨g + 2, 4, none⟩ = some (.int .i64 (d.left : Int)) := h.box.cell 4
  have c5 : w.cell? ⟨g + 2, 5, none⟩ = some (.int .i64 (d.done : Int)) := h.box.cell 5
  have f2 := h.box.frozen 2
  have f4 := h.box.frozen 4
  have f5 := h.box.frozen 5
  have hB := h.box
  have hok := d.begin_ok h.ok
  obtain ⟨e1, e2, e3, -⟩ := d.begin_same
  have hleft := h.ok.left
  have HD := Lib.hid h
  have HE := Lib.hid (show d.begin = if d.down = true then (d, 71) else if d.cut = true ∧ d.left = 0 then ({ d with down := true }, 71) else ({ d with left := if d.cut = true then d.left - 1 else d.left, done := d.done + 1 }, 0) from rfl)
  have HR := Lib.hid (show ∀ w', Kept [g + 2] w w' → Blk w' (g + 2) #[.slice (some ⟨g, 0, none⟩) d.n d.n, .map (some (g + 1)), .bool d.begin.1.down, .bool d.begin.1.cut, .int .i64 (d.begin.1.left : Int), .int .i64 (d.begin.1.done : Int)] 60 → IsDev w' g d.begin.1 from fun w' k hb => by
    refine h.boxed k e1 e2 e3 hok ?_
    rw [e1]; exact hb)
  clear hok e1 e2 e3 h
  obtain ⟨n, K, wr, dn, ct, lf, dne⟩ := d
  simp only at c2 c3 c4 c5 hB hleft hd
  rcases dn with _ | _
  · rcases ct with _ | _
    · -- not to be cut
      have hs5 := Lib.hid (hB.set 5 (.int .i64 ((dne : Int) + 1)))
      have hE := HE.out
      have HE2 := Lib.hid (show (Plain.Dv.begin ⟨n, K, wr, false, false, lf, dne⟩) = (⟨n, K, wr, false, false, lf, dne + 1⟩, 0) by rw [hE]; simp)
      clear hE
      go_enter Tryz.func39, Tryz.ntmps39
      go_wp2
      go_returns
      have k1 : Kept [g + 2] w (w.setCell ⟨g + 2, 5, none⟩ (.int .i64 ((dne : Int) + 1))) := (Kept.refl _ _).setCell (by simp) _
      refine ⟨by rw [HE2.out]; rfl, HR.out _ k1 ?_, k1⟩
      rw [HE2.out]
      simpa using hs5.out
    · by_cases h0 : lf = 0
      · subst h0
        have hs2 := Lib.hid (hB.set 2 (.bool true))
        have hE := HE.out
        have HE2 := Lib.hid (show (Plain.Dv.begin ⟨n, K, wr, false, true, 0, dne⟩) = (⟨n, K, wr, true, true, 0, dne⟩, 71) by rw [hE]; simp)
        clear hE
        go_enter Tryz.func39, Tryz.ntmps39
        go_wp2
        go_returns
        have k1 : Kept [g + 2] w (w.setCell ⟨g + 2, 2, none⟩ (.bool true)) := (Kept.refl _ _).setCell (by simp) _
        refine ⟨by rw [HE2.out]; rfl, HR.out _ k1 ?_, k1⟩
        rw [HE2.out]
        simpa using hs2.out
      · have hs4 := Lib.hid ((hB.set 4 (.int .i64 ((lf : Int) - 1))).set 5 (.int .i64 ((dne : Int) + 1)))
        have t0 : ((lf : Int) == 0) = false := beq_eq_false_iff_ne.2 (by omega)
        have hE := HE.out
        have HE2 := Lib.hid (show (Plain.Dv.begin ⟨n, K, wr, false, true, lf, dne⟩) = (⟨n, K, wr, false, true, lf - 1, dne + 1⟩, 0) by rw [hE]; simp [h0])
        have h1 : (1 : Int) ≤ (lf : Int) := by omega
        clear hE
        go_enter Tryz.func39, Tryz.ntmps39
        go_wp2
        go_returns
        have k1 : Kept [g + 2] w ((w.setCell ⟨g + 2, 4, none⟩ (.int .i64 ((lf : Int) - 1))).setCell ⟨g + 2, 5, none⟩ (.int .i64 ((dne : Int) + 1))) := ((Kept.refl _ _).setCell (by simp) _).setCell (by simp) _
        refine ⟨by rw [HE2.out]; rfl, HR.out _ k1 ?_, k1⟩
        rw [HE2.out]
        have : ((lf - 1 : Nat) : Int) = (lf : Int) - 1 := by omega
        simpa [this] using hs4.out
  · have hE := HE.out
    have HE2 := Lib.hid (show (Plain.Dv.begin ⟨n, K, wr, true, ct, lf, dne⟩) = (⟨n, K, wr, true, ct, lf, dne⟩, 71) by rw [hE]; simp)
    clear hE
    have HB := Lib.hid hB
    go_enter Tryz.func39, Tryz.ntmps39
    go_wp2
    go_returns
    refine ⟨by rw [HE2.out]; rfl, HR.out _ (Kept.refl _ _) ?_, Kept.refl _ _⟩
    rw [HE2.out]
    exact HB.out

set_option maxHeartbeats 1000000 in
theorem cutAt_any (after : Int) (ha : after ≤ 9223372036854775807) (h : IsDev w g d) :
    Calls Tryz.prog 10 #[.pointer (some ⟨g + 2, 0, none⟩), .int .i64 after] w fun e w' => e = .returned (.tuple #[]) ∧ IsDev w' g (d.cutAt after) ∧ Kept [g + 2] w w' := by
  have c3 : w.cell? ⟨g + 2, 3, none⟩ = some (.bool d.cut) := h.box.cell 3
  have c4 : w.cell? ⟨g + 2, 4, none⟩ = some (.int .i64 (d.left : Int)) := h.box.cell 4
  have f3 := h.box.frozen 3
  have f4 := h.box.frozen 4
  have hok := d.cutAt_ok h.ok after ha
  by_cases h0 : 0 ≤ after
  · have t0 : decide (0 ≤ after) = true := by simpa using h0
    have hE : d.cutAt after = { d with cut := true, left := after.toNat } := by unfold Plain.Dv.cutAt; rw [if_pos h0]
    have hs := (h.box.set 3 (.bool true)).set 4 (.int .i64 after)
    have k1 : Kept [g + 2] w ((w.setCell ⟨g + 2, 3, none⟩ (.bool true)).setCell ⟨g + 2, 4, none⟩ (.int .i64 after)) := ((Kept.refl _ _).setCell (by simp) _).setCell (by simp) _
    have hR : IsDev ((w.setCell ⟨g + 2, 3, none⟩ (.bool true)).setCell ⟨g + 2, 4, none⟩ (.int .i64 after)) g (d.cutAt after) := by
      refine h.boxed k1 (by rw [hE]) (by rw [hE]) (by rw [hE]) hok ?_
      rw [hE]
      have : ((after.toNat : Nat) : Int) = after := by omega
      simpa [this] using hs
    have HR := Lib.hid hR
    have HK := Lib.hid k1
    clear hR k1 hE hs hok h
    go_enter Tryz.func10, Tryz.ntmps10
    go_wp2
    go_returns
    exact ⟨rfl, HR.out, HK.out⟩
  · have t0 : decide (0 ≤ after) = false := by simpa using h0
    have hE : d.cutAt after = d := by unfold Plain.Dv.cutAt; rw [if_neg h0]
    rw [hE]
    clear hE hok
    have HR := Lib.hid h
    clear h
    go_enter Tryz.func10, Tryz.ntmps10
    go_wp2
    go_returns
    exact ⟨rfl, HR.out, Kept.refl _ _⟩
end
end Go.Proofs.YtehnhjnkbclnlaaGreatDoor

namespace Go.Proofs.YtehnhjnkbclnlaaGreatDoor
open Go.RowKit Go.Maps
set_option maxRecDepth 100000

theorem late_store {P : Program} {W w' : World} {a : Act} {o : Oper} {x y : Operand} {t : TypeId} {K : Act → World → Prop} {Q : Exit → Act → World → Prop} (ho : o.op = .store t x y) (hr : (Instr.storeAt t (a.eval x) (a.eval y)).run P W = .ok () w') (hK : K (a.put o.dst undef) w') : o.wp P a W K Q := by
  unfold Oper.wp
  simp [execOp, ho, hr, Result.andThen]
  exact hK
theorem late_mapUpdate {P : Program} {W w' : World} {a : Act} {o : Oper} {m x y : Operand} {t : TypeId} {K : Act → World → Prop} {Q : Exit → Act → World → Prop} (ho : o.op = .mapUpdate t m x y) (hr : (Instr.mapUpdate t (a.eval m) (a.eval x) (a.eval y)).run P W = .ok () w') (hK : K (a.put o.dst undef) w') : o.wp P a W K Q := by
  unfold Oper.wp
  simp [execOp, ho, hr, Result.andThen]
  exact hK
theorem soft_array {P : Program} {w : World} {ρ : Operand → Value} {o : Oper} {x : Operand} {t e : TypeId} {n len cap : Nat} {A : Option Addr} (hx : ρ x = .slice A len cap) (ho : o.op = .sliceToArrayPointer t x) (ht : P.underlying t = some (.array n e)) (hn : n ≤ len) : softUpon P w (Fact.is (.pointer A)) ((execOp ρ o).run P w) := by
  have e : (execOp ρ o).run P w = .ok (.value (.pointer A)) w := by
    simp [execOp, ho, hx, run_arrayAt w t e n A len cap ht hn]
  rw [e]
  exact ⟨rfl, Below.refl _ _⟩
theorem soft_lookup {P : Program} {w : World} {ρ : Operand → Value} {o : Oper} {x y : Operand} {t : TypeId} {ok : Bool} {vx vy u : Value} (hx : ρ x = vx) (hy : ρ y = vy) (hr : (Instr.lookup t vx vy ok).run P w = .ok u w) (ho : o.op = .lookup t x y ok) : softUpon P w (Fact.is u) ((execOp ρ o).run P w) := by
  have e : (execOp ρ o).run P w = .ok (.value u) w := by
    simp [execOp, ho, hx, hy, hr]
  rw [e]
  exact ⟨rfl, Below.refl _ _⟩
theorem soft_index {P : Program} {w : World} {ρ : Operand → Value} {o : Oper} {x y : Operand} {t : TypeId} {vx vy u : Value} (hx : ρ x = vx) (hy : ρ y = vy) (hr : (Instr.indexAt t vx vy).run P w = .ok u w) (ho : o.op = .indexAddr t x y) : softUpon P w (Fact.is u) ((execOp ρ o).run P w) := by
  have e : (execOp ρ o).run P w = .ok (.value u) w := by
    simp [execOp, ho, hx, hy, hr]
  rw [e]
  exact ⟨rfl, Below.refl _ _⟩

/-- what is there lies in none of these blocks -/
def Off (S : List Nat) (A : Option Addr) (xs : List Value) : Prop := xs = [] ∨ ∀ ad, A = some ad → ad.block ∉ S
theorem Lies.kept {w w' : World} {A : Option Addr} {xs : List Value} {S : List Nat} (h : Lies w A xs) (ho : Off S A xs) (k : Kept S w w') : Lies w' A xs := by
  rcases h with h | ⟨ad, e, hb, hc⟩
  · exact .inl h
  · rcases ho with h | ho
    · exact .inl h
    · exact .inr ⟨ad, e, Nat.lt_of_lt_of_le hb k.size, fun j u hu => (World.cell?_of_block (by rw [addr_block]; exact k.block _ hb (ho ad e))).trans (hc j u hu)⟩
theorem Off.mono {S S' : List Nat} {A : Option Addr} {xs : List Value} (h : Off S A xs) (hs : ∀ k ∈ S', k ∈ S) : Off S' A xs := h.imp id fun h ad e hm => h ad e (hs _ hm)
theorem Off.of {S : List Nat} {A : Option Addr} {xs : List Value} {w : World} (h : Lies w A xs) (hs : ∀ k ∈ S, w.heap.size ≤ k) : Off S A xs := by
  rcases h with h | ⟨ad, e, hb, hc⟩
  · exact .inl h
  · refine .inr fun ad' e' hm => ?_
    rw [e] at e'
    injection e' with e'
    subst e'
    have := hs _ hm
    omega
/-- bytes that are there lie at a plain place -/
theorem Lies.plain {w : World} {A : Option Addr} {xs : List Value} (h : Lies w A xs) (hn : xs ≠ []) : ∃ b o, A = some ⟨b, o, none⟩ ∧ b < w.heap.size ∧ w.rangeAt b o xs := by
  rcases h with h | ⟨ad, e, hb, hc⟩
  · exact absurd h hn
  · obtain ⟨x, l, rfl⟩ := List.exists_cons_of_ne_nil hn
    have h0 := hc 0 x (by simp)
    obtain ⟨b, o, sp⟩ := ad
    have hsp : sp = none := by
      cases sp with
      | none => rfl
      | some n =>
        simp only [Addr.add, if_true, World.cell?] at h0
        split at h0 <;> simp at h0
    subst hsp
    refine ⟨b, o, e, hb, fun j u hu => ?_⟩
    have := hc j u hu
    rwa [Addr.add_mid] at this
end Go.Proofs.YtehnhjnkbclnlaaGreatDoor
