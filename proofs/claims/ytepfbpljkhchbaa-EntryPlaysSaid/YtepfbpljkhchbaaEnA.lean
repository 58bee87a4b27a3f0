/-
  Layer 14: entries in memory; copies of them with services of their own (entry.own, turntableref14.own); turntableref14.SameEntry: what these answer, of any entries. Assumed: that their services lie in memory, and that there are at most 9000.
-/
import Derived.Test.YtepfbpljkhchbaaMath14
import Derived.Test.YtepfbpljkhchbaaItC
import Derived.Test.YtepfbpljkhchbaaTxC
import Derived.Test.YtepfbpljkhchbaaLatC
import Derived.Lib.SliceRun

namespace Go.Proofs.Ytepfbpljkhchbaa
open Go.RowKit Go.Maps En
set_option maxRecDepth 100000

/-- an entry's cells, its services at s -/
def enA (e : E) (s : Value) : Array Value := #[.int .i64 e.id, .int .i64 e.cl, .int .i64 e.tick, .int .i64 e.cost, .bool e.pin, .int .i64 e.bid, .int .i64 e.lo, .int .i64 e.hi, .int .i64 e.many, s, .int .i64 e.seq, .int .i64 e.pl, .int .i64 e.sz]
theorem enA_size (e : E) (s : Value) : (enA e s).size = 13 := rfl
theorem enA_one (e : E) (A : Option Addr) (n c : Nat) : ∀ u ∈ (enA e (.slice A n c)).toList, u.oneCell' = true := by
  intro u hu
  simp only [enA, List.mem_cons, List.not_mem_nil, or_false] at hu
  rcases hu with rfl | rfl | rfl | rfl | rfl | rfl | rfl | rfl | rfl | rfl | rfl | rfl | rfl <;> rfl
/-- its services lie there -/
structure Svs (w : World) (sv : List (List UInt8)) (A : Option Addr) (cap : Nat) : Prop where
  few : sv.length ≤ 9000
  le : sv.length ≤ cap
  cap : cap ≤ maxLen
  lies : Lies w A (strs sv)
theorem Svs.below {w w' : World} {sv : List (List UInt8)} {A : Option Addr} {cap : Nat} (h : Svs w sv A cap) (hb : Below w.heap.size w w') : Svs w' sv A cap := ⟨h.few, h.le, h.cap, h.lies.below hb⟩
theorem Svs.kept {w w' : World} {sv : List (List UInt8)} {A : Option Addr} {cap : Nat} {S : List Nat} (h : Svs w sv A cap) (ho : Off S A (strs sv)) (k : Kept S w w') : Svs w' sv A cap := ⟨h.few, h.le, h.cap, h.lies.kept ho k⟩

theorem infoStr14 : (Try.prog.info? 9).map (fun i => (i.zero, i.size, i.bytes)) = some (some (.string .empty), 1, 16) := by kernel_rfl
theorem infoEn : (Try.prog.info? 35).map (fun i => (i.zero, i.size, i.bytes)) = some (some (.agg (enA E.zero (.slice none 0 0))), 13, 120) := by kernel_rfl
theorem infoPE : (Try.prog.info? 65).map (fun i => (i.zero, i.size, i.bytes)) = some (some (.pointer none), 1, 8) := by kernel_rfl

/-- new texts that were made: their slice -/
theorem row_svs {w0 w : World} {v : Value} {sv : List (List UInt8)} {n : Nat} (h : w.ownsRow w0.heap.size 9 1 v n (strs sv)) (hn : sv.length = n) (h9 : n ≤ 9000) : ∃ A cap, v = .slice A n cap ∧ Svs w sv A cap ∧ ∀ ad, A = some ad → w0.heap.size ≤ ad.block := by
  subst hn
  rcases h.2 with ⟨rfl, h0⟩ | ⟨g, cap, cur, rfl, hb, hg, h1, h2, h3⟩
  · have : sv = [] := List.eq_nil_of_length_eq_zero h0
    subst this
    exact ⟨none, 0, rfl, ⟨by simp, Nat.le_refl _, by simp, .inl rfl⟩, fun _ e => by cases e⟩
  · exact ⟨_, cap, rfl, ⟨h9, h1, h2, .inr ⟨_, rfl, (h.lt g rfl).2, h.cells (g := g) rfl⟩⟩, fun ad e => by cases e; exact hb⟩

theorem clone14_any (A : Option Addr) (n cap : Nat) (l : List (List UInt8)) (w : World) (hn : l.length = n) (h2 : n ≤ 9000) (hA : Lies w A (strs l)) :
    Calls Try.prog 58 #[.slice A n cap] w fun e w' => ∃ v, e = .returned v ∧ w'.ownsRow w.heap.size 9 1 v n (strs l) ∧ Below w.heap.size w w' := by
  obtain ⟨i0, hi, hz0, hz1, hz2⟩ := info_parts infoStr14
  have q22 : ∀ (w : World) (a : Option Addr) (n c n' c' : Nat), (binOp .eql 31 (.slice a n c) (.slice none n' c')).run Try.prog w = .ok (.bool a.isNone) w := fun w a n c n' c' => Lib.run_eql_slice_nil w _ _ a n c n' c' Try.underlying31
  have hfl : (strs l).length = n * 1 := by rw [strs_length, hn, Nat.mul_one]
  rcases A with _ | ad
  · have h0 : strs l = [] := by
      rcases hA with h | ⟨ad, h, _⟩
      · exact h
      · cases h
    have hn0 : n = 0 := by rw [h0] at hfl; simp at hfl; omega
    subst hn0
    rw [h0]
    clear hfl hA hn h0
    go_enter Try.func58, Try.ntmps58
    go_wp2
    go_ret
    exact ⟨_, rfl, World.ownsRow_nil _ _ _ _, Below.refl _ _⟩
  have HA := Lib.hid hA
  have HFL := Lib.hid hfl
  have HF1 := Lib.hid (strs_one l)
  have HH := Lib.hid (show (w.alloc (.cells #[] 9)).ownsRow w.heap.size 9 1 (.slice (some ⟨w.heap.size, 0, none⟩) 0 0) 0 [] by
    have := World.ownsRow_lit (base := w.heap.size) (e := 9) (size := 1) w #[] 0 (Nat.le_refl _) (by unfold maxLen; omega) rfl
    simpa using this)
  clear hA hfl hn
  generalize strs l = F at *
  go_enter Try.func58, Try.ntmps58
  go_wp2_with (at_builtin; refine wpList_appK rfl _ _ 31 rfl w.heap.size 9 i0 (.string .empty) 1 16 Try.underlying31 hi hz0 hz1 hz2 rfl (by omega) (.slice (some ⟨w.heap.size, 0, none⟩) 0 0) 0 [] rfl HH.out (some ad) n cap F rfl HFL.out (HA.out.keep (by simp) fun p hp => World.cell?_alloc_lt w _ p hp) HF1.out (by unfold maxLen; omega) (by omega) (by simp) ?_; intro v1 w1 hown1 hg1 _)
  go_ret
  refine ⟨_, rfl, by simpa using hown1, ?_⟩
  exact ((Below.refl _ _).alloc (Nat.le_refl _) _).grown hg1 (by simp) (fun g hg => by simp [Value.ownBlock] at hg; omega)

/-- a block that is an entry -/
abbrev BoxE (w : World) (g : Nat) (x : E) (s : Value) : Prop := Blk w g (enA x s) 35
theorem BoxE.all {w : World} {g : Nat} {x : E} {s : Value} (h : BoxE w g x s) : w.cell? ⟨g, 0, none⟩ = some (.int .i64 x.id) ∧ w.cell? ⟨g, 1, none⟩ = some (.int .i64 x.cl) ∧ w.cell? ⟨g, 2, none⟩ = some (.int .i64 x.tick) ∧ w.cell? ⟨g, 3, none⟩ = some (.int .i64 x.cost) ∧ w.cell? ⟨g, 4, none⟩ = some (.bool x.pin) ∧ w.cell? ⟨g, 5, none⟩ = some (.int .i64 x.bid) ∧ w.cell? ⟨g, 6, none⟩ = some (.int .i64 x.lo) ∧ w.cell? ⟨g, 7, none⟩ = some (.int .i64 x.hi) ∧ w.cell? ⟨g, 8, none⟩ = some (.int .i64 x.many) ∧ w.cell? ⟨g, 9, none⟩ = some s ∧ w.cell? ⟨g, 10, none⟩ = some (.int .i64 x.seq) ∧ w.cell? ⟨g, 11, none⟩ = some (.int .i64 x.pl) ∧ w.cell? ⟨g, 12, none⟩ = some (.int .i64 x.sz) :=
  ⟨h.cell 0, h.cell 1, h.cell 2, h.cell 3, h.cell 4, h.cell 5, h.cell 6, h.cell 7, h.cell 8, h.cell 9, h.cell 10, h.cell 11, h.cell 12⟩
theorem BoxE.melt {w : World} {g : Nat} {x : E} {s : Value} (h : BoxE w g x s) : w.frozen? ⟨g, 0, none⟩ = false ∧ w.frozen? ⟨g, 1, none⟩ = false ∧ w.frozen? ⟨g, 2, none⟩ = false ∧ w.frozen? ⟨g, 3, none⟩ = false ∧ w.frozen? ⟨g, 4, none⟩ = false ∧ w.frozen? ⟨g, 5, none⟩ = false ∧ w.frozen? ⟨g, 6, none⟩ = false ∧ w.frozen? ⟨g, 7, none⟩ = false ∧ w.frozen? ⟨g, 8, none⟩ = false ∧ w.frozen? ⟨g, 9, none⟩ = false ∧ w.frozen? ⟨g, 10, none⟩ = false ∧ w.frozen? ⟨g, 11, none⟩ = false ∧ w.frozen? ⟨g, 12, none⟩ = false :=
  ⟨h.frozen 0, h.frozen 1, h.frozen 2, h.frozen 3, h.frozen 4, h.frozen 5, h.frozen 6, h.frozen 7, h.frozen 8, h.frozen 9, h.frozen 10, h.frozen 11, h.frozen 12⟩
theorem BoxE.below {w w' : World} {g : Nat} {x : E} {s : Value} (h : BoxE w g x s) (hb : Below w.heap.size w w') : BoxE w' g x s := (Kept.of hb []).blk h (by simp)
theorem BoxE.new (w : World) (x : E) (s : Value) : BoxE (w.alloc (.cells (enA x s) 35)) w.heap.size x s := Blk.new w _ _

/-- an entry as a block of its own, read whole -/
theorem run_loadEn (w : World) (g : Nat) (e : E) (A : Option Addr) (n c : Nat) (h : BoxE w g e (.slice A n c)) : (Instr.loadAt 35 (.pointer (some ⟨g, 0, none⟩))).run Try.prog w = .ok (.agg (enA e (.slice A n c))) w := by
  obtain ⟨c0, c1, c2, c3, c4, c5, c6, c7, c8, c9, c10, c11, c12⟩ := h.all
  clear h
  unfold enA at *
  go_simp

theorem own_mono14 {w : World} {base base' size n : Nat} {e : TypeId} {v : Value} {xs : List Value} (h : w.ownsRow base e size v n xs) (hb : base' ≤ base) : w.ownsRow base' e size v n xs := by
  refine ⟨h.1, h.2.imp id ?_⟩
  rintro ⟨g, cap, cur, h1, h2, h3⟩
  exact ⟨g, cap, cur, h1, Nat.le_trans hb h2, h3⟩
/-- a whole entry written over another one -/
theorem BoxE.over {w : World} {g : Nat} {y : E} {sy : Value} (h : BoxE w g y sy) (x : E) (s : Value) : BoxE (((((((((((((w.setCell ⟨g, 0, none⟩ (.int .i64 x.id)).setCell ⟨g, 1, none⟩ (.int .i64 x.cl)).setCell ⟨g, 2, none⟩ (.int .i64 x.tick)).setCell ⟨g, 3, none⟩ (.int .i64 x.cost)).setCell ⟨g, 4, none⟩ (.bool x.pin)).setCell ⟨g, 5, none⟩ (.int .i64 x.bid)).setCell ⟨g, 6, none⟩ (.int .i64 x.lo)).setCell ⟨g, 7, none⟩ (.int .i64 x.hi)).setCell ⟨g, 8, none⟩ (.int .i64 x.many)).setCell ⟨g, 9, none⟩ s).setCell ⟨g, 10, none⟩ (.int .i64 x.seq)).setCell ⟨g, 11, none⟩ (.int .i64 x.pl)).setCell ⟨g, 12, none⟩ (.int .i64 x.sz)) g x s := by
  have := (((((((((((((h.set 0 (.int .i64 x.id)).set 1 (.int .i64 x.cl)).set 2 (.int .i64 x.tick)).set 3 (.int .i64 x.cost)).set 4 (.bool x.pin)).set 5 (.int .i64 x.bid)).set 6 (.int .i64 x.lo)).set 7 (.int .i64 x.hi)).set 8 (.int .i64 x.many)).set 9 s).set 10 (.int .i64 x.seq)).set 11 (.int .i64 x.pl)).set 12 (.int .i64 x.sz))
  have e : ((((((((((((((enA y sy).setIfInBounds 0 (.int .i64 x.id)).setIfInBounds 1 (.int .i64 x.cl)).setIfInBounds 2 (.int .i64 x.tick)).setIfInBounds 3 (.int .i64 x.cost)).setIfInBounds 4 (.bool x.pin)).setIfInBounds 5 (.int .i64 x.bid)).setIfInBounds 6 (.int .i64 x.lo)).setIfInBounds 7 (.int .i64 x.hi)).setIfInBounds 8 (.int .i64 x.many)).setIfInBounds 9 s).setIfInBounds 10 (.int .i64 x.seq)).setIfInBounds 11 (.int .i64 x.pl)).setIfInBounds 12 (.int .i64 x.sz)) = enA x s := by
    unfold enA
    simp only [List.setIfInBounds_toArray, List.set_cons_succ, List.set_cons_zero]
  show Blk _ g (enA x s) _
  rw [← e]
  exact this
theorem kept13 (w : World) (g : Nat) (x : E) (s : Value) : Kept [g] w (((((((((((((w.setCell ⟨g, 0, none⟩ (.int .i64 x.id)).setCell ⟨g, 1, none⟩ (.int .i64 x.cl)).setCell ⟨g, 2, none⟩ (.int .i64 x.tick)).setCell ⟨g, 3, none⟩ (.int .i64 x.cost)).setCell ⟨g, 4, none⟩ (.bool x.pin)).setCell ⟨g, 5, none⟩ (.int .i64 x.bid)).setCell ⟨g, 6, none⟩ (.int .i64 x.lo)).setCell ⟨g, 7, none⟩ (.int .i64 x.hi)).setCell ⟨g, 8, none⟩ (.int .i64 x.many)).setCell ⟨g, 9, none⟩ s).setCell ⟨g, 10, none⟩ (.int .i64 x.seq)).setCell ⟨g, 11, none⟩ (.int .i64 x.pl)).setCell ⟨g, 12, none⟩ (.int .i64 x.sz)) := ((((((((((((((Kept.refl [g] w).setCell (by simp) (.int .i64 x.id)).setCell (by simp) (.int .i64 x.cl)).setCell (by simp) (.int .i64 x.tick)).setCell (by simp) (.int .i64 x.cost)).setCell (by simp) (.bool x.pin)).setCell (by simp) (.int .i64 x.bid)).setCell (by simp) (.int .i64 x.lo)).setCell (by simp) (.int .i64 x.hi)).setCell (by simp) (.int .i64 x.many)).setCell (by simp) s).setCell (by simp) (.int .i64 x.seq)).setCell (by simp) (.int .i64 x.pl)).setCell (by simp) (.int .i64 x.sz))
theorem own_kept14 {w w' : World} {base size n : Nat} {e : TypeId} {v : Value} {xs : List Value} {S : List Nat} (h : w.ownsRow base e size v n xs) (k : Kept S w w') (hS : ∀ s ∈ S, s < base) : w'.ownsRow base e size v n xs := by
  refine ⟨h.1, h.2.imp id ?_⟩
  rintro ⟨g, cap, cur, h1, h2, h3, h4⟩
  exact ⟨g, cap, cur, h1, h2, (k.block g (Array.getElem?_eq_some_iff.1 h3).1 (fun hm => by have := hS g hm; omega)).trans h3, h4⟩
set_option maxHeartbeats 2000000 in
theorem own14_any (g : Nat) (x : E) (A : Option Addr) (n cap : Nat) (w : World) (hn : x.sv.length = n) (hB : BoxE w g x (.slice A n cap)) (hS : Svs w x.sv A cap) :
    Calls Try.prog 44 #[.pointer (some ⟨g, 0, none⟩)] w fun e w' => ∃ v, e = .returned (.agg (enA x v)) ∧ w'.ownsRow w.heap.size 9 1 v n (strs x.sv) ∧ Below w.heap.size w w' := by
  have HN := Lib.hid hn
  have HN9 := Lib.hid (show n ≤ 9000 by have := hS.few; omega)
  have HCL := Lib.hid (fun (W : World) (h : Below w.heap.size w W) => clone14_any A n cap x.sv W hn (by have := hS.few; omega) (hS.lies.below h))
  obtain ⟨c0, c1, c2, c3, c4, c5, c6, c7, c8, c9, c10, c11, c12⟩ := hB.all
  have hlt := hB.lt
  obtain ⟨W1, hW1⟩ : ∃ W1, w.alloc (.cells (enA E.zero (.slice none 0 0)) 35) = W1 := ⟨_, rfl⟩
  have hz0 : W1.heap.size = w.heap.size + 1 := by rw [← hW1]; simp
  have hb0 : BoxE W1 w.heap.size E.zero (.slice none 0 0) := by rw [← hW1]; exact BoxE.new w _ _
  have hb1 := BoxE.new W1 x (.slice A n cap)
  have hk1 : Below W1.heap.size W1 (W1.alloc (.cells (enA x (.slice A n cap)) 35)) := (Below.refl _ _).alloc (Nat.le_refl _) _
  have hb01 := hb0.below hk1
  rw [hz0] at hb1
  have hB2 : Below w.heap.size w (W1.alloc (.cells (enA x (.slice A n cap)) 35)) := by
    rw [← hW1]; exact ((Below.refl _ _).alloc (Nat.le_refl _) _).alloc (by simp) _
  have HS2 := Lib.hid (show (W1.alloc (.cells (enA x (.slice A n cap)) 35)).heap.size = w.heap.size + 2 by simp [hz0])
  obtain ⟨W2, hW2⟩ : ∃ W2, W1.alloc (.cells (enA x (.slice A n cap)) 35) = W2 := ⟨_, rfl⟩
  rw [hW2] at hb1 hb01 hB2 HS2
  have HB0 := Lib.hid hb01
  have HB1 := Lib.hid hb1
  have HB2 := Lib.hid hB2
  have HW1 := Lib.hid hW1
  have HW2 := Lib.hid hW2
  clear hb01 hb1 hB2 hW1 hW2 hk1 hb0 hz0
  obtain ⟨xid, xcl, xti, xco, xpi, xbi, xlo, xhi, xma, xsv, xse, xpl, xsz⟩ := x
  simp only at HN
  unfold enA at HW1 HW2
  unfold enA
  simp only [E.zero] at *
  clear hS hB hn
  go_enter Try.func44, Try.ntmps44
  go_wp2_with fail
  rw [HW1.out, HW2.out]
  refine (HCL.out _ HB2.out).mono ?_
  rintro e w3 ⟨v, rfl, ho, d3⟩
  have hb0 := HB0.out.below d3
  have hb1 := HB1.out.below d3
  have HB3 := Lib.hid (HB2.out.trans (d3.mono HB2.out.size))
  obtain ⟨A', cap', rfl, -, -⟩ := row_svs (w0 := w) (own_mono14 ho HB2.out.size) HN.out HN9.out
  have HO := Lib.hid (own_mono14 (own_kept14 ho (S := [w.heap.size + 1, w.heap.size]) (w' := (w3.setCell ⟨w.heap.size + 1, 9, none⟩ (.slice A' n cap'))) (((Kept.refl _ _).setCell (by simp) _)) (by have := HS2.out; simp; omega)) (base' := w.heap.size + 2) (by have := HS2.out; omega))
  have HBZ := Lib.hid (show BoxE (w3.setCell ⟨w.heap.size + 1, 9, none⟩ (.slice A' n cap')) w.heap.size E.zero (.slice none 0 0) from (((Kept.refl [w.heap.size + 1] w3).setCell (by simp) _).blk hb0 (by simp)))
  have HKZ := Lib.hid (show Kept [w.heap.size + 1] w3 (w3.setCell ⟨w.heap.size + 1, 9, none⟩ (.slice A' n cap')) from (Kept.refl _ _).setCell (by simp) _)
  have HS3 := Lib.hid (show w.heap.size + 2 ≤ w3.heap.size from HS2.out ▸ d3.size)
  obtain ⟨a0, a1, a2, a3, a4, a5, a6, a7, a8, a9, a10, a11, a12⟩ := hb0.all
  obtain ⟨f0, f1, f2, f3, f4, f5, f6, f7, f8, f9, f10, f11, f12⟩ := hb0.melt
  obtain ⟨b0, b1, b2, b3, b4, b5, b6, b7, b8, b9, b10, b11, b12⟩ := hb1.all
  have g9 := hb1.frozen 9
  simp only at a0 a1 a2 a3 a4 a5 a6 a7 a8 a9 a10 a11 a12 b0 b1 b2 b3 b4 b5 b6 b7 b8 b9 b10 b11 b12
  clear d3 ho hb0 hb1 c0 c1 c2 c3 c4 c5 c6 c7 c8 c9 c10 c11 c12 HB0 HB1 HCL
  go_wp2_with fail
  have HF := BoxE.over HBZ.out ⟨xid, xcl, xti, xco, xpi, xbi, xlo, xhi, xma, xsv, xse, xpl, xsz⟩ (.slice A' n cap')
  have HK := kept13 (w3.setCell ⟨w.heap.size + 1, 9, none⟩ (.slice A' n cap')) w.heap.size ⟨xid, xcl, xti, xco, xpi, xbi, xlo, xhi, xma, xsv, xse, xpl, xsz⟩ (.slice A' n cap')
  have hB4 := Kept.below HB3.out HKZ.out (by simp)
  have hB5 := Kept.below hB4 HK (by simp)
  have hO5 := own_mono14 (own_kept14 HO.out HK (by simp)) (base' := w.heap.size) (by omega)
  simp only at HF hB5 hO5
  clear HK hB4 HO HBZ HKZ HB3 a0 a1 a2 a3 a4 a5 a6 a7 a8 a9 a10 a11 a12 f0 f1 f2 f3 f4 f5 f6 f7 f8 f9 f10 f11 f12 b0 b1 b2 b3 b4 b5 b6 b7 b8 b9 b10 b11 b12 g9
  revert HF hB5 hO5
  generalize World.setCell _ _ _ = wf
  intro HF hB5 hO5
  obtain ⟨y0, y1, y2, y3, y4, y5, y6, y7, y8, y9, y10, y11, y12⟩ := HF.all
  refine bodyPost_ret (v := .agg #[.int .i64 xid, .int .i64 xcl, .int .i64 xti, .int .i64 xco, .bool xpi, .int .i64 xbi, .int .i64 xlo, .int .i64 xhi, .int .i64 xma, .slice A' n cap', .int .i64 xse, .int .i64 xpl, .int .i64 xsz]) (w := wf) (by simp [results, Try.results44, go_sem, y0, y1, y2, y3, y4, y5, y6, y7, y8, y9, y10, y11, y12]) rfl ?_
  exact ⟨_, rfl, hO5, hB5⟩
end Go.Proofs.Ytepfbpljkhchbaa
