/-
  SpGet: Layer 3: span.takeSpan and span.Get: what they answer, of any bytes. Assumed: that the bytes lie in memory, and that errors.errorType is what its own text lays.
  SpG2: Layer 3: span.Get: what it answers, of any bytes. Assumed: that the bytes lie in memory, and that errors.errorType is what its own text lays.
-/
import Derived.Test.YtdfeccmcefcpbaaDoorSpanR
import Derived.Test.YtdfeccmcefcpbaaDoorSpAs
import Derived.Test.YtdfeccmcefcpbaaDoorSpanA
import Derived.RegionTactic
import Derived.BigRegion

namespace Go.Proofs.YtdfeccmcefcpbaaDoor
open Go.RowKit
set_option maxRecDepth 100000

/-- the reader's error behind the span: what a part has, or that it is not right -/
def endErr (b : List UInt8) : Nat := if (runT b 2).2 = 0 ∧ (Plain.parts b).1.right = false then 12 else (runT b 2).2

theorem endErr_is (b : List UInt8) : endErr b = if (runT b 2).2 = 0 ∧ Plain.rightN (valN b 0) (valN b 1) (valN b 2) (valN b 3) (valN b 4) (str (valT b 0)).size (str (valT b 1)).size = false then 12 else (runT b 2).2 := by
  unfold endErr
  simp only [parts_is, Plain.Sp.right, str_size]
def zeroSp : Array Value := #[.int .i64 0, .int .i64 0, .int .i64 0, .int .i64 0, .int .i64 0, .string ⟨#[]⟩, .string ⟨#[]⟩]
theorem spN_zero (b : List UInt8) : spN b 0 = #[.int .i64 0, .int .i64 0, .int .i64 0, .int .i64 0, .int .i64 0, .string ⟨#[]⟩, .string ⟨#[]⟩] := by simp [spN]
theorem spT_two (b : List UInt8) : spT b 2 = #[.int .i64 (valN b 0 : Nat), .int .i64 (valN b 1 : Nat), .int .i64 (valN b 2 : Nat), .int .i64 (valN b 3 : Nat), .int .i64 (valN b 4 : Nat), .string (str (valT b 0)), .string (str (valT b 1))] := by simp [spT]
theorem three_new (w : World) (z1 z2 z3 : Array Value) (t1 t2 t3 : TypeId) :
    Kept [] w (((w.alloc (.cells z1 t1)).alloc (.cells z2 t2)).alloc (.cells z3 t3)) ∧ Blk (((w.alloc (.cells z1 t1)).alloc (.cells z2 t2)).alloc (.cells z3 t3)) w.heap.size z1 t1 ∧ Blk (((w.alloc (.cells z1 t1)).alloc (.cells z2 t2)).alloc (.cells z3 t3)) (w.heap.size + 1) z2 t2 ∧ Blk (((w.alloc (.cells z1 t1)).alloc (.cells z2 t2)).alloc (.cells z3 t3)) (w.heap.size + 1 + 1) z3 t3 ∧ (((w.alloc (.cells z1 t1)).alloc (.cells z2 t2)).alloc (.cells z3 t3)).heap.size = w.heap.size + 3 := by
  have h2 := Blk.new (w.alloc (.cells z1 t1)) z2 t2
  have h3 := Blk.new ((w.alloc (.cells z1 t1)).alloc (.cells z2 t2)) z3 t3
  simp only [World.size_alloc] at h2 h3
  exact ⟨(((Kept.refl _ _).alloc _).alloc _).alloc _, (((Kept.refl [] _).alloc _).alloc _).blk (Blk.new w z1 t1) (by simp), ((Kept.refl [] _).alloc _).blk h2 (by simp), h3, by simp⟩

/-- a span stored whole -/
theorem seven (w : World) (r : Nat) (z0 z1 z2 z3 z4 z5 z6 v0 v1 v2 v3 v4 v5 v6 : Value) (t : TypeId) (h : Blk w r #[z0, z1, z2, z3, z4, z5, z6] t) :
    Blk (((((((w.setCell ⟨r, 0, none⟩ v0).setCell ⟨r, 1, none⟩ v1).setCell ⟨r, 2, none⟩ v2).setCell ⟨r, 3, none⟩ v3).setCell ⟨r, 4, none⟩ v4).setCell ⟨r, 5, none⟩ v5).setCell ⟨r, 6, none⟩ v6) r #[v0, v1, v2, v3, v4, v5, v6] t ∧
    Kept [r] w (((((((w.setCell ⟨r, 0, none⟩ v0).setCell ⟨r, 1, none⟩ v1).setCell ⟨r, 2, none⟩ v2).setCell ⟨r, 3, none⟩ v3).setCell ⟨r, 4, none⟩ v4).setCell ⟨r, 5, none⟩ v5).setCell ⟨r, 6, none⟩ v6) :=
  ⟨by have := ((((((h.set 0 v0).set 1 v1).set 2 v2).set 3 v3).set 4 v4).set 5 v5).set 6 v6; simpa only [List.setIfInBounds_toArray, List.set_cons_succ, List.set_cons_zero] using this, ((((((((Kept.refl _ _).setCell (by simp) _).setCell (by simp) _).setCell (by simp) _).setCell (by simp) _).setCell (by simp) _).setCell (by simp) _).setCell (by simp) _)⟩
theorem Blk.seven {w : World} {r : Nat} {z0 z1 z2 z3 z4 z5 z6 : Value} {t : TypeId} (h : Blk w r #[z0, z1, z2, z3, z4, z5, z6] t) :
    w.cell? ⟨r, 0, none⟩ = some z0 ∧ w.cell? ⟨r, 1, none⟩ = some z1 ∧ w.cell? ⟨r, 2, none⟩ = some z2 ∧ w.cell? ⟨r, 3, none⟩ = some z3 ∧ w.cell? ⟨r, 4, none⟩ = some z4 ∧ w.cell? ⟨r, 5, none⟩ = some z5 ∧ w.cell? ⟨r, 6, none⟩ = some z6 :=
  ⟨h.cell 0, h.cell 1, h.cell 2, h.cell 3, h.cell 4, h.cell 5, h.cell 6⟩

set_option maxHeartbeats 4000000 in
theorem takeSpan_any (w0 w : World) (g : Nat) (A : Option Addr) (n cap : Nat) (bs : List UInt8) (hG : Stand w0 w g A n cap bs) (h : Rd w g A n cap 0 0 0) :
    Calls Tryd.prog 73 #[.pointer (some ⟨g, 0, none⟩)] w fun ev w' => ev = .returned (.agg (spT bs 2)) ∧ (∃ at_, Rd w' g A n cap (runT bs 2).1 at_ (endErr bs)) ∧ Kept [g] w w' := by
  have hgl := h.lt
  have hg0 := hG.new
  have hk0 := hG.kept.size
  have c1 : w.cell? ⟨g, 1, none⟩ = some (.int .i64 0) := h.cell 1
  have HG := Lib.hid hG
  have HR := Lib.hid h
  clear h hG
  go_enter Tryd.func73, Tryd.ntmps73
  go_wp2_with fail
  obtain ⟨k3, hr0, hq0, hp0, hs3⟩ := three_new w zeroSp zeroSp #[.pointer (some ⟨w.heap.size + 1, 0, none⟩), .pointer (some ⟨w.heap.size + 1, 1, none⟩), .pointer (some ⟨w.heap.size + 1, 2, none⟩), .pointer (some ⟨w.heap.size + 1, 3, none⟩), .pointer (some ⟨w.heap.size + 1, 4, none⟩)] 40 40 106
  unfold zeroSp at k3 hr0 hq0 hp0 hs3
  generalize ((w.alloc (.cells #[.int .i64 0, .int .i64 0, .int .i64 0, .int .i64 0, .int .i64 0, .string ⟨#[]⟩, .string ⟨#[]⟩] 40)).alloc (.cells #[.int .i64 0, .int .i64 0, .int .i64 0, .int .i64 0, .int .i64 0, .string ⟨#[]⟩, .string ⟨#[]⟩] 40)).alloc (.cells #[.pointer (some ⟨w.heap.size + 1, 0, none⟩), .pointer (some ⟨w.heap.size + 1, 1, none⟩), .pointer (some ⟨w.heap.size + 1, 2, none⟩), .pointer (some ⟨w.heap.size + 1, 3, none⟩), .pointer (some ⟨w.heap.size + 1, 4, none⟩)] 106) = W3 at *
  have hp : ∀ k, k < 5 → W3.cell? ⟨w.heap.size + 1 + 1, k, none⟩ = some (.pointer (some ⟨w.heap.size + 1, k, none⟩)) := fun k hk => by
    rw [hp0.cell k]
    obtain rfl | rfl | rfl | rfl | rfl : k = 0 ∨ k = 1 ∨ k = 2 ∨ k = 3 ∨ k = 4 := by omega
    all_goals rfl
  have hq1 : Blk W3 (w.heap.size + 1) (spN bs 0) 40 := by rw [spN_zero]; exact hq0
  clear hp0 hq0
  have hst3 : Stand w0 W3 g A n cap bs := HG.out.on (k3.below HG.out.kept (by simp))
  refine (takeNumbers_any w0 W3 g (w.heap.size + 1) (w.heap.size + 1 + 1) A n cap bs hst3 (by omega) (by omega) (by omega) (by omega) (by omega) hp (k3.blk HR.out (by simp)) hq1).mono ?_
  rintro e w1 ⟨rfl, ⟨at1, r1⟩, b1, kk1⟩
  have hr1 : Blk w1 w.heap.size #[.int .i64 0, .int .i64 0, .int .i64 0, .int .i64 0, .int .i64 0, .string ⟨#[]⟩, .string ⟨#[]⟩] 40 := kk1.blk hr0 (by simp; omega)
  have k1 : Kept [g, w.heap.size + 1] w w1 := (k3.mono (by simp)).trans kk1
  have hs1 := kk1.size
  clear hp hr0 hq1 kk1 k3 c1
  have R1 := Lib.hid r1
  have B1 := Lib.hid b1
  have HR1 := Lib.hid hr1
  have K1 := Lib.hid k1
  clear r1 b1 hr1 k1
  go_wp2_with fail
  have hp : ∀ k, k < 2 → (w1.alloc (.cells #[.pointer (some ⟨w.heap.size + 1, 5, none⟩), .pointer (some ⟨w.heap.size + 1, 6, none⟩)] 108)).cell? ⟨w1.heap.size, k, none⟩ = some (.pointer (some ⟨w.heap.size + 1, 5 + k, none⟩)) := fun k hk => by
    obtain rfl | rfl : k = 0 ∨ k = 1 := by omega
    all_goals simp
  have hst1 : Stand w0 (w1.alloc (.cells #[.pointer (some ⟨w.heap.size + 1, 5, none⟩), .pointer (some ⟨w.heap.size + 1, 6, none⟩)] 108)) g A n cap bs := HG.out.on ((K1.out.alloc _).below HG.out.kept (by simp; omega))
  have kA : Kept [] w1 (w1.alloc (.cells #[.pointer (some ⟨w.heap.size + 1, 5, none⟩), .pointer (some ⟨w.heap.size + 1, 6, none⟩)] 108)) := (Kept.refl _ _).alloc _
  refine (takeTexts_any w0 _ g (w.heap.size + 1) w1.heap.size A n cap at1 bs hst1 (by omega) (by omega) (by omega) (by omega) (by simp) hp (kA.blk R1.out (by simp)) (kA.blk B1.out (by simp))).mono ?_
  rintro e w2 ⟨rfl, ⟨at2, r2⟩, b2, kk2⟩
  have hr2 : Blk w2 w.heap.size #[.int .i64 0, .int .i64 0, .int .i64 0, .int .i64 0, .int .i64 0, .string ⟨#[]⟩, .string ⟨#[]⟩] 40 := kk2.blk (kA.blk HR1.out (by simp)) (by simp; omega)
  have k2 : Kept [g, w.heap.size + 1] w w2 := (K1.out.alloc _).trans kk2
  have hs2 := k2.size
  have hE := endErr_is bs
  clear hp kk2 kA hst1 hst3
  have hl0 := valT_le bs 0
  have hl1 := valT_le bs 1
  rw [← str_size] at hl0 hl1
  have HSP := Lib.hid (spT_two bs)
  rw [spT_two] at b2
  generalize str (valT bs 0) = S0 at *
  generalize str (valT bs 1) = S1 at *
  generalize valN bs 0 = v0 at *
  generalize valN bs 1 = v1 at *
  generalize valN bs 2 = v2 at *
  generalize valN bs 3 = v3 at *
  generalize valN bs 4 = v4 at *
  have HE := Lib.hid hE
  clear hE
  generalize hoo : (runT bs 2).1 = oo at *
  generalize (runT bs 2).2 = ee at *
  have HOO := Lib.hid hoo
  clear hoo
  have c2 : w2.cell? ⟨g, 2, none⟩ = some (errS at2 ee) := r2.cell 2
  obtain ⟨q0, q1, q2, q3, q4, q5, q6⟩ := b2.seven
  have R2 := Lib.hid r2
  have B2 := Lib.hid b2
  have HR2 := Lib.hid hr2
  have K2 := Lib.hid k2
  clear r2 b2 hr2 k2
  by_cases he0 : ee = 0
  · subst he0
    rw [errS_zero] at c2
    go_wp2_with fail
    refine (right_any v0 v1 v2 v3 v4 S0 S1 w2 (by unfold maxLen; omega) (by unfold maxLen; omega)).mono ?_
    rintro e w3 ⟨rfl, b3⟩
    have r3 := (Kept.of b3 []).blk R2.out (by simp)
    have hr3 := (Kept.of b3 []).blk HR2.out (by simp)
    have k3 := K2.out.trans (Kept.of b3 _)
    obtain ⟨q0, q1, q2, q3, q4, q5, q6⟩ := ((Kept.of b3 []).blk B2.out (by simp)).seven
    obtain ⟨z0, z1, z2, z3, z4, z5, z6⟩ := hr3.seven
    have fz := hr3.frozen
    generalize Plain.rightN v0 v1 v2 v3 v4 S0.size S1.size = RR at *
    have R3 := Lib.hid r3
    have HR3 := Lib.hid hr3
    have K3 := Lib.hid k3
    clear r3 hr3 k3
    rcases RR with _ | _
    · have g2 : w3.cell? ⟨g, 2, none⟩ = some .nilIface := R3.out.cell 2
      have gf := R3.out.frozen 2
      have r4 := R3.out.set 2 (.iface 110 (.agg #[.int .i64 0, .iface 28 (.int .i64 12)]))
      have k4 := (Kept.refl [g] w3).setCell (p := ⟨g, 2, none⟩) (by simp) (.iface 110 (.agg #[.int .i64 0, .iface 28 (.int .i64 12)]))
      have hr4 := k4.blk HR3.out (by simp; omega)
      obtain ⟨x0, x1, x2, x3, x4, x5, x6⟩ := hr4.seven
      have fx := hr4.frozen
      have qq := k4.blk ((Kept.of b3 []).blk B2.out (by simp)) (by simp; omega)
      obtain ⟨p0, p1, p2, p3, p4, p5, p6⟩ := qq.seven
      have R4 := Lib.hid (show Rd (w3.setCell ⟨g, 2, none⟩ (.iface 110 (.agg #[.int .i64 0, .iface 28 (.int .i64 12)]))) g A n cap oo 0 12 from r4)
      have HR4 := Lib.hid hr4
      have K4 := Lib.hid k4
      clear r4 hr4 k4 z0 z1 z2 z3 z4 z5 z6 q0 q1 q2 q3 q4 q5 q6 fz qq
      go_wp2
      clear x0 x1 x2 x3 x4 x5 x6 p0 p1 p2 p3 p4 p5 p6 fx g2 gf
      generalize w3.setCell ⟨g, 2, none⟩ (.iface 110 (.agg #[.int .i64 0, .iface 28 (.int .i64 12)])) = w4 at *
      obtain ⟨bf, kf⟩ := seven w4 w.heap.size _ _ _ _ _ _ _ (.int .i64 v0) (.int .i64 v1) (.int .i64 v2) (.int .i64 v3) (.int .i64 v4) (.string S0) (.string S1) _ HR4.out
      generalize (((((((w4.setCell ⟨w.heap.size, 0, none⟩ (.int .i64 v0)).setCell ⟨w.heap.size, 1, none⟩ (.int .i64 v1)).setCell ⟨w.heap.size, 2, none⟩ (.int .i64 v2)).setCell ⟨w.heap.size, 3, none⟩ (.int .i64 v3)).setCell ⟨w.heap.size, 4, none⟩ (.int .i64 v4)).setCell ⟨w.heap.size, 5, none⟩ (.string S0)).setCell ⟨w.heap.size, 6, none⟩ (.string S1)) = wf at *
      obtain ⟨y0, y1, y2, y3, y4, y5, y6⟩ := bf.seven
      refine bodyPost_ret (v := .agg #[.int .i64 v0, .int .i64 v1, .int .i64 v2, .int .i64 v3, .int .i64 v4, .string S0, .string S1]) (w := wf) (by simp [results, Tryd.results73, go_sem, y0, y1, y2, y3, y4, y5, y6]) rfl ?_
      refine ⟨by rw [HSP.out], ⟨0, ?_⟩, ?_⟩
      · rw [HOO.out, HE.out, if_pos (by simp)]
        exact kf.blk R4.out (by simp; omega)
      · exact (((Kept.refl [g] w).new K3.out (by simp)).trans K4.out).new kf (by simp)
    · go_wp2
      clear z0 z1 z2 z3 z4 z5 z6 q0 q1 q2 q3 q4 q5 q6 fz
      obtain ⟨bf, kf⟩ := seven w3 w.heap.size _ _ _ _ _ _ _ (.int .i64 v0) (.int .i64 v1) (.int .i64 v2) (.int .i64 v3) (.int .i64 v4) (.string S0) (.string S1) _ HR3.out
      generalize (((((((w3.setCell ⟨w.heap.size, 0, none⟩ (.int .i64 v0)).setCell ⟨w.heap.size, 1, none⟩ (.int .i64 v1)).setCell ⟨w.heap.size, 2, none⟩ (.int .i64 v2)).setCell ⟨w.heap.size, 3, none⟩ (.int .i64 v3)).setCell ⟨w.heap.size, 4, none⟩ (.int .i64 v4)).setCell ⟨w.heap.size, 5, none⟩ (.string S0)).setCell ⟨w.heap.size, 6, none⟩ (.string S1)) = wf at *
      obtain ⟨y0, y1, y2, y3, y4, y5, y6⟩ := bf.seven
      refine bodyPost_ret (v := .agg #[.int .i64 v0, .int .i64 v1, .int .i64 v2, .int .i64 v3, .int .i64 v4, .string S0, .string S1]) (w := wf) (by simp [results, Tryd.results73, go_sem, y0, y1, y2, y3, y4, y5, y6]) rfl ?_
      refine ⟨by rw [HSP.out], ⟨at2, ?_⟩, ?_⟩
      · rw [HOO.out, HE.out, if_neg (by simp)]
        exact kf.blk R3.out (by simp; omega)
      · exact ((Kept.refl [g] w).new K3.out (by simp)).new kf (by simp)
  · rw [errS_pos at2 ee he0] at c2
    obtain ⟨z0, z1, z2, z3, z4, z5, z6⟩ := HR2.out.seven
    have fz := HR2.out.frozen
    go_wp2
    clear z0 z1 z2 z3 z4 z5 z6 q0 q1 q2 q3 q4 q5 q6 c2 fz
    obtain ⟨bf, kf⟩ := seven w2 w.heap.size _ _ _ _ _ _ _ (.int .i64 v0) (.int .i64 v1) (.int .i64 v2) (.int .i64 v3) (.int .i64 v4) (.string S0) (.string S1) _ HR2.out
    generalize (((((((w2.setCell ⟨w.heap.size, 0, none⟩ (.int .i64 v0)).setCell ⟨w.heap.size, 1, none⟩ (.int .i64 v1)).setCell ⟨w.heap.size, 2, none⟩ (.int .i64 v2)).setCell ⟨w.heap.size, 3, none⟩ (.int .i64 v3)).setCell ⟨w.heap.size, 4, none⟩ (.int .i64 v4)).setCell ⟨w.heap.size, 5, none⟩ (.string S0)).setCell ⟨w.heap.size, 6, none⟩ (.string S1)) = wf at *
    obtain ⟨y0, y1, y2, y3, y4, y5, y6⟩ := bf.seven
    refine bodyPost_ret (v := .agg #[.int .i64 v0, .int .i64 v1, .int .i64 v2, .int .i64 v3, .int .i64 v4, .string S0, .string S1]) (w := wf) (by simp [results, Tryd.results73, go_sem, y0, y1, y2, y3, y4, y5, y6]) rfl ?_
    refine ⟨by rw [HSP.out], ⟨at2, ?_⟩, ?_⟩
    · rw [HOO.out, HE.out, if_neg (by simp [he0])]
      exact kf.blk R2.out (by simp; omega)
    · exact ((Kept.refl [g] w).new K2.out (by simp)).new kf (by simp)
end Go.Proofs.YtdfeccmcefcpbaaDoor

namespace Go.Proofs.YtdfeccmcefcpbaaDoor
open Go.RowKit
set_option maxRecDepth 100000

/-- errors.As of a fault, at a target in a block of its own -/
theorem as_is (at_ : Int) (code : Nat) (te : Nat) (old : Value) (w : World) (hg : Handle w) (ht : Blk w te #[old] 28) :
    Calls Tryd.prog 74 #[.iface 110 (.agg #[.int .i64 at_, .iface 28 (.int .i64 code)]), .iface 100 (.pointer (some ⟨te, 0, none⟩))] w fun ev w' => ev = .returned (.bool true) ∧ Blk w' te #[.int .i64 code] 28 ∧ Kept [te] w w' := by
  refine (as_hit at_ code ⟨te, 0, none⟩ old w hg (ht.cell 0) (ht.frozen 0)).mono ?_
  rintro e w' ⟨rfl, rfl⟩
  have k := (((((Kept.refl [te] w).alloc (.cells #[.pointer (some ⟨te, 0, none⟩)] 100)).alloc (.cells #[.pointer (some ⟨1, 100, none⟩), .pointer (some ⟨w.heap.size, 0, none⟩), .int .u64 150] 114)).alloc (.cells #[.pointer (some ⟨1, 100, none⟩), .pointer (some ⟨w.heap.size, 0, none⟩), .int .u64 150] 114)).alloc (.cells #[.int .i64 at_, .iface 28 (.int .i64 code)] 110)).alloc (.cells #[.int .i64 code] 28)
  have k0 := (((((Kept.refl [] w).alloc (.cells #[.pointer (some ⟨te, 0, none⟩)] 100)).alloc (.cells #[.pointer (some ⟨1, 100, none⟩), .pointer (some ⟨w.heap.size, 0, none⟩), .int .u64 150] 114)).alloc (.cells #[.pointer (some ⟨1, 100, none⟩), .pointer (some ⟨w.heap.size, 0, none⟩), .int .u64 150] 114)).alloc (.cells #[.int .i64 at_, .iface 28 (.int .i64 code)] 110)).alloc (.cells #[.int .i64 code] 28)
  exact ⟨rfl, (k0.blk ht (by simp)).set 0 _, k.setCell (by simp) _⟩

theorem rd_err (b : List UInt8) (h : endErr b ≠ 0) : Plain.Sp.rd b = (Plain.Sp.zero, 0, endErr b) := by
  unfold Plain.Sp.rd
  have e : (Plain.parts b).2.2 = (runT b 2).2 := by rw [parts_is]
  unfold endErr at h ⊢
  rw [e]
  generalize (runT b 2).2 = ee at *
  by_cases h0 : ee = 0
  · subst h0
    by_cases hr : (Plain.parts b).1.right = false
    · simp [hr]
    · rw [if_neg (by simp [hr])] at h; simp at h
  · rw [if_pos h0, if_neg (by simp [h0])]
theorem rd_ok (b : List UInt8) (h : endErr b = 0) : Plain.Sp.rd b = (⟨valN b 0, valN b 1, valN b 2, valN b 3, valN b 4, valT b 0, valT b 1⟩, (runT b 2).1, 0) := by
  unfold Plain.Sp.rd
  have e : (Plain.parts b).2.2 = (runT b 2).2 := by rw [parts_is]
  have e1 : (Plain.parts b).2.1 = (runT b 2).1 := by rw [parts_is]
  have e2 : (Plain.parts b).1 = ⟨valN b 0, valN b 1, valN b 2, valN b 3, valN b 4, valT b 0, valT b 1⟩ := by rw [parts_is]
  unfold endErr at h
  rw [e, e1]
  generalize (runT b 2).2 = ee at *
  by_cases h0 : ee = 0
  · subst h0
    by_cases hr : (Plain.parts b).1.right = false
    · rw [if_pos ⟨rfl, hr⟩] at h; simp at h
    · rw [if_neg (by simp), if_pos (by simpa using hr), e2]
  · rw [if_neg (by simp [h0])] at h; exact absurd h h0
theorem endErr_code (b : List UInt8) : endErr b = 0 ∨ endErr b = 11 ∨ endErr b = 12 := by
  have := Plain.parts_code b
  rw [parts_is] at this
  unfold endErr
  split
  · exact .inr (.inr rfl)
  · exact this
theorem two_new (w : World) (z1 z2 : Array Value) (t1 t2 : TypeId) :
    Kept [] w ((w.alloc (.cells z1 t1)).alloc (.cells z2 t2)) ∧ Blk ((w.alloc (.cells z1 t1)).alloc (.cells z2 t2)) w.heap.size z1 t1 ∧ Blk ((w.alloc (.cells z1 t1)).alloc (.cells z2 t2)) (w.heap.size + 1) z2 t2 ∧ ((w.alloc (.cells z1 t1)).alloc (.cells z2 t2)).heap.size = w.heap.size + 2 := by
  have h2 := Blk.new (w.alloc (.cells z1 t1)) z2 t2
  simp only [World.size_alloc] at h2
  exact ⟨((Kept.refl _ _).alloc _).alloc _, (((Kept.refl [] _).alloc _)).blk (Blk.new w z1 t1) (by simp), h2, by simp⟩

set_option maxHeartbeats 8000000 in
theorem spanGet_any (A : Option Addr) (n cap : Nat) (bs : List UInt8) (w : World) (hh : Handle w) (hn : bs.length = n) (hc : n ≤ cap) (hm : cap ≤ maxLen) (hf : n ≤ 1099511627776) (hA : Lies w A (cells bs)) :
    Calls Tryd.prog 69 #[.slice A n cap] w fun e w' => e = .returned (.tuple #[.agg #[.int .i64 (Plain.Sp.rd bs).1.t, .int .i64 (Plain.Sp.rd bs).1.i, .int .i64 (Plain.Sp.rd bs).1.p, .int .i64 (Plain.Sp.rd bs).1.s, .int .i64 (Plain.Sp.rd bs).1.d, .string (str (Plain.Sp.rd bs).1.sv), .string (str (Plain.Sp.rd bs).1.nm)], .int .i64 (Plain.Sp.rd bs).2.1, .int .i64 (Plain.Sp.rd bs).2.2]) ∧ Below w.heap.size w w' := by
  have HH := Lib.hid hh
  have HA := Lib.hid hA
  have HN := Lib.hid hn
  clear hh hA hn
  go_enter Tryd.func69, Tryd.ntmps69
  go_wp2_with fail
  obtain ⟨k2, hr0, hg0, hs2⟩ := two_new w zeroSp #[.slice A n cap, .int .i64 0, .nilIface] 40 97
  unfold zeroSp at k2 hr0 hg0 hs2
  generalize (w.alloc (.cells #[.int .i64 0, .int .i64 0, .int .i64 0, .int .i64 0, .int .i64 0, .string ⟨#[]⟩, .string ⟨#[]⟩] 40)).alloc (.cells #[.slice A n cap, .int .i64 0, .nilIface] 97) = W2 at *
  have hst : Stand w W2 (w.heap.size + 1) A n cap bs := ⟨HN.out, hc, hm, hf, HA.out, k2.to, by omega⟩
  refine (takeSpan_any w W2 (w.heap.size + 1) A n cap bs hst hg0).mono ?_
  rintro e w1 ⟨rfl, ⟨at1, r1⟩, kk1⟩
  have hr1 : Blk w1 w.heap.size #[.int .i64 0, .int .i64 0, .int .i64 0, .int .i64 0, .int .i64 0, .string ⟨#[]⟩, .string ⟨#[]⟩] 40 := kk1.blk hr0 (by simp)
  have hb1 : Below w.heap.size w w1 := kk1.below k2.to (by simp)
  have hs1 := kk1.size
  have hcode := endErr_code bs
  have hrdE := rd_err bs
  have hrdO := rd_ok bs
  rw [spT_two]
  clear hr0 hg0 hst kk1 k2
  generalize hS0 : str (valT bs 0) = S0 at *
  generalize hS1 : str (valT bs 1) = S1 at *
  generalize valN bs 0 = v0 at *
  generalize valN bs 1 = v1 at *
  generalize valN bs 2 = v2 at *
  generalize valN bs 3 = v3 at *
  generalize valN bs 4 = v4 at *
  have hool := runT_le bs 2
  rw [HN.out] at hool
  generalize (runT bs 2).1 = oo at *
  generalize endErr bs = ee at *
  have HRE := Lib.hid hrdE
  have HRO := Lib.hid hrdO
  have HS0 := Lib.hid hS0
  have HS1 := Lib.hid hS1
  clear hrdE hrdO hS0 hS1
  obtain ⟨k4, hv4, ht4, hs4⟩ := two_new w1 #[.int .i64 v0, .int .i64 v1, .int .i64 v2, .int .i64 v3, .int .i64 v4, .string S0, .string S1] #[.int .i64 0] 40 28
  have r4 := k4.blk r1 (by simp)
  have hr4 := k4.blk hr1 (by simp)
  have hb4 : Below w.heap.size w ((w1.alloc (.cells #[.int .i64 v0, .int .i64 v1, .int .i64 v2, .int .i64 v3, .int .i64 v4, .string S0, .string S1] 40)).alloc (.cells #[.int .i64 0] 28)) := hb1.trans (k4.to.mono hb1.size)
  have g2 : ((w1.alloc (.cells #[.int .i64 v0, .int .i64 v1, .int .i64 v2, .int .i64 v3, .int .i64 v4, .string S0, .string S1] 40)).alloc (.cells #[.int .i64 0] 28)).cell? ⟨w.heap.size + 1, 2, none⟩ = some (errS at1 ee) := r4.cell 2
  have R4 := Lib.hid r4
  have HR4 := Lib.hid hr4
  have HB4 := Lib.hid hb4
  have HV4 := Lib.hid hv4
  have HT4 := Lib.hid ht4
  clear r4 hr4 hb4 hv4 ht4 k4 r1 hr1 hb1
  by_cases he0 : ee = 0
  · subst he0
    rw [errS_zero] at g2
    go_wp2_with fail
    generalize ((w1.alloc (.cells #[.int .i64 v0, .int .i64 v1, .int .i64 v2, .int .i64 v3, .int .i64 v4, .string S0, .string S1] 40)).alloc (.cells #[.int .i64 0] 28)) = W4 at *
    refine (as_nil _ _).mono ?_
    rintro e w4 ⟨rfl, rfl⟩
    have g1 : W4.cell? ⟨w.heap.size + 1, 1, none⟩ = some (.int .i64 oo) := R4.out.cell 1
    obtain ⟨q0, q1, q2, q3, q4, q5, q6⟩ := HV4.out.seven
    obtain ⟨z0, z1, z2, z3, z4, z5, z6⟩ := HR4.out.seven
    have fz := HR4.out.frozen
    go_wp2
    go_region
    obtain ⟨bf, kf⟩ := seven W4 w.heap.size _ _ _ _ _ _ _ (.int .i64 v0) (.int .i64 v1) (.int .i64 v2) (.int .i64 v3) (.int .i64 v4) (.string S0) (.string S1) _ HR4.out
    generalize (((((((W4.setCell ⟨w.heap.size, 0, none⟩ (.int .i64 v0)).setCell ⟨w.heap.size, 1, none⟩ (.int .i64 v1)).setCell ⟨w.heap.size, 2, none⟩ (.int .i64 v2)).setCell ⟨w.heap.size, 3, none⟩ (.int .i64 v3)).setCell ⟨w.heap.size, 4, none⟩ (.int .i64 v4)).setCell ⟨w.heap.size, 5, none⟩ (.string S0)).setCell ⟨w.heap.size, 6, none⟩ (.string S1)) = wf at *
    obtain ⟨y0, y1, y2, y3, y4, y5, y6⟩ := bf.seven
    clear z0 z1 z2 z3 z4 z5 z6 fz
    go_wp2
    refine bodyPost_ret (v := .tuple #[.agg #[.int .i64 v0, .int .i64 v1, .int .i64 v2, .int .i64 v3, .int .i64 v4, .string S0, .string S1], .int .i64 oo, .int .i64 0]) (w := wf.drew) (by simp [results, Tryd.results69, go_sem, y0, y1, y2, y3, y4, y5, y6]) rfl ?_
    refine ⟨?_, (kf.below HB4.out (by simp)).drew⟩
    rw [HRO.out trivial, ← HS0.out, ← HS1.out]
    rfl
  · rw [errS_pos at1 ee he0] at g2
    go_wp2_with fail
    generalize ((w1.alloc (.cells #[.int .i64 v0, .int .i64 v1, .int .i64 v2, .int .i64 v3, .int .i64 v4, .string S0, .string S1] 40)).alloc (.cells #[.int .i64 0] 28)) = W4 at *
    refine (as_is at1 ee _ _ W4 (HH.out.below (HH.out.lt) HB4.out) HT4.out).mono ?_
    rintro e w5 ⟨rfl, t5, k5⟩
    have hr5 := k5.blk HR4.out (by simp; omega)
    have hb5 := k5.below HB4.out (by simp; omega)
    have t0 : w5.cell? ⟨w1.heap.size + 1, 0, none⟩ = some (.int .i64 ee) := t5.cell 0
    obtain ⟨z0, z1, z2, z3, z4, z5, z6⟩ := hr5.seven
    have fz := hr5.frozen
    go_wp2
    go_region
    obtain ⟨bf, kf⟩ := seven w5 w.heap.size _ _ _ _ _ _ _ (.int .i64 0) (.int .i64 0) (.int .i64 0) (.int .i64 0) (.int .i64 0) (.string ⟨#[]⟩) (.string ⟨#[]⟩) _ hr5
    generalize (((((((w5.setCell ⟨w.heap.size, 0, none⟩ (.int .i64 0)).setCell ⟨w.heap.size, 1, none⟩ (.int .i64 0)).setCell ⟨w.heap.size, 2, none⟩ (.int .i64 0)).setCell ⟨w.heap.size, 3, none⟩ (.int .i64 0)).setCell ⟨w.heap.size, 4, none⟩ (.int .i64 0)).setCell ⟨w.heap.size, 5, none⟩ (.string ⟨#[]⟩)).setCell ⟨w.heap.size, 6, none⟩ (.string ⟨#[]⟩)) = wf at *
    obtain ⟨y0, y1, y2, y3, y4, y5, y6⟩ := bf.seven
    clear z0 z1 z2 z3 z4 z5 z6 fz
    go_wp2
    refine bodyPost_ret (v := .tuple #[.agg #[.int .i64 0, .int .i64 0, .int .i64 0, .int .i64 0, .int .i64 0, .string ⟨#[]⟩, .string ⟨#[]⟩], .int .i64 0, .int .i64 ee]) (w := wf.drew) (by simp [results, Tryd.results69, go_sem, y0, y1, y2, y3, y4, y5, y6]) rfl ?_
    refine ⟨?_, (kf.below hb5 (by simp)).drew⟩
    rw [HRE.out he0]
    rfl
end Go.Proofs.YtdfeccmcefcpbaaDoor
