/-
  Layer 3: span.Get: what it answers, of any bytes. Assumed: that the bytes lie in memory, and that errors.errorType is what its own text lays.
-/
import Derived.Test.YtiipcnldedjkdaaDoorSpGet
import Derived.RegionTactic
import Derived.BigRegion
namespace Go.Proofs.YtiipcnldedjkdaaDoor
open Go.RowKit
set_option maxRecDepth 100000

/-- errors.As of a fault, at a target in a block of its own -/
theorem as_is (at_ : Int) (code : Nat) (te : Nat) (old : Value) (w : World) (hg : Handle w) (ht : Blk w te #[old] 27) :
    Calls Tryd.prog 23 #[.iface 65 (.agg #[.int .i64 at_, .iface 27 (.int .i64 code)]), .iface 46 (.pointer (some ⟨te, 0, none⟩))] w fun ev w' => ev = .returned (.bool true) ∧ Blk w' te #[.int .i64 code] 27 ∧ Kept [te] w w' := by
  refine (as_hit at_ code ⟨te, 0, none⟩ old w hg (ht.cell 0) (ht.frozen 0)).mono ?_
  rintro e w' ⟨rfl, rfl⟩
  have k := (((((Kept.refl [te] w).alloc (.cells #[.pointer (some ⟨te, 0, none⟩)] 46)).alloc (.cells #[.pointer (some ⟨1, 46, none⟩), .pointer (some ⟨w.heap.size, 0, none⟩), .int .u64 150] 69)).alloc (.cells #[.pointer (some ⟨1, 46, none⟩), .pointer (some ⟨w.heap.size, 0, none⟩), .int .u64 150] 69)).alloc (.cells #[.int .i64 at_, .iface 27 (.int .i64 code)] 65)).alloc (.cells #[.int .i64 code] 27)
  have k0 := (((((Kept.refl [] w).alloc (.cells #[.pointer (some ⟨te, 0, none⟩)] 46)).alloc (.cells #[.pointer (some ⟨1, 46, none⟩), .pointer (some ⟨w.heap.size, 0, none⟩), .int .u64 150] 69)).alloc (.cells #[.pointer (some ⟨1, 46, none⟩), .pointer (some ⟨w.heap.size, 0, none⟩), .int .u64 150] 69)).alloc (.cells #[.int .i64 at_, .iface 27 (.int .i64 code)] 65)).alloc (.cells #[.int .i64 code] 27)
  exact ⟨rfl, (k0.blk ht (by simp)).set 0 _, k.setCell (by simp) _⟩

theorem rd_err (b : List UInt8) (h : endErr b ≠ 0) : Plain.Sp.rd b = (Plain.Sp.zero, 0, endErr b) := by
  unfold Plain.Sp.rd
  have e : (Plain.parts b).2.2 = (runT b 2).2 := by rw [parts_is]
  unfold endErr at h ⊢
  rw [e]
  generalize (runT b 2).2 = ee at *
  by_cases h0 : ee = 0
  · subst h0
    by_cases hr : (Plain.parts b).1.right = false
    · simp [hr]
    · rw [if_neg (by simp [hr])] at h; simp at h
  · rw [if_pos h0, if_neg (by simp [h0])]
theorem rd_ok (b : List UInt8) (h : endErr b = 0) : Plain.Sp.rd b = (⟨valN b 0, valN b 1, valN b 2, valN b 3, valN b 4, valT b 0, valT b 1⟩, (runT b 2).1, 0) := by
  unfold Plain.Sp.rd
  have e : (Plain.parts b).2.2 = (runT b 2).2 := by rw [parts_is]
  have e1 : (Plain.parts b).2.1 = (runT b 2).1 := by rw [parts_is]
  have e2 : (Plain.parts b).1 = ⟨valN b 0, valN b 1, valN b 2, valN b 3, valN b 4, valT b 0, valT b 1⟩ := by rw [parts_is]
  unfold endErr at h
  rw [e, e1]
  generalize (runT b 2).2 = ee at *
  by_cases h0 : ee = 0
  · subst h0
    by_cases hr : (Plain.parts b).1.right = false
    · rw [if_pos ⟨rfl, hr⟩] at h; simp at h
    · rw [if_neg (by simp), if_pos (by simpa using hr), e2]
  · rw [if_neg (by simp [h0])] at h; exact absurd h h0
theorem endErr_code (b : List UInt8) : endErr b = 0 ∨ endErr b = 11 ∨ endErr b = 12 := by
  have := Plain.parts_code b
  rw [parts_is] at this
  unfold endErr
  split
  · exact .inr (.inr rfl)
  · exact this
theorem two_new (w : World) (z1 z2 : Array Value) (t1 t2 : TypeId) :
    Kept [] w ((w.alloc (.cells z1 t1)).alloc (.cells z2 t2)) ∧ Blk ((w.alloc (.cells z1 t1)).alloc (.cells z2 t2)) w.heap.size z1 t1 ∧ Blk ((w.alloc (.cells z1 t1)).alloc (.cells z2 t2)) (w.heap.size + 1) z2 t2 ∧ ((w.alloc (.cells z1 t1)).alloc (.cells z2 t2)).heap.size = w.heap.size + 2 := by
  have h2 := Blk.new (w.alloc (.cells z1 t1)) z2 t2
  simp only [World.size_alloc] at h2
  exact ⟨((Kept.refl _ _).alloc _).alloc _, (((Kept.refl [] _).alloc _)).blk (Blk.new w z1 t1) (by simp), h2, by simp⟩

set_option maxHeartbeats 8000000 in
theorem spanGet_any (A : Option Addr) (n cap : Nat) (bs : List UInt8) (w : World) (hh : Handle w) (hn : bs.length = n) (hc : n ≤ cap) (hm : cap ≤ maxLen) (hf : n ≤ 1099511627776) (hA : Lies w A (cells bs)) :
    Calls Tryd.prog 12 #[.slice A n cap] w fun e w' => e = .returned (.tuple #[.agg #[.int .i64 (Plain.Sp.rd bs).1.t, .int .i64 (Plain.Sp.rd bs).1.i, .int .i64 (Plain.Sp.rd bs).1.p, .int .i64 (Plain.Sp.rd bs).1.s, .int .i64 (Plain.Sp.rd bs).1.d, .string (str (Plain.Sp.rd bs).1.sv), .string (str (Plain.Sp.rd bs).1.nm)], .int .i64 (Plain.Sp.rd bs).2.1, .int .i64 (Plain.Sp.rd bs).2.2]) ∧ Below w.heap.size w w' := by
  have HH := Lib.hid hh
  have HA := Lib.hid hA
  have HN := Lib.hid hn
  clear hh hA hn
  go_enter Tryd.func12, Tryd.ntmps12
  go_wp2_with fail
  obtain ⟨k2, hr0, hg0, hs2⟩ := two_new w zeroSp #[.slice A n cap, .int .i64 0, .nilIface] 23 43
  unfold zeroSp at k2 hr0 hg0 hs2
  generalize (w.alloc (.cells #[.int .i64 0, .int .i64 0, .int .i64 0, .int .i64 0, .int .i64 0, .string ⟨#[]⟩, .string ⟨#[]⟩] 23)).alloc (.cells #[.slice A n cap, .int .i64 0, .nilIface] 43) = W2 at *
  have hst : Stand w W2 (w.heap.size + 1) A n cap bs := ⟨HN.out, hc, hm, hf, HA.out, k2.to, by omega⟩
  refine (takeSpan_any w W2 (w.heap.size + 1) A n cap bs hst hg0).mono ?_
  rintro e w1 ⟨rfl, ⟨at1, r1⟩, kk1⟩
  have hr1 : Blk w1 w.heap.size #[.int .i64 0, .int .i64 0, .int .i64 0, .int .i64 0, .int .i64 0, .string ⟨#[]⟩, .string ⟨#[]⟩] 23 := kk1.blk hr0 (by simp)
  have hb1 : Below w.heap.size w w1 := kk1.below k2.to (by simp)
  have hs1 := kk1.size
  have hcode := endErr_code bs
  have hrdE := rd_err bs
  have hrdO := rd_ok bs
  rw [spT_two]
  clear hr0 hg0 hst kk1 k2
  generalize hS0 : str (valT bs 0) = S0 at *
  generalize hS1 : str (valT bs 1) = S1 at *
  generalize valN bs 0 = v0 at *
  generalize valN bs 1 = v1 at *
  generalize valN bs 2 = v2 at *
  generalize valN bs 3 = v3 at *
  generalize valN bs 4 = v4 at *
  have hool := runT_le bs 2
  rw [HN.out] at hool
  generalize (runT bs 2).1 = oo at *
  generalize endErr bs = ee at *
  have HRE := Lib.hid hrdE
  have HRO := Lib.hid hrdO
  have HS0 := Lib.hid hS0
  have HS1 := Lib.hid hS1
  clear hrdE hrdO hS0 hS1
  obtain ⟨k4, hv4, ht4, hs4⟩ := two_new w1 #[.int .i64 v0, .int .i64 v1, .int .i64 v2, .int .i64 v3, .int .i64 v4, .string S0, .string S1] #[.int .i64 0] 23 27
  have r4 := k4.blk r1 (by simp)
  have hr4 := k4.blk hr1 (by simp)
  have hb4 : Below w.heap.size w ((w1.alloc (.cells #[.int .i64 v0, .int .i64 v1, .int .i64 v2, .int .i64 v3, .int .i64 v4, .string S0, .string S1] 23)).alloc (.cells #[.int .i64 0] 27)) := hb1.trans (k4.to.mono hb1.size)
  have g2 : ((w1.alloc (.cells #[.int .i64 v0, .int .i64 v1, .int .i64 v2, .int .i64 v3, .int .i64 v4, .string S0, .string S1] 23)).alloc (.cells #[.int .i64 0] 27)).cell? ⟨w.heap.size + 1, 2, none⟩ = some (errS at1 ee) := r4.cell 2
  have R4 := Lib.hid r4
  have HR4 := Lib.hid hr4
  have HB4 := Lib.hid hb4
  have HV4 := Lib.hid hv4
  have HT4 := Lib.hid ht4
  clear r4 hr4 hb4 hv4 ht4 k4 r1 hr1 hb1
  by_cases he0 : ee = 0
  · subst he0
    rw [errS_zero] at g2
    go_wp2_with fail
    generalize ((w1.alloc (.cells #[.int .i64 v0, .int .i64 v1, .int .i64 v2, .int .i64 v3, .int .i64 v4, .string S0, .string S1] 23)).alloc (.cells #[.int .i64 0] 27)) = W4 at *
    refine (as_nil _ _).mono ?_
    rintro e w4 ⟨rfl, rfl⟩
    have g1 : W4.cell? ⟨w.heap.size + 1, 1, none⟩ = some (.int .i64 oo) := R4.out.cell 1
    obtain ⟨q0, q1, q2, q3, q4, q5, q6⟩ := HV4.out.seven
    obtain ⟨z0, z1, z2, z3, z4, z5, z6⟩ := HR4.out.seven
    have fz := HR4.out.frozen
    go_wp2
    go_region
    obtain ⟨bf, kf⟩ := seven W4 w.heap.size _ _ _ _ _ _ _ (.int .i64 v0) (.int .i64 v1) (.int .i64 v2) (.int .i64 v3) (.int .i64 v4) (.string S0) (.string S1) _ HR4.out
    generalize (((((((W4.setCell ⟨w.heap.size, 0, none⟩ (.int .i64 v0)).setCell ⟨w.heap.size, 1, none⟩ (.int .i64 v1)).setCell ⟨w.heap.size, 2, none⟩ (.int .i64 v2)).setCell ⟨w.heap.size, 3, none⟩ (.int .i64 v3)).setCell ⟨w.heap.size, 4, none⟩ (.int .i64 v4)).setCell ⟨w.heap.size, 5, none⟩ (.string S0)).setCell ⟨w.heap.size, 6, none⟩ (.string S1)) = wf at *
    obtain ⟨y0, y1, y2, y3, y4, y5, y6⟩ := bf.seven
    clear z0 z1 z2 z3 z4 z5 z6 fz
    go_wp2
    refine bodyPost_ret (v := .tuple #[.agg #[.int .i64 v0, .int .i64 v1, .int .i64 v2, .int .i64 v3, .int .i64 v4, .string S0, .string S1], .int .i64 oo, .int .i64 0]) (w := wf.drew) (by simp [results, Tryd.results12, go_sem, y0, y1, y2, y3, y4, y5, y6]) rfl ?_
    refine ⟨?_, (kf.below HB4.out (by simp)).drew⟩
    rw [HRO.out trivial, ← HS0.out, ← HS1.out]
    rfl
  · rw [errS_pos at1 ee he0] at g2
    go_wp2_with fail
    generalize ((w1.alloc (.cells #[.int .i64 v0, .int .i64 v1, .int .i64 v2, .int .i64 v3, .int .i64 v4, .string S0, .string S1] 23)).alloc (.cells #[.int .i64 0] 27)) = W4 at *
    refine (as_is at1 ee _ _ W4 (HH.out.below (HH.out.lt) HB4.out) HT4.out).mono ?_
    rintro e w5 ⟨rfl, t5, k5⟩
    have hr5 := k5.blk HR4.out (by simp; omega)
    have hb5 := k5.below HB4.out (by simp; omega)
    have t0 : w5.cell? ⟨w1.heap.size + 1, 0, none⟩ = some (.int .i64 ee) := t5.cell 0
    obtain ⟨z0, z1, z2, z3, z4, z5, z6⟩ := hr5.seven
    have fz := hr5.frozen
    go_wp2
    go_region
    obtain ⟨bf, kf⟩ := seven w5 w.heap.size _ _ _ _ _ _ _ (.int .i64 0) (.int .i64 0) (.int .i64 0) (.int .i64 0) (.int .i64 0) (.string ⟨#[]⟩) (.string ⟨#[]⟩) _ hr5
    generalize (((((((w5.setCell ⟨w.heap.size, 0, none⟩ (.int .i64 0)).setCell ⟨w.heap.size, 1, none⟩ (.int .i64 0)).setCell ⟨w.heap.size, 2, none⟩ (.int .i64 0)).setCell ⟨w.heap.size, 3, none⟩ (.int .i64 0)).setCell ⟨w.heap.size, 4, none⟩ (.int .i64 0)).setCell ⟨w.heap.size, 5, none⟩ (.string ⟨#[]⟩)).setCell ⟨w.heap.size, 6, none⟩ (.string ⟨#[]⟩)) = wf at *
    obtain ⟨y0, y1, y2, y3, y4, y5, y6⟩ := bf.seven
    clear z0 z1 z2 z3 z4 z5 z6 fz
    go_wp2
    refine bodyPost_ret (v := .tuple #[.agg #[.int .i64 0, .int .i64 0, .int .i64 0, .int .i64 0, .int .i64 0, .string ⟨#[]⟩, .string ⟨#[]⟩], .int .i64 0, .int .i64 ee]) (w := wf.drew) (by simp [results, Tryd.results12, go_sem, y0, y1, y2, y3, y4, y5, y6]) rfl ?_
    refine ⟨?_, (kf.below hb5 (by simp)).drew⟩
    rw [HRE.out he0]
    rfl
end Go.Proofs.YtiipcnldedjkdaaDoor
