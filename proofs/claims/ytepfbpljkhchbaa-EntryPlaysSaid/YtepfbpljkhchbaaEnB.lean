/-
  Layer 14: turntableref05.SameBrief of any numbers, turntableref14.SameEntry, and its own: what these answer, of any entries. Assumed: that their services lie in memory, and that there are at most 9000.
-/
import Derived.Test.YtepfbpljkhchbaaEnA

namespace Go.Proofs.Ytepfbpljkhchbaa
open Go.RowKit Go.Maps En
set_option maxRecDepth 100000

set_option maxHeartbeats 4000000 in
theorem sameBz_any (a0 a1 a2 a3 : Int) (a4 : List (List UInt8)) (b0 b1 b2 b3 : Int) (b4 : List (List UInt8)) (A B : Option Addr) (na nb ca cb : Nat) (w : World) (hna : a4.length = na) (hnb : b4.length = nb) (hA : Svs w a4 A ca) (hB : Svs w b4 B cb) :
    Calls Try.prog 46 #[.agg #[.int .i64 a0, .int .i64 a1, .int .i64 a2, .int .i64 a3, .slice A na ca], .agg #[.int .i64 b0, .int .i64 b1, .int .i64 b2, .int .i64 b3, .slice B nb cb]] w fun e w' => e = .returned (.bool (decide ((a0, a1, a2, a3, a4) = (b0, b1, b2, b3, b4)))) ∧ Below w.heap.size w w' := by
  obtain ⟨D, hD⟩ : ∃ D, decide ((a0, a1, a2, a3, a4) = (b0, b1, b2, b3, b4)) = D := ⟨_, rfl⟩
  rw [hD]
  have HD := Lib.hid (show D = (decide (a0 = b0) && (decide (a1 = b1) && (decide (a2 = b2) && (decide (a3 = b3) && decide (a4 = b4))))) by
    rw [← hD, Bool.eq_iff_iff]
    simp)
  clear hD
  have HT := Lib.hid (fun (u : World) (h : Below w.heap.size w u) => sameT_any A B na nb ca cb a4 b4 u hna hnb (hna ▸ hA.le) (hnb ▸ hB.le) hA.cap hB.cap (hA.lies.below h) (hB.lies.below h))
  obtain ⟨E, hE⟩ : ∃ E, decide (a4 = b4) = E := ⟨_, rfl⟩
  rw [hE] at HT HD
  clear hE hA hB hna hnb
  by_cases h0 : a0 = b0
  rotate_left
  · have q : (a0 == b0) = false := beq_eq_false_iff_ne.2 h0
    have hF : D = false := by rw [HD.out]; simp [h0]
    subst hF
    clear h0
    go_enter Try.func46, Try.ntmps46
    go_wp2
    go_ret
    exact ⟨rfl, by go_grown⟩
  subst h0
  by_cases h1 : a1 = b1
  rotate_left
  · have q : (a1 == b1) = false := beq_eq_false_iff_ne.2 h1
    have hF : D = false := by rw [HD.out]; simp [h1]
    subst hF
    clear h1
    go_enter Try.func46, Try.ntmps46
    go_wp2
    go_ret
    exact ⟨rfl, by go_grown⟩
  subst h1
  by_cases h2 : a2 = b2
  rotate_left
  · have q : (a2 == b2) = false := beq_eq_false_iff_ne.2 h2
    have hF : D = false := by rw [HD.out]; simp [h2]
    subst hF
    clear h2
    go_enter Try.func46, Try.ntmps46
    go_wp2
    go_ret
    exact ⟨rfl, by go_grown⟩
  subst h2
  by_cases h3 : a3 = b3
  rotate_left
  · have q : (a3 == b3) = false := beq_eq_false_iff_ne.2 h3
    have hF : D = false := by rw [HD.out]; simp [h3]
    subst hF
    clear h3
    go_enter Try.func46, Try.ntmps46
    go_wp2
    go_ret
    exact ⟨rfl, by go_grown⟩
  subst h3
  have hF : D = E := by rw [HD.out]; simp
  subst hF
  go_enter Try.func46, Try.ntmps46
  have c1 : Below w.heap.size w ((w.alloc (.cells #[.int .i64 a0, .int .i64 a1, .int .i64 a2, .int .i64 a3, .slice A na ca] 33)).alloc (.cells #[.int .i64 a0, .int .i64 a1, .int .i64 a2, .int .i64 a3, .slice B nb cb] 33)) := ((Below.refl _ _).alloc (Nat.le_refl _) _).alloc (by simp) _
  go_wp2_with fail
  refine (HT.out _ c1).mono ?_
  rintro e w2 ⟨rfl, d2⟩
  go_wp2
  go_ret
  exact ⟨rfl, c1.trans (d2.mono c1.size)⟩

/-- what is weighed of it -/
def itemE (x : E) : Plain.It := ⟨x.id, x.cl, x.tick, x.cost, x.pin⟩
theorem two_boxes (w : World) (x y : E) (s t : Value) : ∃ W, (w.alloc (.cells (enA x s) 35)).alloc (.cells (enA y t) 35) = W ∧ BoxE W w.heap.size x s ∧ BoxE W (w.heap.size + 1) y t ∧ Below w.heap.size w W ∧ W.heap.size = w.heap.size + 2 := by
  refine ⟨_, rfl, (BoxE.new w x s).below ((Below.refl _ _).alloc (Nat.le_refl _) _), ?_, ((Below.refl _ _).alloc (Nat.le_refl _) _).alloc (by simp) _, by simp⟩
  have := BoxE.new (w.alloc (.cells (enA x s) 35)) y t
  rwa [World.size_alloc] at this

set_option maxHeartbeats 8000000 in
theorem sameE_any (x y : E) (A B : Option Addr) (na nb ca cb : Nat) (w : World) (hna : x.sv.length = na) (hnb : y.sv.length = nb) (hA : Svs w x.sv A ca) (hB : Svs w y.sv B cb) :
    Calls Try.prog 25 #[.agg (enA x (.slice A na ca)), .agg (enA y (.slice B nb cb))] w fun e w' => e = .returned (.bool (decide (x = y))) ∧ Below w.heap.size w w' := by
  obtain ⟨D, hD⟩ : ∃ D, decide (x = y) = D := ⟨_, rfl⟩
  rw [hD]
  have HD := Lib.hid (show D = (decide (itemE x = itemE y) && (decide ((x.bid, x.lo, x.hi, x.many, x.sv) = (y.bid, y.lo, y.hi, y.many, y.sv)) && (decide (x.seq = y.seq) && (decide (x.pl = y.pl) && decide (x.sz = y.sz))))) by
    rw [← hD, Bool.eq_iff_iff]
    obtain ⟨xid, xcl, xti, xco, xpi, xbi, xlo, xhi, xma, xsv, xse, xpl, xsz⟩ := x
    obtain ⟨yid, ycl, yti, yco, ypi, ybi, ylo, yhi, yma, ysv, yse, ypl, ysz⟩ := y
    simp [itemE, E.mk.injEq]
    constructor <;> (intro h; simp_all))
  clear hD
  obtain ⟨W, hW, hbx, hby, hBW, -⟩ := two_boxes w x y (.slice A na ca) (.slice B nb cb)
  have HIT := Lib.hid (fun (u : World) => eq_it u (itemE x) (itemE y))
  have HBR := Lib.hid (fun (u : World) (h : Below w.heap.size w u) => sameBz_any x.bid x.lo x.hi x.many x.sv y.bid y.lo y.hi y.many y.sv A B na nb ca cb u hna hnb (hA.below h) (hB.below h))
  obtain ⟨DI, hDI⟩ : ∃ DI, decide (itemE x = itemE y) = DI := ⟨_, rfl⟩
  obtain ⟨DB, hDB⟩ : ∃ DB, decide ((x.bid, x.lo, x.hi, x.many, x.sv) = (y.bid, y.lo, y.hi, y.many, y.sv)) = DB := ⟨_, rfl⟩
  rw [hDI] at HD HIT
  rw [hDB] at HD HBR
  have HBX := Lib.hid hbx
  have HBY := Lib.hid hby
  have HBW := Lib.hid hBW
  have HW := Lib.hid hW
  clear hA hB hna hnb hDI hDB hbx hby hBW hW
  obtain ⟨xid, xcl, xti, xco, xpi, xbi, xlo, xhi, xma, xsv, xse, xpl, xsz⟩ := x
  obtain ⟨yid, ycl, yti, yco, ypi, ybi, ylo, yhi, yma, ysv, yse, ypl, ysz⟩ := y
  unfold enA at HW
  unfold enA
  simp only [itemE, itV] at *
  have hit := HIT.out
  go_enter Try.func25, Try.ntmps25
  obtain ⟨a0, a1, a2, a3, a4, a5, a6, a7, a8, a9, a10, a11, a12⟩ := HBX.out.all
  obtain ⟨b0, b1, b2, b3, b4, b5, b6, b7, b8, b9, b10, b11, b12⟩ := HBY.out.all
  simp only at a0 a1 a2 a3 a4 a5 a6 a7 a8 a9 a10 a11 a12 b0 b1 b2 b3 b4 b5 b6 b7 b8 b9 b10 b11 b12
  rcases DI with _ | _
  · have hF : D = false := by rw [HD.out]; rfl
    subst hF
    go_wp2
    go_ret
    exact ⟨rfl, by go_grown⟩
  go_wp2_with fail
  rw [HW.out]
  clear a0 a1 a2 a3 a4 a5 a6 a7 a8 a9 a10 a11 a12 b0 b1 b2 b3 b4 b5 b6 b7 b8 b9 b10 b11 b12 hit
  refine (HBR.out _ HBW.out).mono ?_
  rintro e w2 ⟨rfl, d2⟩
  obtain ⟨-, -, -, -, -, -, -, -, -, -, a10, a11, a12⟩ := (BoxE.below HBX.out d2).all
  obtain ⟨-, -, -, -, -, -, -, -, -, -, b10, b11, b12⟩ := (BoxE.below HBY.out d2).all
  simp only at a10 a11 a12 b10 b11 b12
  have HB2 := Lib.hid (HBW.out.trans (d2.mono HBW.out.size))
  clear d2
  rcases DB with _ | _
  · have hF : D = false := by rw [HD.out]; rfl
    subst hF
    go_wp2
    go_ret
    exact ⟨rfl, HB2.out⟩
  by_cases h1 : xse = yse
  rotate_left
  · have q : (xse == yse) = false := beq_eq_false_iff_ne.2 h1
    have hF : D = false := by rw [HD.out]; simp [h1]
    subst hF
    clear h1
    go_wp2
    go_ret
    exact ⟨rfl, HB2.out⟩
  subst h1
  by_cases h1 : xpl = ypl
  rotate_left
  · have q : (xpl == ypl) = false := beq_eq_false_iff_ne.2 h1
    have hF : D = false := by rw [HD.out]; simp [h1]
    subst hF
    clear h1
    go_wp2
    go_ret
    exact ⟨rfl, HB2.out⟩
  subst h1
  by_cases h1 : xsz = ysz
  rotate_left
  · have q : (xsz == ysz) = false := beq_eq_false_iff_ne.2 h1
    have hF : D = false := by rw [HD.out]; simp [h1]
    subst hF
    clear h1
    go_wp2
    go_ret
    exact ⟨rfl, HB2.out⟩
  subst h1
  have hF : D = true := by rw [HD.out]; simp
  subst hF
  go_wp2
  go_ret
  exact ⟨rfl, HB2.out⟩
end Go.Proofs.Ytepfbpljkhchbaa
