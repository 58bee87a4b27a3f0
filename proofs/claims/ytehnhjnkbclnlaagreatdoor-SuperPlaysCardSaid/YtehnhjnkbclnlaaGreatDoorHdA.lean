/-
  Layer 9: a table that the laws begin with, and what table's functions answer, in the form that the laws use. Nothing is assumed but what each theorem says.
-/
import Derived.Test.YtehnhjnkbclnlaaGreatDoorTabW

namespace Go.Proofs.YtehnhjnkbclnlaaGreatDoor
open Go.RowKit
set_option maxRecDepth 100000

def xs0 : List Tb.Ext := [⟨5, 300⟩, ⟨0, 0⟩, ⟨6, 0⟩, ⟨0, 0⟩]
def t0 : Tb.T := ⟨3, 2, xs0⟩
theorem t0_right : Tb.right ⟨3, 2, xs0⟩ = true := by decide
theorem t0_ord : Tb.ord xs0 = [0, 2] := by
  refine (Tb.ord_uniq (Tb.right_iff.1 t0_right).ap ?_ ?_).symm
  · rw [show Tb.used xs0 = [0, 2] by decide]
  · decide
theorem t0_free : Tb.free xs0 = [1, 3] := by decide
theorem t0_last : Tb.last xs0 = 6 := by decide
theorem zeros_no : Tb.ok (List.replicate 64 0) = false := by
  cases ho : Tb.ok (List.replicate 64 0) with
  | false => rfl
  | true =>
    have h := (Tb.ok_back ho).1
    rw [show Tb.right (Tb.told (List.replicate 64 0)) = false by decide] at h
    cases h

theorem one_new (w : World) : Calls Tryz.prog 26 #[] w fun e w' => ∃ A, e = .returned (tabV 3 2 A 4 4) ∧ Lies w' A (flatX xs0) ∧ (∀ ad, A = some ad → w.heap.size ≤ ad.block) ∧ Below w.heap.size w w' := by
  go_enter Tryz.func26, Tryz.ntmps26
  go_wp2
  obtain ⟨wa, hwa⟩ : ∃ wa, w.alloc (.cells #[.int .i64 3, .int .i64 2, .slice (some ⟨w.heap.size + 1, 0, none⟩) 4 4] 31) = wa := ⟨_, rfl⟩
  have h1 := Blk.new w #[.int .i64 3, .int .i64 2, .slice (some ⟨w.heap.size + 1, 0, none⟩) 4 4] 31
  have hs : wa.heap.size = w.heap.size + 1 := by rw [← hwa]; simp
  have hb : Below w.heap.size w (wa.alloc (.cells #[.int .i64 5, .int .i64 300, .int .i64 0, .int .i64 0, .int .i64 6, .int .i64 0, .int .i64 0, .int .i64 0] 81)) := by
    rw [← hwa]; exact ((Below.refl _ _).alloc (Nat.le_refl _) _).alloc (by simp) _
  rw [hwa] at h1 ⊢
  have h2 := Lies.new wa #[.int .i64 5, .int .i64 300, .int .i64 0, .int .i64 0, .int .i64 6, .int .i64 0, .int .i64 0, .int .i64 0] 81
  have h3 := h1.below ((Below.refl wa.heap.size wa).alloc (Nat.le_refl _) (.cells #[.int .i64 5, .int .i64 300, .int .i64 0, .int .i64 0, .int .i64 6, .int .i64 0, .int .i64 0, .int .i64 0] 81)) (Nat.le_refl _)
  rw [hs] at h2
  generalize wa.alloc (.cells #[.int .i64 5, .int .i64 300, .int .i64 0, .int .i64 0, .int .i64 6, .int .i64 0, .int .i64 0, .int .i64 0] 81) = wf at *
  obtain ⟨y0, y1, y2⟩ := h3.three
  refine bodyPost_ret (v := tabV 3 2 (some ⟨w.heap.size + 1, 0, none⟩) 4 4) (w := wf) (by simp [results, Tryz.results26, go_sem, y0, y1, y2]) rfl ?_
  exact ⟨_, rfl, h2, fun ad e => (by injection e with e; subst e; exact Nat.le_succ _), hb⟩
theorem one_any (w : World) : Calls Tryz.prog 26 #[] w fun e w' => ∃ A, e = .returned (tabV 3 2 A 4 4) ∧ Lies w' A (flatX xs0) ∧ Below w.heap.size w w' :=
  (one_new w).mono fun _ _ ⟨A, h1, h2, _, h3⟩ => ⟨A, h1, h2, h3⟩

/-- two rows of places that are alike -/
theorem sameInts_is (A D : Option Addr) (n m c d : Nat) (a b : List Nat) (w : World) (hn : a.length = n) (hm : b.length = m) (hn9 : n ≤ 1000) (hab : a = b) (hA : Lies w A (nums9 a)) (hD : Lies w D (nums9 b)) :
    Calls Tryz.prog 21 #[.slice A n c, .slice D m d] w fun e w' => e = .returned (.bool true) ∧ Below w.heap.size w w' :=
  (sameInts9_any A D n m c d a b w hn hm hn9 hA hD).mono fun _ _ h => ⟨by rw [h.1, decide_eq_true hab], h.2⟩
theorem tput_yes0 (g o : Int) (A : Option Addr) (cap n : Nat) (xs : List Tb.Ext) (w : World) (hn : xs.length = n) (hc : n ≤ cap) (hA : Lies w A (flatX xs)) (hT : Tab w) (hr : Tb.right ⟨g, o, xs⟩ = true) :
    Calls Tryz.prog 30 #[tabV g o A n cap] w fun e w' => ∃ g', e = .returned (.slice (some ⟨g', 0, none⟩) 64 64) ∧ w.heap.size ≤ g' ∧ Blk w' g' (cells (Tb.put ⟨g, o, xs⟩)).toArray 106 ∧ Below w.heap.size w w' := by
  refine (tput_any g o A cap n xs w hn hc hA hT).mono ?_
  rintro e w' ⟨hb, ⟨_, g', h1, h2, h3⟩ | ⟨h, _⟩⟩
  · exact ⟨g', h1, h2, h3, hb⟩
  · rw [hr] at h; cases h
theorem tput_no0 (g o : Int) (A : Option Addr) (cap n : Nat) (xs : List Tb.Ext) (w : World) (hn : xs.length = n) (hc : n ≤ cap) (hA : Lies w A (flatX xs)) (hT : Tab w) (hr : Tb.right ⟨g, o, xs⟩ = false) :
    Calls Tryz.prog 30 #[tabV g o A n cap] w fun e w' => e = .returned (.slice none 0 0) ∧ Below w.heap.size w w' := by
  refine (tput_any g o A cap n xs w hn hc hA hT).mono ?_
  rintro e w' ⟨hb, ⟨h, _⟩ | ⟨_, h⟩⟩
  · rw [hr] at h; cases h
  · exact ⟨h, hb⟩
theorem tright_is (g o : Int) (A : Option Addr) (cap n : Nat) (xs : List Tb.Ext) (w : World) (R : Bool) (hn : xs.length = n) (hc : n ≤ cap) (hA : Lies w A (flatX xs)) (hr : Tb.right ⟨g, o, xs⟩ = R) :
    Calls Tryz.prog 28 #[tabV g o A n cap] w fun e w' => e = .returned (.bool R) ∧ Below w.heap.size w w' := by
  subst hr; exact tright_any g o A cap n xs w hn hc hA
theorem tget_is (A : Option Addr) (cap n m : Nat) (s : List UInt8) (g o : Int) (xs : List Tb.Ext) (OK : Bool) (w : World) (hn : s.length = n) (hc : n ≤ cap) (hA : Lies w A (cells s)) (hT : Tab w) (ht : Tb.got s = ⟨g, o, xs⟩) (ho : Tb.ok s = OK) (hm : xs.length = m) :
    Calls Tryz.prog 43 #[.slice A n cap] w fun e w' => ∃ A c, e = .returned (.tuple #[tabV g o A m c, .bool OK]) ∧ m ≤ c ∧ Lies w' A (flatX xs) ∧ Below w.heap.size w w' := by
  subst ho; subst hm
  refine (tget_any A cap n s w hn hc hA hT).mono ?_
  rintro e w' ⟨A', m, c, rfl, h0, h1, h2, h3⟩
  rw [ht] at h0 h2 ⊢
  subst h0
  exact ⟨A', c, rfl, h1, h2, h3⟩
theorem rsame_is (g o : Int) (A : Option Addr) (cap n : Nat) (xs : List Tb.Ext) (g2 o2 : Int) (D : Option Addr) (dap m : Nat) (ys : List Tb.Ext) (w : World) (R : Bool) (hn : xs.length = n) (hm : ys.length = m) (hn9 : n ≤ 1000) (hA : Lies w A (flatX xs)) (hD : Lies w D (flatX ys)) (hR : decide ((⟨g, o, xs⟩ : Tb.T) = ⟨g2, o2, ys⟩) = R) :
    Calls Tryz.prog 18 #[tabV g o A n cap, tabV g2 o2 D m dap] w fun e w' => e = .returned (.bool R) ∧ Below w.heap.size w w' := by
  subst hR; exact rsame_any g o A cap n xs g2 o2 D dap m ys w hn hm hn9 hA hD

end Go.Proofs.YtehnhjnkbclnlaaGreatDoor
