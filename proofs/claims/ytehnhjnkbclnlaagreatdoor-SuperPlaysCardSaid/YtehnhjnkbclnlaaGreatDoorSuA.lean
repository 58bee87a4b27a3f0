/-
  Layer 10: super answers as the document says (SuperOk). Nothing is assumed.
-/
import Derived.Test.YtehnhjnkbclnlaaGreatDoorSuS

namespace Go.Proofs.YtehnhjnkbclnlaaGreatDoor
open Go.ChangeShapes Go.WideShapes Go.ChangeAt Go.RowKit
set_option maxRecDepth 100000
set_option maxHeartbeats 2000000 in
theorem ssave_any (g : Nat) (d : Plain.Dv) (x o : Int) (A : Option Addr) (cap n : Nat) (xs : List Tb.Ext) (w : World) (hn : xs.length = n) (hc : n ≤ cap) (hA : Old w g A (flatX xs)) (hdone : d.done < 4611686018427386000) (h : Fr w g d) :
    Calls Tryz.prog 8 #[.pointer (some ⟨g + 2, 0, none⟩), tabV x o A n cap] w fun e w' => e = .returned (.int .i64 ((Su.save d ⟨x, o, xs⟩).2 : Int)) ∧ Fr w' g (Su.save d ⟨x, o, xs⟩).1 ∧ Kept [g, g + 1, g + 2] w w' := by
  have hs1 : (w.alloc (.cells #[.pointer (some ⟨g + 2, 0, none⟩)] 25)).heap.size = w.heap.size + 1 := by simp
  have ba : Below w.heap.size w ((w.alloc (.cells #[.pointer (some ⟨g + 2, 0, none⟩)] 25)).alloc (.cells #[.int .i64 x, .int .i64 o, .slice A n cap] 31)) := ((Below.refl _ _).alloc (Nat.le_refl _) _).alloc (by rw [hs1]; omega) _
  have xa := (Blk.new w #[.pointer (some ⟨g + 2, 0, none⟩)] 25).below ((Below.refl _ _).alloc (Nat.le_refl _) (.cells #[.int .i64 x, .int .i64 o, .slice A n cap] 31)) (Nat.le_refl _)
  have xb := Blk.new (w.alloc (.cells #[.pointer (some ⟨g + 2, 0, none⟩)] 25)) #[.int .i64 x, .int .i64 o, .slice A n cap] 31
  rw [hs1] at xb
  have XA := Lib.hid xa
  have XB := Lib.hid xb
  have K0 := Lib.hid (Kept.of ba [g, g + 1, g + 2])
  have F0 := Lib.hid (h.below ba)
  have O0 := Lib.hid (hA.below ba)
  have HG := Lib.hid h.dev.lt
  have HN := Lib.hid hn
  clear xa xb ba hA h hs1 hn
  go_enter Tryz.func8, Tryz.ntmps8
  go_wp2_with fail
  generalize (w.alloc (.cells #[.pointer (some ⟨g + 2, 0, none⟩)] 25)).alloc (.cells #[.int .i64 x, .int .i64 o, .slice A n cap] 31) = w0 at *
  obtain ⟨R, hR⟩ : ∃ R, Tb.right ⟨x, o, xs⟩ = R := ⟨_, rfl⟩
  refine (tright_is x o A cap n xs w0 R HN.out hc O0.out.lies hR).mono ?_
  rintro e w1 ⟨rfl, b1⟩
  have F1 := Lib.hid (F0.out.below b1)
  have O1 := Lib.hid (O0.out.below b1)
  have XA1 := Lib.hid (XA.out.below b1 (Nat.le_refl _))
  have XB1 := Lib.hid (XB.out.below b1 (Nat.le_refl _))
  have K1 := Lib.hid (K0.out.trans (Kept.of b1 _))
  clear b1 F0 O0 XA XB K0
  rcases R with _ | _
  · have HSN := Lib.hid (Su.save_no (d := d) hR)
    clear hR
    go_wp2
    go_ret
    rw [HSN.out]
    exact ⟨rfl, F1.out, K1.out⟩
  have y0 : w1.cell? ⟨w.heap.size, 0, none⟩ = some (.pointer (some ⟨g + 2, 0, none⟩)) := XA1.out.cell 0
  have ba : Below w1.heap.size w1 (w1.alloc (.cells #[.func (.func 32) #[.pointer (some ⟨g + 2, 0, none⟩)] #[], .func (.func 29) #[] #[.pointer (some ⟨w.heap.size, 0, none⟩), .pointer (some ⟨w.heap.size + 1, 0, none⟩)], .func (.func 32) #[.pointer (some ⟨g + 2, 0, none⟩)] #[]] 66)) := (Below.refl _ _).alloc (Nat.le_refl _) _
  have HT := Lib.hid (sturn_any w1.heap.size g w.heap.size (w.heap.size + 1) d x o A cap n xs _ HN.out hc (O1.out.below ba) hR hdone (F1.out.below ba) (XA1.out.below ba (Nat.le_refl _)) (XB1.out.below ba (Nat.le_refl _)) (by have := HG.out; omega) (by have := HG.out; omega) (by have := F1.out.dev.lt; omega) (Blk.new w1 _ _))
  have K2 := Lib.hid (K1.out.trans (Kept.of ba _))
  clear ba hR
  go_wp2_with fail
  refine HT.out.mono ?_
  rintro e w3 ⟨rfl, f3, k3⟩
  have F3 := Lib.hid f3
  have K3 := Lib.hid (K2.out.trans k3)
  clear f3 k3
  go_wp2
  go_ret
  exact ⟨rfl, F3.out, K3.out⟩
theorem superOk : SuperOk where
  slot := fun x w _ _ => (sslot_any x w).mono fun _ _ ⟨h1, h2⟩ => ⟨h1, h2 ▸ Below.refl _ _⟩
  load := fun g d x o xs m b er w h hl hm => (sload_any w g d h).mono fun e w' ⟨A, m', c, h1, h2, h3, h4, h5, h6⟩ => by
    rw [hl] at h1 h2 h4
    obtain rfl : m' = m := by rw [← h2]; exact hm
    exact ⟨A, c, h1, h3, h4, h5, h6⟩
  save := fun g d x o A cap n xs w hn hc hA hd h => ssave_any g d x o A cap n xs w hn hc hA hd h

end Go.Proofs.YtehnhjnkbclnlaaGreatDoor
