/-
  Layer 9: the laws' live question (turntablelaw09.head) answers true, and turns nothing that was there. Assumed: that the program's table holds what its text lays there.
-/
import Derived.Test.YtbjaieopjkbijaaDoorTbW

namespace Go.Proofs.YtbjaieopjkbijaaDoor
open Go.RowKit
set_option maxRecDepth 100000

def xs0 : List Tb.Ext := [⟨5, 300⟩, ⟨0, 0⟩, ⟨6, 0⟩, ⟨0, 0⟩]
def t0 : Tb.T := ⟨3, 2, xs0⟩
theorem t0_right : Tb.right ⟨3, 2, xs0⟩ = true := by decide
theorem t0_ord : Tb.ord xs0 = [0, 2] := by
  refine (Tb.ord_uniq (Tb.right_iff.1 t0_right).ap ?_ ?_).symm
  · rw [show Tb.used xs0 = [0, 2] by decide]
  · decide
theorem t0_free : Tb.free xs0 = [1, 3] := by decide
theorem t0_last : Tb.last xs0 = 6 := by decide
theorem zeros_no : Tb.ok (List.replicate 64 0) = false := by
  cases ho : Tb.ok (List.replicate 64 0) with
  | false => rfl
  | true =>
    have h := (Tb.ok_back ho).1
    rw [show Tb.right (Tb.told (List.replicate 64 0)) = false by decide] at h
    cases h

theorem one_any (w : World) : Calls Tryd.prog 25 #[] w fun e w' => ∃ A, e = .returned (tabV 3 2 A 4 4) ∧ Lies w' A (flatX xs0) ∧ Below w.heap.size w w' := by
  go_enter Tryd.func25, Tryd.ntmps25
  go_wp2
  obtain ⟨wa, hwa⟩ : ∃ wa, w.alloc (.cells #[.int .i64 3, .int .i64 2, .slice (some ⟨w.heap.size + 1, 0, none⟩) 4 4] 24) = wa := ⟨_, rfl⟩
  have h1 := Blk.new w #[.int .i64 3, .int .i64 2, .slice (some ⟨w.heap.size + 1, 0, none⟩) 4 4] 24
  have hs : wa.heap.size = w.heap.size + 1 := by rw [← hwa]; simp
  have hb : Below w.heap.size w (wa.alloc (.cells #[.int .i64 5, .int .i64 300, .int .i64 0, .int .i64 0, .int .i64 6, .int .i64 0, .int .i64 0, .int .i64 0] 39)) := by
    rw [← hwa]; exact ((Below.refl _ _).alloc (Nat.le_refl _) _).alloc (by simp) _
  rw [hwa] at h1 ⊢
  have h2 := Lies.new wa #[.int .i64 5, .int .i64 300, .int .i64 0, .int .i64 0, .int .i64 6, .int .i64 0, .int .i64 0, .int .i64 0] 39
  have h3 := h1.below ((Below.refl wa.heap.size wa).alloc (Nat.le_refl _) (.cells #[.int .i64 5, .int .i64 300, .int .i64 0, .int .i64 0, .int .i64 6, .int .i64 0, .int .i64 0, .int .i64 0] 39)) (Nat.le_refl _)
  rw [hs] at h2
  generalize wa.alloc (.cells #[.int .i64 5, .int .i64 300, .int .i64 0, .int .i64 0, .int .i64 6, .int .i64 0, .int .i64 0, .int .i64 0] 39) = wf at *
  obtain ⟨y0, y1, y2⟩ := h3.three
  refine bodyPost_ret (v := tabV 3 2 (some ⟨w.heap.size + 1, 0, none⟩) 4 4) (w := wf) (by simp [results, Tryd.results25, go_sem, y0, y1, y2]) rfl ?_
  exact ⟨_, rfl, h2, hb⟩

/-- two rows of places that are alike -/
theorem sameInts_is (A D : Option Addr) (n m c d : Nat) (a b : List Nat) (w : World) (hn : a.length = n) (hm : b.length = m) (hn9 : n ≤ 1000) (hab : a = b) (hA : Lies w A (nums a)) (hD : Lies w D (nums b)) :
    Calls Tryd.prog 17 #[.slice A n c, .slice D m d] w fun e w' => e = .returned (.bool true) ∧ Below w.heap.size w w' :=
  (sameInts_any A D n m c d a b w hn hm hn9 hA hD).mono fun _ _ h => ⟨by rw [h.1, decide_eq_true hab], h.2⟩
theorem tput_yes0 (g o : Int) (A : Option Addr) (cap n : Nat) (xs : List Tb.Ext) (w : World) (hn : xs.length = n) (hc : n ≤ cap) (hA : Lies w A (flatX xs)) (hT : Tab w) (hr : Tb.right ⟨g, o, xs⟩ = true) :
    Calls Tryd.prog 15 #[tabV g o A n cap] w fun e w' => ∃ g', e = .returned (.slice (some ⟨g', 0, none⟩) 64 64) ∧ w.heap.size ≤ g' ∧ Blk w' g' (cells (Tb.put ⟨g, o, xs⟩)).toArray 71 ∧ Below w.heap.size w w' := by
  refine (tput_any g o A cap n xs w hn hc hA hT).mono ?_
  rintro e w' ⟨hb, ⟨_, g', h1, h2, h3⟩ | ⟨h, _⟩⟩
  · exact ⟨g', h1, h2, h3, hb⟩
  · rw [hr] at h; cases h
theorem tput_no0 (g o : Int) (A : Option Addr) (cap n : Nat) (xs : List Tb.Ext) (w : World) (hn : xs.length = n) (hc : n ≤ cap) (hA : Lies w A (flatX xs)) (hT : Tab w) (hr : Tb.right ⟨g, o, xs⟩ = false) :
    Calls Tryd.prog 15 #[tabV g o A n cap] w fun e w' => e = .returned (.slice none 0 0) ∧ Below w.heap.size w w' := by
  refine (tput_any g o A cap n xs w hn hc hA hT).mono ?_
  rintro e w' ⟨hb, ⟨h, _⟩ | ⟨_, h⟩⟩
  · rw [hr] at h; cases h
  · exact ⟨h, hb⟩
theorem tright_is (g o : Int) (A : Option Addr) (cap n : Nat) (xs : List Tb.Ext) (w : World) (R : Bool) (hn : xs.length = n) (hc : n ≤ cap) (hA : Lies w A (flatX xs)) (hr : Tb.right ⟨g, o, xs⟩ = R) :
    Calls Tryd.prog 13 #[tabV g o A n cap] w fun e w' => e = .returned (.bool R) ∧ Below w.heap.size w w' := by
  subst hr; exact tright_any g o A cap n xs w hn hc hA
theorem torder_is (g o : Int) (A : Option Addr) (cap n m : Nat) (xs : List Tb.Ext) (l : List Nat) (w : World) (hn : xs.length = n) (hc : n ≤ cap) (hA : Lies w A (flatX xs)) (hl : (if Tb.right ⟨g, o, xs⟩ = true then Tb.ord xs else []) = l) (hm : l.length = m) :
    Calls Tryd.prog 18 #[tabV g o A n cap] w fun e w' => ∃ A c, e = .returned (.slice A m c) ∧ m ≤ c ∧ Lies w' A (nums l) ∧ Below w.heap.size w w' := by
  subst hl; subst hm; exact torder_any g o A cap n xs w hn hc hA
theorem tfree_is (g o : Int) (A : Option Addr) (cap n m : Nat) (xs : List Tb.Ext) (l : List Nat) (w : World) (hn : xs.length = n) (hc : n ≤ cap) (hA : Lies w A (flatX xs)) (hl : (if Tb.right ⟨g, o, xs⟩ = true then Tb.free xs else []) = l) (hm : l.length = m) :
    Calls Tryd.prog 20 #[tabV g o A n cap] w fun e w' => ∃ A c, e = .returned (.slice A m c) ∧ m ≤ c ∧ Lies w' A (nums l) ∧ Below w.heap.size w w' := by
  subst hl; subst hm; exact tfree_gives g o A cap n xs w hn hc hA
theorem tlast_is (g o : Int) (A : Option Addr) (cap n : Nat) (xs : List Tb.Ext) (w : World) (V : Int) (hn : xs.length = n) (hc : n ≤ cap) (hA : Lies w A (flatX xs)) (hl : (if Tb.right ⟨g, o, xs⟩ = true then Tb.last xs else 0) = V) :
    Calls Tryd.prog 22 #[tabV g o A n cap] w fun e w' => e = .returned (.int .i64 V) ∧ Below w.heap.size w w' := by
  subst hl; exact tlast_any g o A cap n xs w hn hc hA
theorem tget_is (A : Option Addr) (cap n m : Nat) (s : List UInt8) (g o : Int) (xs : List Tb.Ext) (OK : Bool) (w : World) (hn : s.length = n) (hc : n ≤ cap) (hA : Lies w A (cells s)) (hT : Tab w) (ht : Tb.got s = ⟨g, o, xs⟩) (ho : Tb.ok s = OK) (hm : xs.length = m) :
    Calls Tryd.prog 11 #[.slice A n cap] w fun e w' => ∃ A c, e = .returned (.tuple #[tabV g o A m c, .bool OK]) ∧ m ≤ c ∧ Lies w' A (flatX xs) ∧ Below w.heap.size w w' := by
  subst ho; subst hm
  refine (tget_any A cap n s w hn hc hA hT).mono ?_
  rintro e w' ⟨A', m, c, rfl, h0, h1, h2, h3⟩
  rw [ht] at h0 h2 ⊢
  subst h0
  exact ⟨A', c, rfl, h1, h2, h3⟩
theorem rsame_is (g o : Int) (A : Option Addr) (cap n : Nat) (xs : List Tb.Ext) (g2 o2 : Int) (D : Option Addr) (dap m : Nat) (ys : List Tb.Ext) (w : World) (R : Bool) (hn : xs.length = n) (hm : ys.length = m) (hn9 : n ≤ 1000) (hA : Lies w A (flatX xs)) (hD : Lies w D (flatX ys)) (hR : decide ((⟨g, o, xs⟩ : Tb.T) = ⟨g2, o2, ys⟩) = R) :
    Calls Tryd.prog 24 #[tabV g o A n cap, tabV g2 o2 D m dap] w fun e w' => e = .returned (.bool R) ∧ Below w.heap.size w w' := by
  subst hR; exact rsame_any g o A cap n xs g2 o2 D dap m ys w hn hm hn9 hA hD

set_option maxHeartbeats 4000000 in
theorem head_any (w : World) (hT : Tab w) : Calls Tryd.prog 10 #[] w fun e w' => e = .returned (.bool true) ∧ Below w.heap.size w w' := by
  have HT := Lib.hid hT
  clear hT
  have HPL := Lib.hid (show (Tb.put t0).length = 64 by rw [Tb.put_length, if_pos (show Tb.right t0 = true from t0_right)])
  have HGT := Lib.hid (show Tb.got (Tb.put t0) = t0 from Tb.got_put t0_right)
  have HOK := Lib.hid (show Tb.ok (Tb.put t0) = true from Tb.ok_put t0_right)
  have HC := Lib.hid (show (cells (Tb.put t0)).toArray[0]? = some (.int .u8 30) ∧ (cells (Tb.put t0)).toArray[1]? = some (.int .u8 3) ∧ (cells (Tb.put t0)).toArray[5]? = some (.int .u8 4) ∧ (cells (Tb.put t0)).toArray[6]? = some (.int .u8 3) ∧ (cells (Tb.put t0)).toArray[7]? = some (.int .u8 5) by
    rw [Tb.put_made (t := t0) t0_right]
    exact ⟨rfl, rfl, rfl, rfl, rfl⟩)
  have HP9 := Lib.hid (fun (A : Option Addr) (W : World) (hA : Lies W A (flatX xs0)) (hT : Tab W) => (show Calls Tryd.prog 15 #[tabV 3 2 A 4 4] W fun e w' => ∃ g', e = .returned (.slice (some ⟨g', 0, none⟩) 64 64) ∧ W.heap.size ≤ g' ∧ Blk w' g' (cells (Tb.put t0)).toArray 71 ∧ Below W.heap.size W w' from tput_yes0 3 2 A 4 4 xs0 W rfl (by omega) hA hT t0_right))
  generalize hS : Tb.put t0 = S at *
  clear hS
  go_enter Tryd.func10, Tryd.ntmps10
  go_wp2_with fail
  refine (one_any w).mono ?_
  rintro e w1 ⟨A1, rfl, hA1, b1⟩
  have hx1 := Blk.new w1 #[.int .i64 3, .int .i64 2, .slice A1 4 4] 24
  have ba : Below w1.heap.size w1 (w1.alloc (.cells #[.int .i64 3, .int .i64 2, .slice A1 4 4] 24)) := (Below.refl _ _).alloc (Nat.le_refl _) _
  have HX1 := Lib.hid hx1
  have HA1 := Lib.hid (hA1.below ba)
  have B1 := Lib.hid (b1.trans (ba.mono b1.size))
  clear hA1 b1 ba hx1
  go_wp2_with fail
  have HT1 := Lib.hid (HT.out.below B1.out (Nat.le_refl _))
  generalize w1.alloc (.cells #[.int .i64 3, .int .i64 2, .slice A1 4 4] 24) = w2 at *
  refine (HP9.out A1 w2 HA1.out HT1.out).mono ?_
  rintro e w3 ⟨g3, rfl, -, hb3, b3⟩
  have HB3 := Lib.hid hb3
  have HX3 := Lib.hid (HX1.out.below b3 (Nat.le_refl _))
  have HA3 := Lib.hid (HA1.out.below b3)
  have HT3 := Lib.hid (HT1.out.below b3 (Nat.le_refl _))
  have B3 := Lib.hid (B1.out.trans (b3.mono B1.out.size))
  clear b3 hb3
  go_wp2_with fail
  refine (tget_is _ 64 64 4 S 3 2 xs0 true w3 HPL.out (by omega) HB3.out.liesAll HT3.out HGT.out HOK.out rfl).mono ?_
  rintro e w4 ⟨A4, c4, rfl, hc4, hA4, b4⟩
  have hx4 := Blk.new w4 #[.int .i64 3, .int .i64 2, .slice A4 4 c4] 24
  have ba : Below w4.heap.size w4 (w4.alloc (.cells #[.int .i64 3, .int .i64 2, .slice A4 4 c4] 24)) := (Below.refl _ _).alloc (Nat.le_refl _) _
  have bb := b4.trans (ba.mono b4.size)
  have HX4 := Lib.hid (HX3.out.below bb (Nat.le_refl _))
  have HS4 := Lib.hid (HB3.out.below bb (Nat.le_refl _))
  have HA4 := Lib.hid (HA3.out.below bb)
  have HT4 := Lib.hid (HT3.out.below bb (Nat.le_refl _))
  have HY4 := Lib.hid hx4
  have HD4 := Lib.hid (hA4.below ba)
  have B4 := Lib.hid (B3.out.trans (bb.mono B3.out.size))
  have HC4 := Lib.hid hc4
  clear hx4 ba bb b4 hA4 hc4
  obtain ⟨Z64, hZ⟩ : ∃ Z, (List.replicate 64 (Value.int .u8 0)).toArray = Z := ⟨_, rfl⟩
  have hmk : ∀ W : World, (Instr.makeSlice 25 (.int .i64 64) (.int .i64 64)).run Tryd.prog W = .ok (.slice (some ⟨W.heap.size, 0, none⟩) 64 64) (W.alloc (.cells Z64 5)) := by
    intro W; rw [← hZ]; exact make_bytes W 64 (by omega)
  have HL64 := Lib.hid (show ∀ W : World, Lies (W.alloc (.cells Z64 5)) (some ⟨W.heap.size, 0, none⟩) (cells (List.replicate 64 0)) by
    intro W; rw [← hZ]; exact lies_lit _ _ _ _ rfl)
  clear hZ
  go_wp2_with fail
  have HWE := Lib.hid (show (w4.alloc (.cells #[.int .i64 3, .int .i64 2, .slice A4 4 c4] 24)).heap.size = w4.heap.size + 1 by simp)
  generalize w4.alloc (.cells #[.int .i64 3, .int .i64 2, .slice A4 4 c4] 24) = w5 at *
  rw [← HWE.out]
  refine (tget_is _ 64 64 0 (List.replicate 64 0) 0 0 [] false _ (by simp) (by omega) (HL64.out w5) (HT4.out.alloc _) (by unfold Tb.got; rw [if_neg (by rw [zeros_no]; simp)]; rfl) zeros_no rfl).mono ?_
  rintro e w6 ⟨A6, c6, rfl, -, -, b6⟩
  have ba : Below w6.heap.size w6 (w6.alloc (.cells #[.int .i64 0, .int .i64 0, .slice A6 0 c6] 24)) := (Below.refl _ _).alloc (Nat.le_refl _) _
  have b0 : Below w5.heap.size w5 (w5.alloc (.cells Z64 5)) := (Below.refl _ _).alloc (Nat.le_refl _) _
  have bc := b0.trans (b6.mono b0.size)
  have bb := bc.trans (ba.mono bc.size)
  have HX6 := Lib.hid (HX4.out.below bb (Nat.le_refl _))
  have HS6 := Lib.hid (HS4.out.below bb (Nat.le_refl _))
  have HA6 := Lib.hid (HA4.out.below bb)
  have HT6 := Lib.hid (HT4.out.below bb (Nat.le_refl _))
  have HY6 := Lib.hid (HY4.out.below bb (Nat.le_refl _))
  have HD6 := Lib.hid (HD4.out.below bb)
  have B6 := Lib.hid (B4.out.trans (bb.mono B4.out.size))
  clear ba b0 bc bb b6 hmk
  have hsz : 4 ≤ 1000 := by omega
  clear hsz
  obtain ⟨x0, x1, x2⟩ := HX6.out.three
  obtain ⟨y0, y1, y2⟩ := HY6.out.three
  go_wp2_with fail
  generalize w6.alloc (.cells #[.int .i64 0, .int .i64 0, .slice A6 0 c6] 24) = w7 at *
  refine (rsame_is 3 2 A4 c4 4 xs0 3 2 A1 4 4 xs0 w7 true rfl rfl (by omega) HD6.out HA6.out (decide_eq_true rfl)).mono ?_
  rintro e w8 ⟨rfl, b8⟩
  have HX8 := Lib.hid (HX6.out.below b8 (Nat.le_refl _))
  have HS8 := Lib.hid (HS6.out.below b8 (Nat.le_refl _))
  have HA8 := Lib.hid (HA6.out.below b8)
  have HT8 := Lib.hid (HT6.out.below b8 (Nat.le_refl _))
  have B8 := Lib.hid (B6.out.trans (b8.mono B6.out.size))
  clear b8 x0 x1 x2 y0 y1 y2
  obtain ⟨k0, k1, k5, k6, k7⟩ := HC.out
  have c0 := (HS8.out.cell 0).trans k0
  have c1 := (HS8.out.cell 1).trans k1
  have c5 := (HS8.out.cell 5).trans k5
  have c6' := (HS8.out.cell 6).trans k6
  have c7 := (HS8.out.cell 7).trans k7
  obtain ⟨x0, x1, x2⟩ := HX8.out.three
  clear k0 k1 k5 k6 k7
  go_wp2_with fail
  refine (torder_is 3 2 A1 4 4 2 xs0 [0, 2] w8 rfl (by omega) HA8.out (by rw [if_pos t0_right, t0_ord]) rfl).mono ?_
  rintro e w9 ⟨A9, c9, rfl, -, hA9, b9⟩
  have HX9 := Lib.hid (HX8.out.below b9 (Nat.le_refl _))
  have HA9 := Lib.hid (HA8.out.below b9)
  have HT9 := Lib.hid (HT8.out.below b9 (Nat.le_refl _))
  have B9 := Lib.hid (B8.out.trans (b9.mono B8.out.size))
  clear c0 c1 c5 c6' c7
  have ba : Below w9.heap.size w9 (w9.alloc (.cells #[.int .i64 0, .int .i64 2] 3)) := (Below.refl _ _).alloc (Nat.le_refl _) _
  have HN9 := Lib.hid (hA9.below ba)
  clear x0 x1 x2 b9 hA9
  go_wp2_with fail
  refine (sameInts_is A9 (some ⟨w9.heap.size, 0, none⟩) 2 2 c9 2 [0, 2] [0, 2] _ rfl rfl (by omega) rfl HN9.out (by simpa [nums] using Lies.new w9 #[.int .i64 0, .int .i64 2] 3)).mono ?_
  rintro e w10 ⟨rfl, b10⟩
  have bb := ba.trans (b10.mono ba.size)
  have HX10 := Lib.hid (HX9.out.below bb (Nat.le_refl _))
  have HA10 := Lib.hid (HA9.out.below bb)
  have HT10 := Lib.hid (HT9.out.below bb (Nat.le_refl _))
  have B10 := Lib.hid (B9.out.trans (bb.mono B9.out.size))
  clear ba b10 bb
  obtain ⟨x0, x1, x2⟩ := HX10.out.three
  go_wp2_with fail
  refine (tfree_is 3 2 A1 4 4 2 xs0 [1, 3] w10 rfl (by omega) HA10.out (by rw [if_pos t0_right, t0_free]) rfl).mono ?_
  rintro e w11 ⟨A11, c11, rfl, -, hA11, b11⟩
  have HX11 := Lib.hid (HX10.out.below b11 (Nat.le_refl _))
  have HA11 := Lib.hid (HA10.out.below b11)
  have HT11 := Lib.hid (HT10.out.below b11 (Nat.le_refl _))
  have B11 := Lib.hid (B10.out.trans (b11.mono B10.out.size))
  have ba : Below w11.heap.size w11 (w11.alloc (.cells #[.int .i64 1, .int .i64 3] 3)) := (Below.refl _ _).alloc (Nat.le_refl _) _
  have HN11 := Lib.hid (hA11.below ba)
  clear x0 x1 x2 b11 hA11
  go_wp2_with fail
  refine (sameInts_is A11 (some ⟨w11.heap.size, 0, none⟩) 2 2 c11 2 [1, 3] [1, 3] _ rfl rfl (by omega) rfl HN11.out (by simpa [nums] using Lies.new w11 #[.int .i64 1, .int .i64 3] 3)).mono ?_
  rintro e w12 ⟨rfl, b12⟩
  have bb := ba.trans (b12.mono ba.size)
  have HX12 := Lib.hid (HX11.out.below bb (Nat.le_refl _))
  have HA12 := Lib.hid (HA11.out.below bb)
  have HT12 := Lib.hid (HT11.out.below bb (Nat.le_refl _))
  have B12 := Lib.hid (B11.out.trans (bb.mono B11.out.size))
  clear ba b12 bb
  obtain ⟨x0, x1, x2⟩ := HX12.out.three
  go_wp2_with fail
  refine (tlast_is 3 2 A1 4 4 xs0 w12 6 rfl (by omega) HA12.out (by rw [if_pos t0_right, t0_last])).mono ?_
  rintro e w13 ⟨rfl, b13⟩
  have HX13 := Lib.hid (HX12.out.below b13 (Nat.le_refl _))
  have HA13 := Lib.hid (HA12.out.below b13)
  have HT13 := Lib.hid (HT12.out.below b13 (Nat.le_refl _))
  have B13 := Lib.hid (B12.out.trans (b13.mono B12.out.size))
  clear b13 x0 x1 x2
  obtain ⟨x0, x1, x2⟩ := HX13.out.three
  go_wp2_with fail
  refine (tright_is 3 2 A1 4 4 xs0 w13 true rfl (by omega) HA13.out t0_right).mono ?_
  rintro e w14 ⟨rfl, b14⟩
  have HT14 := Lib.hid (HT13.out.below b14 (Nat.le_refl _))
  have B14 := Lib.hid (B13.out.trans (b14.mono B13.out.size))
  clear b14 x0 x1 x2
  go_wp2_with fail
  refine (tright_is 0 0 none 0 0 [] w14 false rfl (by omega) Lies.nil (by decide)).mono ?_
  rintro e w15 ⟨rfl, b15⟩
  have HT15 := Lib.hid (HT14.out.below b15 (Nat.le_refl _))
  have B15 := Lib.hid (B14.out.trans (b15.mono B14.out.size))
  clear b15
  go_wp2_with fail
  refine (tput_no0 0 0 none 0 0 [] w15 rfl (by omega) Lies.nil HT15.out (by decide)).mono ?_
  rintro e w16 ⟨rfl, b16⟩
  have B16 := Lib.hid (B15.out.trans (b16.mono B15.out.size))
  clear b16
  go_wp2
  go_ret
  exact ⟨rfl, B16.out⟩
end Go.Proofs.YtbjaieopjkbijaaDoor
