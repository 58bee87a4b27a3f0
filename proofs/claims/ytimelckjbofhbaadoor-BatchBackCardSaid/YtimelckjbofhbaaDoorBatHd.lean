/-
  Laid4: Layer 4: from what the given rows say of the two variables, errors.errorType and crc.steps, to their cells; and that a world meets it. Nothing is assumed.
  BatH0: Layer 4: what the live question (turntablelaw04.head) asks, reckoned; turntablelaw04.One; batch.Get where what comes of it is known. Nothing is assumed but what each says.
  BatH: Layer 4: the laws' live question (turntablelaw04.head) answers true, and turns nothing that was there. Assumed: that the program's table of sums holds what its text lays there, and that errors.errorType is what its own text lays.
-/
import Derived.Test.YtimelckjbofhbaaDoorSpanO
import Derived.Test.YtimelckjbofhbaaDoorCrcC
import Derived.LaidMore
import Derived.Test.YtimelckjbofhbaaDoorBatC
import Derived.Test.YtimelckjbofhbaaDoorBatB
import Derived.Test.YtimelckjbofhbaaDoorRef2

namespace Go.Proofs.YtimelckjbofhbaaDoor
open Go.Joins Go.ChangeShapes Go.WideShapes Go.ChangeAt Go.WideMaps Go.WideElems Go.RowKit Go.Deep
set_option maxRecDepth 100000

def laidBoth : List (String × DataW Unit) := [("errors.errorType", Rows.laid_errors_errorType), ("turntable/crc.steps", Rows.laid_turntable_crc_steps)]
def kindsBoth : List LaidKind := [.handle, .data]
theorem gSteps : Tryd.prog.globalNamed "turntable/crc.steps" = some 1 := by kernel_rfl
theorem tSteps : (Tryd.prog.globals[(1 : Nat)]?).map (·.type) = some 119 := by kernel_rfl

theorem tab_of {W : World} (h : laidMet Tryd.prog [("turntable/crc.steps", Rows.laid_turntable_crc_steps)] W) : Tab W := by
  obtain ⟨ps, ⟨g0, t0, cs0, f0, p0, q0, hg0, ht0, hv0, hd0, _⟩, _⟩ := h
  obtain rfl := Option.some.inj (gSteps.symm.trans hg0)
  obtain rfl := Option.some.inj (tSteps.symm.trans ht0)
  obtain ⟨xs, m1, rfl, hx1, hlen, hn, hel⟩ := DataW.trod_array Tryd.underlying119 hd0
  have c1 : Tryd.prog.cellsOf 35 = 1 := by kernel_rfl
  have c16 : Tryd.prog.cellsOf 119 = 16 := by kernel_rfl
  simp only [Prod.mk.injEq] at hx1
  have hx2 := hx1.1
  rw [c16] at hlen
  have key : ∀ i, i < 16 → W.cell? ⟨1, i, none⟩ = some (.int .u32 (Crc.tab i : Int)) := by
    intro i hi
    have h0 := hel i hi
    rw [c1, Nat.mul_one] at h0
    have hi2 : i < xs.length := by omega
    rw [List.getElem?_eq_getElem hi2] at h0
    obtain ⟨k, e1, e2, _⟩ := DataW.trod_int Tryd.underlying35 h0
    have hk : k = (Crc.tab i : Int) := by
      have h3 : (xs.map (·.1))[i]? = some (.lit (.int .u32 (Crc.tab i : Int))) := by
        have h4 : Rows.laid_turntable_crc_steps = (.agg (xs.map (·.1)) : DataW Unit) := hx2
        unfold Rows.laid_turntable_crc_steps at h4
        injection h4 with h4
        rw [← h4]
        have : ∀ j : Fin 16, ([.lit (.int .u32 0), .lit (.int .u32 274646895), .lit (.int .u32 549293790), .lit (.int .u32 820201905), .lit (.int .u32 1098587580), .lit (.int .u32 1361435347), .lit (.int .u32 1640403810), .lit (.int .u32 1905808397), .lit (.int .u32 2197175160), .lit (.int .u32 2460548119), .lit (.int .u32 2722870694), .lit (.int .u32 2987750089), .lit (.int .u32 3280807620), .lit (.int .u32 3553878443), .lit (.int .u32 3811616794), .lit (.int .u32 4084100981)] : List (DataW Unit))[j.val]? = some (.lit (.int .u32 (Crc.tab j.val : Int))) := by
          intro j
          rcases j with ⟨j, hj⟩
          have : j = 0 ∨ j = 1 ∨ j = 2 ∨ j = 3 ∨ j = 4 ∨ j = 5 ∨ j = 6 ∨ j = 7 ∨ j = 8 ∨ j = 9 ∨ j = 10 ∨ j = 11 ∨ j = 12 ∨ j = 13 ∨ j = 14 ∨ j = 15 := by omega
          rcases this with rfl | rfl | rfl | rfl | rfl | rfl | rfl | rfl | rfl | rfl | rfl | rfl | rfl | rfl | rfl | rfl <;> rfl
        exact this ⟨i, hi⟩
      rw [List.getElem?_map, List.getElem?_eq_getElem hi2, e2] at h3
      simpa using h3
    rw [World.var?_cell hg0 hv0 i]
    have h5 : ((cs0.toList.drop i).take 1)[0]? = some (.int .u32 k) := by rw [e1]; rfl
    rw [List.getElem?_take, if_pos (by omega), List.getElem?_drop, Nat.add_zero] at h5
    rw [← hk]
    simpa using h5
  refine ⟨?_, key⟩
  have h0 := key 0 (by omega)
  rcases Nat.lt_or_ge 1 W.heap.size with h | h
  · exact h
  · unfold World.cell? at h0
    rw [Array.getElem?_eq_none h] at h0
    simp at h0

theorem handle_of {W : World} (h : handlesMet Tryd.prog [("errors.errorType", Rows.laid_errors_errorType)] W) : Handle W :=
  of_laid (show laidMetH Tryd.prog laidHere W from ⟨laidMet_nil _ _, h⟩)
theorem of_both {W : World} (h : laidMetH Tryd.prog laidBoth W) : Handle W ∧ Tab W := by
  have h' : laidMet Tryd.prog [("turntable/crc.steps", Rows.laid_turntable_crc_steps)] W ∧ handlesMet Tryd.prog [("errors.errorType", Rows.laid_errors_errorType)] W := h
  exact ⟨handle_of h'.2, tab_of h'.1⟩

/-- a world that meets the condition: the settled one, both variables laid -/
noncomputable def bothWorld (os : Os) : World :=
  let w0 := World.holding Tryd.prog os ⟨#[], #[], []⟩
  { w0 with heap := (w0.heap.modify 0 fun
      | .cells _ t frozen => .cells #[.iface 90 (.agg #[.pointer (some ⟨2, 43, none⟩)])] t frozen
      | o => o).modify 1 fun
      | .cells _ t frozen => .cells #[.int .u32 0, .int .u32 274646895, .int .u32 549293790, .int .u32 820201905, .int .u32 1098587580, .int .u32 1361435347, .int .u32 1640403810, .int .u32 1905808397, .int .u32 2197175160, .int .u32 2460548119, .int .u32 2722870694, .int .u32 2987750089, .int .u32 3280807620, .int .u32 3553878443, .int .u32 3811616794, .int .u32 4084100981] t frozen
      | o => o }
theorem bothWorld_met (os : Os) (args : Array Value) : laidMetH Tryd.prog laidBoth ((bothWorld os).forCall (fun _ _ => 0) ⟨#[], args, []⟩).memory :=
  laidMetH_of_parts (laidMet_of_run' 8 (by kernel_rfl) (by kernel_rfl)) (by kernel_rfl)
end Go.Proofs.YtimelckjbofhbaaDoor

namespace Go.Proofs.YtimelckjbofhbaaDoor
open Go.RowKit
set_option maxRecDepth 100000

theorem one_any (t i : Int) (w : World) (hi : 0 ≤ i) (hi2 : i ≤ 1000) :
    Calls Tryd.prog 19 #[.int .i64 t, .int .i64 i] w fun e w' => e = .returned (.agg #[.int .i64 t, .int .i64 i, .int .i64 0, .int .i64 (10 * i), .int .i64 5, .string ⟨#[119, 101, 98]⟩, .string ⟨#[110]⟩]) ∧ Below w.heap.size w w' := by
  obtain ⟨y0, y1, y2, y3, y4, y5, y6⟩ := (Blk.new w #[.int .i64 t, .int .i64 i, .int .i64 0, .int .i64 (10 * i), .int .i64 5, .string ⟨#[119, 101, 98]⟩, .string ⟨#[110]⟩] 39).seven
  go_enter Tryd.func19, Tryd.ntmps19
  go_wp2
  refine bodyPost_ret (v := .agg #[.int .i64 t, .int .i64 i, .int .i64 0, .int .i64 (10 * i), .int .i64 5, .string ⟨#[119, 101, 98]⟩, .string ⟨#[110]⟩]) (by simp [results, Tryd.results19, go_sem, y0, y1, y2, y3, y4, y5, y6]) rfl ?_
  exact ⟨rfl, by go_grown⟩

def o1 : Plain.Sp := ⟨1, 1, 0, 10, 5, [119, 101, 98], [110]⟩
def o2 : Plain.Sp := ⟨2, 1, 0, 10, 5, [119, 101, 98], [110]⟩
def l0 : List Plain.Sp := [o1, o2]
theorem l0_isB : Plain.isB l0 = true := by decide +kernel
theorem l0_len : (Plain.bput l0).length = 29 := by decide +kernel
theorem g_zero : Plain.bget [0, 0, 0, 0, 0, 0, 0] = ([], 0, 21) := by decide +kernel
theorem g_one : Plain.bget (Crc.sealed [84, 66, 1, 0]) = ([], 3, 11) := by decide +kernel
theorem g_none : Plain.bget (Crc.sealed [84, 66, 0, 0]) = ([], 3, 12) := by decide +kernel
theorem p_zero : Plain.bput [Plain.Sp.zero] = [] := by decide +kernel
theorem g_nil : Plain.bget [] = ([], 0, 11) := rfl

def o0 : Plain.Sp := Plain.Sp.zero
theorem lies_l0 (w : World) : Lies (w.alloc (.cells #[.int .i64 1, .int .i64 1, .int .i64 0, .int .i64 10, .int .i64 5, .string ⟨#[119, 101, 98]⟩, .string ⟨#[110]⟩, .int .i64 2, .int .i64 1, .int .i64 0, .int .i64 10, .int .i64 5, .string ⟨#[119, 101, 98]⟩, .string ⟨#[110]⟩] 39)) (some ⟨w.heap.size, 0, none⟩) (flat l0) := lies_made w _ _ _ _ rfl rfl
theorem lies_o0 (w : World) : Lies (w.alloc (.cells #[.int .i64 0, .int .i64 0, .int .i64 0, .int .i64 0, .int .i64 0, .string ⟨#[]⟩, .string ⟨#[]⟩] 39)) (some ⟨w.heap.size, 0, none⟩) (flat [Plain.Sp.zero]) := lies_made w _ _ _ _ rfl rfl
theorem fine_l0 : Fine l0 := by intro x hx; simp only [l0, List.mem_cons, List.not_mem_nil, or_false] at hx; rcases hx with rfl | rfl <;> (unfold maxLen; decide)
theorem fine_o0 : Fine [Plain.Sp.zero] := by intro x hx; simp only [List.mem_cons, List.not_mem_nil, or_false] at hx; subst hx; unfold maxLen; decide
theorem eq_same (W : World) (a : List UInt8) : (binOp .eql 9 (.string (str a)) (.string (str a))).run Tryd.prog W = .ok (.bool true) W := by
  go_simp
theorem eq_texts (W : World) (a b : List UInt8) : (binOp .eql 9 (.string (str a)) (.string (str b))).run Tryd.prog W = .ok (.bool (decide (a = b))) W := by
  have h : ((str a).toList == (str b).toList) = decide (a = b) := beq_str a b
  go_simp
theorem same_yes (A B : Option Addr) (n ca cb : Nat) (a : List Plain.Sp) (w : World) (hn : a.length = n) (hca : n ≤ ca) (hcb : n ≤ cb) (hma : ca ≤ maxLen) (hmb : cb ≤ maxLen) (hA : Lies w A (flat a)) (hB : Lies w B (flat a)) :
    Calls Tryd.prog 15 #[.slice A n ca, .slice B n cb] w fun e w' => e = .returned (.bool true) ∧ Below w.heap.size w w' := by
  have := same_any A B n n ca cb a a w hn hn hca hcb hma hmb hA hB
  rwa [decide_eq_true rfl] at this
theorem g_l0 : Plain.bget (Plain.bput l0) = (l0, 29, 0) := by rw [Plain.bget_bput l0 l0_isB, l0_len]
/-- Get, where what comes of it is known -/
theorem get_as (A : Option Addr) (n cap : Nat) (b : List UInt8) (w : World) (l : List Plain.Sp) (m : Nat) (p c : Int) (P C : Nat) (hlm : l.length = m) (hg : Plain.bget b = (l, P, C)) (hp : (P : Int) = p) (hc1 : (C : Int) = c) (hH : Handle w) (hT : Tab w) (hn : b.length = n) (hc : n ≤ cap) (hm : cap ≤ maxLen) (hf : n ≤ 1099511627776) (hA : Lies w A (cells b)) :
    Calls Tryd.prog 11 #[.slice A n cap] w fun e w' => ∃ Av capv, e = .returned (.tuple #[.slice Av m capv, .int .i64 p, .int .i64 c]) ∧ m ≤ capv ∧ capv ≤ maxLen ∧ Lies w' Av (flat l) ∧ Below w.heap.size w w' := by
  subst hp hc1 hlm
  refine (batchGet_any A n cap b w hH hT hn hc hm hf hA).mono ?_
  rw [hg]
  rintro e w' ⟨v, rfl, Av, capv, rfl, h1, h2, h3, h4⟩
  exact ⟨Av, capv, rfl, h1, h2, h3, h4⟩

end Go.Proofs.YtimelckjbofhbaaDoor

namespace Go.Proofs.YtimelckjbofhbaaDoor
open Go.RowKit
set_option maxRecDepth 100000

set_option maxHeartbeats 8000000 in
theorem head_any (w : World) (hT : Handle w ∧ Tab w) : Calls Tryd.prog 9 #[] w fun e w' => e = .returned (.bool true) ∧ Below w.heap.size w w' := by
  have HH := Lib.hid (show ∀ u, Below w.heap.size w u → Handle u from fun u h => hT.1.below hT.1.lt h)
  have HT := Lib.hid (show ∀ u, Below w.heap.size w u → Tab u from fun u h => hT.2.below h (Nat.le_refl _))
  clear hT
  go_enter Tryd.func9, Tryd.ntmps9
  go_wp2_with fail
  refine (one_any 1 1 w (by omega) (by omega)).mono ?_
  rintro e w1 ⟨rfl, c1⟩
  go_wp2_with fail
  refine (one_any 2 1 w1 (by omega) (by omega)).mono ?_
  rintro e w2 ⟨rfl, d2⟩
  have c2 := c1.trans (d2.mono c1.size)
  have hL0 := lies_l0 w2
  have c3 : Below w.heap.size w (w2.alloc (.cells #[.int .i64 1, .int .i64 1, .int .i64 0, .int .i64 10, .int .i64 5, .string ⟨#[119, 101, 98]⟩, .string ⟨#[110]⟩, .int .i64 2, .int .i64 1, .int .i64 0, .int .i64 10, .int .i64 5, .string ⟨#[119, 101, 98]⟩, .string ⟨#[110]⟩] 39)) := c2.alloc c2.size _
  have HP := Lib.hid (batchPut_any (some ⟨w2.heap.size, 0, none⟩) 2 2 l0 _ (HT.out _ c3) rfl (by unfold maxLen; omega) hL0 fine_l0)
  have HL0 := Lib.hid hL0
  clear hL0
  go_wp2_with fail
  refine HP.out.mono ?_
  rintro e w4 ⟨v4, rfl, ho4, d4⟩
  have c4 := c3.trans (d4.mono c3.size)
  have HL4 := Lib.hid (HL0.out.below d4)
  clear HP HL0
  rw [l0_len] at ho4
  obtain ⟨g4, cap4, rfl, hl4, hm4, hL4⟩ := own_some ho4 (by omega)
  clear ho4 c3 d4
  have HL4b := Lib.hid hL4
  clear hL4
  go_wp2_with fail
  refine (get_as (some ⟨g4, 0, none⟩) 29 cap4 (Plain.bput l0) w4 l0 2 29 0 29 0 rfl g_l0 rfl rfl (HH.out _ c4) (HT.out _ c4) l0_len hl4 hm4 (by omega) HL4b.out).mono ?_
  rintro e w5 ⟨A5, cap5, rfl, hl5, hm5, hL5, d5⟩
  have c5 := c4.trans (d5.mono c4.size)
  have HL5 := Lib.hid (HL4.out.below d5)
  have HX5 := Lib.hid hL5
  clear HL4 hL5 HL4b
  go_wp2_with fail
  refine (get_as none 0 0 [] w5 [] 0 0 11 0 11 rfl g_nil rfl rfl (HH.out _ c5) (HT.out _ c5) rfl (by omega) (by unfold maxLen; omega) (by omega) Lies.nil).mono ?_
  rintro e w6 ⟨A6, cap6, rfl, hl6, hm6, -, d6⟩
  have c6 := c5.trans (d6.mono c5.size)
  have HL6 := Lib.hid (HL5.out.below d6)
  have HX6 := Lib.hid (HX5.out.below d6)
  clear HL5 HX5
  have hmk : (Instr.makeSlice 23 (.int .i64 7) (.int .i64 7)).run Tryd.prog w6 = .ok (.slice (some ⟨w6.heap.size, 0, none⟩) 7 7) (w6.alloc (.cells #[.int .u8 0, .int .u8 0, .int .u8 0, .int .u8 0, .int .u8 0, .int .u8 0, .int .u8 0] 5)) := make_bytes w6 7 (by omega)
  have f6 := (Below.refl w6.heap.size w6).alloc (Nat.le_refl _) (.cells #[.int .u8 0, .int .u8 0, .int .u8 0, .int .u8 0, .int .u8 0, .int .u8 0, .int .u8 0] 5)
  have g6 := c6.trans (f6.mono c6.size)
  go_wp2_with fail
  refine (get_as (some ⟨w6.heap.size, 0, none⟩) 7 7 [0, 0, 0, 0, 0, 0, 0] _ [] 0 0 21 0 21 rfl g_zero rfl rfl (HH.out _ g6) (HT.out _ g6) rfl (by omega) (by unfold maxLen; omega) (by omega) (lies_lit _ _ _ _ rfl)).mono ?_
  rintro e w7 ⟨A7, cap7, rfl, hl7, hm7, -, d7⟩
  have d7' : Below w6.heap.size w6 w7 := f6.trans (d7.mono f6.size)
  have c7 := c6.trans (d7'.mono c6.size)
  have HL7 := Lib.hid (HL6.out.below d7')
  have HX7 := Lib.hid (HX6.out.below d7')
  clear HL6 HX6 hmk f6 g6 d7 d7'
  go_wp2_with fail
  refine (rSeal_walk (some ⟨w7.heap.size, 0, none⟩) 4 4 [84, 66, 1, 0] _ rfl (by omega) (lies_lit _ _ _ _ rfl)).mono ?_
  rintro e w8 ⟨v8, rfl, ho8, d8⟩
  have d8' : Below w7.heap.size w7 w8 := ((Below.refl w7.heap.size w7).alloc (Nat.le_refl _) _).trans (d8.mono (by simp))
  have c8 := c7.trans (d8'.mono c7.size)
  have HL8 := Lib.hid (HL7.out.below d8')
  have HX8 := Lib.hid (HX7.out.below d8')
  obtain ⟨g8, cap8, rfl, hl8, hm8, hL8⟩ := own_some ho8 (by rw [Crc.sealed_length]; simp)
  have s8 : (Crc.sealed [84, 66, 1, 0]).length = 8 := Crc.sealed_length _
  rw [s8] at hl8 ⊢
  have HM8 := Lib.hid hL8
  clear HL7 HX7 d8 d8' ho8 hL8
  go_wp2_with fail
  refine (get_as (some ⟨g8, 0, none⟩) 8 cap8 (Crc.sealed [84, 66, 1, 0]) w8 [] 0 3 11 3 11 rfl g_one rfl rfl (HH.out _ c8) (HT.out _ c8) s8 hl8 hm8 (by omega) HM8.out).mono ?_
  rintro e w9 ⟨A9, cap9, rfl, hl9, hm9, -, d9⟩
  have c9 := c8.trans (d9.mono c8.size)
  have HL9 := Lib.hid (HL8.out.below d9)
  have HX9 := Lib.hid (HX8.out.below d9)
  clear HL8 HX8 HM8 s8 d9
  go_wp2_with fail
  refine (rSeal_walk (some ⟨w9.heap.size, 0, none⟩) 4 4 [84, 66, 0, 0] _ rfl (by omega) (lies_lit _ _ _ _ rfl)).mono ?_
  rintro e wa ⟨va, rfl, hoa, da⟩
  have da' : Below w9.heap.size w9 wa := ((Below.refl w9.heap.size w9).alloc (Nat.le_refl _) _).trans (da.mono (by simp))
  have ca := c9.trans (da'.mono c9.size)
  have HLa := Lib.hid (HL9.out.below da')
  have HXa := Lib.hid (HX9.out.below da')
  obtain ⟨ga, capa, rfl, hla, hma, hLa⟩ := own_some hoa (by rw [Crc.sealed_length]; simp)
  have sa : (Crc.sealed [84, 66, 0, 0]).length = 8 := Crc.sealed_length _
  rw [sa] at hla ⊢
  have HMa := Lib.hid hLa
  clear HL9 HX9 da da' hoa hLa
  go_wp2_with fail
  refine (get_as (some ⟨ga, 0, none⟩) 8 capa (Crc.sealed [84, 66, 0, 0]) wa [] 0 3 12 3 12 rfl g_none rfl rfl (HH.out _ ca) (HT.out _ ca) sa hla hma (by omega) HMa.out).mono ?_
  rintro e wb ⟨Ab, capb, rfl, hlb, hmb, -, db⟩
  have cb := ca.trans (db.mono ca.size)
  have HLb := Lib.hid (HLa.out.below db)
  have HXb := Lib.hid (HXa.out.below db)
  clear HLa HXa HMa sa db
  go_wp2_with fail
  refine (same_any A5 (some ⟨w2.heap.size, 0, none⟩) 2 2 cap5 2 l0 l0 wb rfl rfl hl5 (by omega) hm5 (by unfold maxLen; omega) HXb.out HLb.out).mono ?_
  rintro e wc ⟨rfl, dc⟩
  have cc := cb.trans (dc.mono cb.size)
  rw [decide_eq_true rfl]
  have hLz := lies_o0 wc
  have cz : Below w.heap.size w (wc.alloc (.cells #[.int .i64 0, .int .i64 0, .int .i64 0, .int .i64 0, .int .i64 0, .string ⟨#[]⟩, .string ⟨#[]⟩] 39)) := cc.alloc cc.size _
  have HZ := Lib.hid (batchPut_any (some ⟨wc.heap.size, 0, none⟩) 1 1 [Plain.Sp.zero] _ (HT.out _ cz) rfl (by unfold maxLen; omega) hLz fine_o0)
  clear hLz
  go_wp2_with fail
  refine HZ.out.mono ?_
  rw [p_zero]
  rintro e wd ⟨vd, rfl, hod, dd⟩
  obtain ⟨Ad, capd, rfl, -⟩ := own_form hod
  have cd := cz.trans (dd.mono cz.size)
  clear hod HZ
  go_wp2
  go_ret
  exact ⟨rfl, cd⟩
end Go.Proofs.YtimelckjbofhbaaDoor
