/-
  Layer 13, the developers' rec: what Get is made of (change$3, getSealed); Right and Cost. Assumed: that the bytes and the spans lie in memory, and that a type has its handle.
-/
import Derived.Test.YtdfeccmcefcpbaaDoorRoD
import Derived.Test.YtdfeccmcefcpbaaDoorRg13

namespace Go.Proofs.YtdfeccmcefcpbaaDoor
open Go.RowKit
set_option maxRecDepth 100000

/-- what a shape's 'get' hands back: the record but for its kind, or nothing -/
def OGives (w : World) (o : Option Rc.R) (e : Ending) (w' : World) : Prop :=
  ∃ A cap, e = .returned (.tuple #[recV (o.getD Rc.zero) A (o.getD Rc.zero).sp.length cap, .bool o.isSome]) ∧ (o.getD Rc.zero).sp.length ≤ cap ∧ cap ≤ maxLen ∧ Lies w' A (flat (o.getD Rc.zero).sp) ∧ Fine (o.getD Rc.zero).sp ∧ Below w.heap.size w w'
theorem OGives.nil {w w' : World} (h : Below w.heap.size w w') : OGives w none (.returned (.tuple #[.agg #[.int .i64 0, .int .i64 0, .int .i64 0, .int .i64 0, .bool false, .slice none 0 0], .bool false])) w' :=
  ⟨none, 0, rfl, Nat.le_refl _, by unfold maxLen; omega, Lies.nil, (fun x hx => by simp [Rc.zero] at hx), h⟩
def getC0 (c : Bool) (x : List UInt8) : Option Rc.R :=
  if (Plain.get x).2.2 ≠ 0 ∨ x.length ≠ (Plain.get x).2.1 + (if c then 1 else 0) then none else
    some ⟨0, ((Plain.get x).1 : Nat), (if c then ((x.getD (Plain.get x).2.1 0).toNat : Nat) else (0 : Nat) : Nat), 0, false, []⟩

set_option maxHeartbeats 8000000 in
theorem dget13C_any (c : Bool) (gm gn gc : Nat) (A : Option Addr) (n cap : Nat) (x : List UInt8) (w : World) (hC : Cap13 w gm gn gc c) (hn : x.length = n) (hf : n ≤ 1099511627776) (hA : Lies w A (cells x)) :
    Calls Tryd.prog 57 #[.slice A n cap, .pointer (some ⟨gn, 0, none⟩), .pointer (some ⟨gc, 0, none⟩)] w (OGives w (getC0 c x)) := by
  have hsm := Plain.get_small x
  rw [hn] at hsm
  have hV : getC0 c x = if (Plain.get x).2.2 ≠ 0 ∨ n ≠ (Plain.get x).2.1 + (if c then 1 else 0) then none else some ⟨0, ((Plain.get x).1 : Nat), (if c then ((x.getD (Plain.get x).2.1 0).toNat : Nat) else (0 : Nat) : Nat), 0, false, []⟩ := by unfold getC0; rw [hn]
  have HG := Lib.hid (fun (W : World) (h : Below w.heap.size w W) => by
    have := get_any A cap x W (by unfold maxLen; omega) (hA.below h)
    rwa [hn] at this)
  have HAT := Lib.hid (fun (i : Nat) (hi : i < n) => show ∃ ad, A = some ad ∧ ∀ u, Below w.heap.size w u → u.cell? (ad.add i) = some (.int .u8 ((x.getD i 0).toNat : Nat)) by
    obtain ⟨ad, e, -, -⟩ := hA.at_ (k := i) (by rw [cells_length]; omega)
    refine ⟨ad, e, fun u hu => ?_⟩
    obtain ⟨ad', e', -, h3⟩ := (hA.below hu).at_ (k := i) (by rw [cells_length]; omega)
    rw [e] at e'
    injection e' with e'; subst e'
    rw [h3]
    simp [cells, List.getD_eq_getElem?_getD, List.getElem?_eq_getElem (show i < x.length by omega)])
  obtain ⟨X, hX⟩ : ∃ X, (Plain.get x).1 = X := ⟨_, rfl⟩
  obtain ⟨K, hK⟩ : ∃ K, (Plain.get x).2.1 = K := ⟨_, rfl⟩
  obtain ⟨C, hCC⟩ : ∃ C, (Plain.get x).2.2 = C := ⟨_, rfl⟩
  rw [hX, hK, hCC] at HG
  rw [hX, hK, hCC] at hV
  rw [hX, hK] at hsm
  have hCB := Plain.code_cases x
  rw [hCC] at hCB
  obtain ⟨R, hR⟩ : ∃ R, getC0 c x = R := ⟨_, rfl⟩
  rw [hR] at hV ⊢
  have hB0 : Below w.heap.size w (w.alloc (.cells #[.int .i64 0, .int .i64 0, .int .i64 0, .int .i64 0, .bool false, .slice none 0 0] 24)) := (Below.refl _ _).alloc (Nat.le_refl _) _
  have HB0 := Lib.hid hB0
  have HZ0 := Lib.hid (Blk.new w #[.int .i64 0, .int .i64 0, .int .i64 0, .int .i64 0, .bool false, .slice none 0 0] 24)
  have HC := Lib.hid (fun (u : World) (h : Below w.heap.size w u) => (hC.below h).three)
  have HGG := Lib.hid (HG.out _ hB0)
  have HV := Lib.hid hV
  clear hX hK hCC hR hB0 hA hC hn hV HG
  by_cases hc0 : C = 0
  rotate_left
  · have HR := Lib.hid (show R = none by rw [HV.out, if_pos (.inl hc0)])
    have dC : ((C : Int) != 0) = true := by rw [bne_iff_ne]; omega
    clear hc0
    go_enter Tryd.func57, Tryd.ntmps57
    go_wp2_with fail
    refine HGG.out.mono ?_
    rintro e w2 ⟨rfl, hb2⟩
    have HB2 := Lib.hid (HB0.out.trans (hb2.mono HB0.out.size))
    have HZ2 := Lib.hid ((hb2.block _ HZ0.out.lt).trans HZ0.out)
    clear hb2
    go_wp2_with (first | fail | refine wpList_storeR rfl _ _ rfl w.heap.size rfl 0 0 0 0 false none 0 0 rfl _ _ _ _ _ _ HZ2.out ?k9)
    case k9 =>
      intro w6 hb6 hk6
      obtain ⟨c0, c1, c2, c3, c4, c5⟩ := six13 hb6
      have HB6 := Lib.hid (Kept.below HB2.out hk6 (by simp))
      clear hb6 hk6
      go_wp2
      refine bodyPost_ret (v := .tuple #[.agg #[.int .i64 0, .int .i64 0, .int .i64 0, .int .i64 0, .bool false, .slice none 0 0], .bool false]) (by simp [results, Tryd.results57, go_sem, c0, c1, c2, c3, c4, c5, Result.andThen]) rfl ?_
      rw [HR.out]
      exact OGives.nil HB6.out
  subst hc0
  cases c with
  | false =>
    by_cases hnk : n = K
    rotate_left
    · have HR := Lib.hid (show R = none by rw [HV.out, if_pos (.inr (by simpa using hnk))])
      have dN : ((n : Int) != (K : Int)) = true := by rw [bne_iff_ne]; omega
      clear hnk
      go_enter Tryd.func57, Tryd.ntmps57
      go_wp2_with fail
      refine HGG.out.mono ?_
      rintro e w2 ⟨rfl, hb2⟩
      have HB2 := Lib.hid (HB0.out.trans (hb2.mono HB0.out.size))
      have HZ2 := Lib.hid ((hb2.block _ HZ0.out.lt).trans HZ0.out)
      have n0 : w2.cell? ⟨gn, 0, none⟩ = some (.int .i64 0) := (HC.out w2 HB2.out).2.1
      clear hb2
      go_wp2_with (first | fail | refine wpList_storeR rfl _ _ rfl w.heap.size rfl 0 0 0 0 false none 0 0 rfl _ _ _ _ _ _ HZ2.out ?k9)
      case k9 =>
        intro w6 hb6 hk6
        obtain ⟨c0, c1, c2, c3, c4, c5⟩ := six13 hb6
        have HB6 := Lib.hid (Kept.below HB2.out hk6 (by simp))
        clear hb6 hk6
        go_wp2
        refine bodyPost_ret (v := .tuple #[.agg #[.int .i64 0, .int .i64 0, .int .i64 0, .int .i64 0, .bool false, .slice none 0 0], .bool false]) (by simp [results, Tryd.results57, go_sem, c0, c1, c2, c3, c4, c5, Result.andThen]) rfl ?_
        rw [HR.out]
        exact OGives.nil HB6.out
    · have HR := Lib.hid (show R = some ⟨0, (X : Nat), ((0 : Nat) : Int), 0, false, []⟩ by rw [HV.out, if_neg (by simp [hnk])]; rfl)
      have dN : ((n : Int) != (K : Int)) = false := by rw [bne_eq_false_iff_eq]; omega
      clear hnk
      go_enter Tryd.func57, Tryd.ntmps57
      go_wp2_with fail
      refine HGG.out.mono ?_
      rintro e w2 ⟨rfl, hb2⟩
      have HB2 := Lib.hid (HB0.out.trans (hb2.mono HB0.out.size))
      have hz2 := (hb2.block _ HZ0.out.lt).trans HZ0.out
      have HZ2 := Lib.hid (show Blk w2 w.heap.size _ _ from hz2)
      obtain ⟨-, n0, m0⟩ := HC.out w2 HB2.out
      have n0 : w2.cell? ⟨gn, 0, none⟩ = some (.int .i64 0) := n0
      have m1 : (w2.alloc (.cells #[.int .i64 0, .int .i64 (X : Int), .int .i64 0, .int .i64 0, .bool false, .slice none 0 0] 24)).cell? ⟨gc, 0, none⟩ = some (.bool false) := (HC.out _ (HB2.out.alloc HB2.out.size _)).2.2
      clear hb2 hz2
      go_wp2_with (first | fail | refine wpList_storeR rfl _ _ rfl w.heap.size rfl 0 (X : Int) 0 0 false none 0 0 rfl _ _ _ _ _ _ (blk_past HZ2.out _) ?k9)
      case k9 =>
        intro w6 hb6 hk6
        obtain ⟨c0, c1, c2, c3, c4, c5⟩ := six13 hb6
        have HB6 := Lib.hid (Kept.below (HB2.out.alloc HB2.out.size _) hk6 (by simp))
        clear hb6 hk6
        go_wp2
        refine bodyPost_ret (v := .tuple #[.agg #[.int .i64 0, .int .i64 (X : Int), .int .i64 0, .int .i64 0, .bool false, .slice none 0 0], .bool true]) (by simp [results, Tryd.results57, go_sem, c0, c1, c2, c3, c4, c5, Result.andThen]) rfl ?_
        rw [HR.out]
        exact ⟨none, 0, rfl, Nat.le_refl _, by unfold maxLen; omega, Lies.nil, (fun x hx => by simp at hx), HB6.out⟩
  | true =>
    by_cases hnk : n = K + 1
    rotate_left
    · have HR := Lib.hid (show R = none by rw [HV.out, if_pos (.inr (by simpa using hnk))])
      have dN : ((n : Int) != (K : Int) + 1) = true := by rw [bne_iff_ne]; omega
      clear hnk
      go_enter Tryd.func57, Tryd.ntmps57
      go_wp2_with fail
      refine HGG.out.mono ?_
      rintro e w2 ⟨rfl, hb2⟩
      have HB2 := Lib.hid (HB0.out.trans (hb2.mono HB0.out.size))
      have HZ2 := Lib.hid ((hb2.block _ HZ0.out.lt).trans HZ0.out)
      have n0 : w2.cell? ⟨gn, 0, none⟩ = some (.int .i64 1) := (HC.out w2 HB2.out).2.1
      clear hb2
      go_wp2_with (first | fail | refine wpList_storeR rfl _ _ rfl w.heap.size rfl 0 0 0 0 false none 0 0 rfl _ _ _ _ _ _ HZ2.out ?k9)
      case k9 =>
        intro w6 hb6 hk6
        obtain ⟨c0, c1, c2, c3, c4, c5⟩ := six13 hb6
        have HB6 := Lib.hid (Kept.below HB2.out hk6 (by simp))
        clear hb6 hk6
        go_wp2
        refine bodyPost_ret (v := .tuple #[.agg #[.int .i64 0, .int .i64 0, .int .i64 0, .int .i64 0, .bool false, .slice none 0 0], .bool false]) (by simp [results, Tryd.results57, go_sem, c0, c1, c2, c3, c4, c5, Result.andThen]) rfl ?_
        rw [HR.out]
        exact OGives.nil HB6.out
    · obtain ⟨ad, rfl, hat⟩ := HAT.out K (by omega)
      obtain ⟨q, hq⟩ : ∃ q, (x.getD K 0).toNat = q := ⟨_, rfl⟩
      have hq256 : q < 256 := by rw [← hq]; exact (x.getD K 0).toNat_lt
      have HR := Lib.hid (show R = some ⟨0, (X : Nat), (q : Nat), 0, false, []⟩ by rw [HV.out, if_neg (by simp [hnk]), ← hq]; rfl)
      rw [hq] at hat
      have HAT2 := Lib.hid hat
      have dN : ((n : Int) != (K : Int) + 1) = false := by rw [bne_eq_false_iff_eq]; omega
      clear hq hat HAT HV
      have hKn : K < n := by omega
      clear hnk
      go_enter Tryd.func57, Tryd.ntmps57
      go_wp2_with fail
      refine HGG.out.mono ?_
      rintro e w2 ⟨rfl, hb2⟩
      have HB2 := Lib.hid (HB0.out.trans (hb2.mono HB0.out.size))
      have hz2 := (hb2.block _ HZ0.out.lt).trans HZ0.out
      have HZ2 := Lib.hid (show Blk w2 w.heap.size _ _ from hz2)
      obtain ⟨-, n0, m0⟩ := HC.out w2 HB2.out
      have n0 : w2.cell? ⟨gn, 0, none⟩ = some (.int .i64 1) := n0
      have m1 : (w2.alloc (.cells #[.int .i64 0, .int .i64 (X : Int), .int .i64 0, .int .i64 0, .bool false, .slice none 0 0] 24)).cell? ⟨gc, 0, none⟩ = some (.bool true) := (HC.out _ (HB2.out.alloc HB2.out.size _)).2.2
      have v0 : (w2.alloc (.cells #[.int .i64 0, .int .i64 (X : Int), .int .i64 0, .int .i64 0, .bool false, .slice none 0 0] 24)).cell? (ad.add K) = some (.int .u8 (q : Int)) := HAT2.out _ (HB2.out.alloc HB2.out.size _)
      clear hb2 hz2
      go_wp2_with (first | fail | refine wpList_storeR rfl _ _ rfl w.heap.size rfl 0 (X : Int) (q : Int) 0 false none 0 0 rfl _ _ _ _ _ _ (blk_past HZ2.out _) ?k9)
      case k9 =>
        intro w6 hb6 hk6
        obtain ⟨c0, c1, c2, c3, c4, c5⟩ := six13 hb6
        have HB6 := Lib.hid (Kept.below (HB2.out.alloc HB2.out.size _) hk6 (by simp))
        clear hb6 hk6
        go_wp2
        refine bodyPost_ret (v := .tuple #[.agg #[.int .i64 0, .int .i64 (X : Int), .int .i64 (q : Int), .int .i64 0, .bool false, .slice none 0 0], .bool true]) (by simp [results, Tryd.results57, go_sem, c0, c1, c2, c3, c4, c5, Result.andThen]) rfl ?_
        rw [HR.out]
        exact ⟨none, 0, rfl, Nat.le_refl _, by unfold maxLen; omega, Lies.nil, (fun x hx => by simp at hx), HB6.out⟩

set_option maxHeartbeats 1000000 in
theorem dcost13_any (A : Option Addr) (n cap : Nat) (l : List Plain.Sp) (w : World) (hn : l.length = n) (hm : n ≤ maxLen) (hA : Lies w A (flat l)) (hS : Fine l) :
    Calls Tryd.prog 18 #[.slice A n cap] w fun e w' => e = .returned (.int .i64 (Rc.cost l : Int)) ∧ Below w.heap.size w w' := by
  have HT := Lib.hid (tput_any A n cap l w hn hm hA hS)
  have hV : Rc.cost l = if (Plain.tput l).length = 0 then 0 else 16 + (Plain.tput l).length := rfl
  have htl := Plain.tput_len l
  have HTL := Lib.hid (cells_length (Plain.tput l))
  generalize Plain.tput l = tb at *
  obtain ⟨m, hm⟩ : ∃ m, tb.length = m := ⟨_, rfl⟩
  rw [hm] at hV htl HTL
  have HM := Lib.hid hm
  clear hm hn hA hS
  by_cases h0 : m = 0
  · have hV2 : ((Rc.cost l : Nat) : Int) = 0 := by rw [hV, if_pos h0]; rfl
    have HV := Lib.hid hV2
    clear hV hV2
    go_enter Tryd.func18, Tryd.ntmps18
    go_wp2_with fail
    refine HT.out.mono ?_
    rintro e w3 ⟨v3, rfl, ho3, hb3⟩
    rw [HM.out] at ho3
    obtain ⟨A3, c3, rfl, -, -, hl3, -⟩ := own_form ho3
    have HB := Lib.hid hb3
    clear ho3 hb3
    have d0 : ((m : Int) == 0) = true := by rw [beq_iff_eq]; omega
    go_wp2
    go_ret
    exact ⟨ret_int HV.out.symm, HB.out⟩
  · have hV2 : ((Rc.cost l : Nat) : Int) = 16 + (m : Int) := by rw [hV, if_neg h0]; omega
    have HV := Lib.hid hV2
    clear hV hV2
    go_enter Tryd.func18, Tryd.ntmps18
    go_wp2_with fail
    refine HT.out.mono ?_
    rintro e w3 ⟨v3, rfl, ho3, hb3⟩
    rw [HM.out] at ho3
    obtain ⟨A3, c3, rfl, -, -, hl3, -⟩ := own_form ho3
    have HB := Lib.hid hb3
    clear ho3 hb3
    have d0 : ((m : Int) == 0) = false := by rw [beq_eq_false_iff_ne]; omega
    go_wp2
    go_ret
    exact ⟨ret_int HV.out.symm, HB.out⟩

set_option maxHeartbeats 1000000 in
theorem dright13_any (r : Rc.R) (A : Option Addr) (n cap : Nat) (w : World) (hn : r.sp.length = n) (hm : n ≤ maxLen) (hA : Lies w A (flat r.sp)) (hS : Fine r.sp) :
    Calls Tryd.prog 14 #[recV r A n cap] w fun e w' => e = .returned (.bool (Rc.right r)) ∧ Below w.heap.size w w' := by
  have hB0 : Below w.heap.size w (w.alloc (.cells (recCs r A n cap) 24)) := (Below.refl _ _).alloc (Nat.le_refl _) _
  have HP := Lib.hid (dput13_any r A n cap (w.alloc (.cells (recCs r A n cap) 24)) hn hm (hA.below hB0) hS)
  have hV : decide ((0 : Int) < ((Rc.rput r).length : Int)) = Rc.right r := by
    rw [Bool.eq_iff_iff, decide_eq_true_eq, ← Rc.rput_pos]
    omega
  obtain ⟨B, hB⟩ : ∃ B, Rc.rput r = B := ⟨_, rfl⟩
  obtain ⟨RR, hRR⟩ : ∃ RR, Rc.right r = RR := ⟨_, rfl⟩
  rw [hB] at HP hV
  rw [hRR] at hV ⊢
  obtain ⟨m, hm⟩ : ∃ m, B.length = m := ⟨_, rfl⟩
  rw [hm] at hV
  have HM := Lib.hid hm
  have HB0 := Lib.hid hB0
  unfold recV recCs at *
  obtain ⟨kind, id, cls, tick, pin, sp⟩ := r
  simp only at HP HB0 ⊢
  clear hB hRR hm hn hA hS hB0
  have y0 := fun (u : World) => Blk.cell (Blk.new u #[.int .i64 kind, .int .i64 id, .int .i64 cls, .int .i64 tick, .bool pin, .slice A n cap] 24)
  clear y0
  go_enter Tryd.func14, Tryd.ntmps14
  go_wp2_with fail
  refine HP.out.mono ?_
  rintro e w3 ⟨v3, rfl, ho3, hb3⟩
  rw [HM.out] at ho3
  obtain ⟨A3, c3, rfl, -, -, hl3, -⟩ := own_form ho3
  have HB := Lib.hid (HB0.out.trans (hb3.mono HB0.out.size))
  clear ho3 hb3
  go_wp2
  go_ret
  exact ⟨ret13 (by rw [← hV]; by_cases h : 0 < m <;> simp [h]), HB.out⟩
end Go.Proofs.YtdfeccmcefcpbaaDoor
