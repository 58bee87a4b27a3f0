/-
  Layer 5: trace.Put and trace.Get: what they answer, of any spans and of any bytes. Assumed: that these lie in memory, and for Get that errors.errorType is what its own text lays.
-/
import Derived.Test.YtdfeccmcefcpbaaDoorTrA
import Derived.Test.YtdfeccmcefcpbaaDoorBatB
import Derived.Test.YtdfeccmcefcpbaaDoorSpanG

namespace Go.Proofs.YtdfeccmcefcpbaaDoor
open Go.RowKit
set_option maxRecDepth 100000

set_option maxHeartbeats 2000000 in
theorem tput_any (A : Option Addr) (n cap : Nat) (l : List Plain.Sp) (w : World) (hn : l.length = n) (hm : n ≤ maxLen) (hA : Lies w A (flat l)) (hS : Fine l) :
    Calls Tryd.prog 32 #[.slice A n cap] w (Made w (Plain.tput l)) := by
  obtain ⟨i0, hi, hz0, hz1, hz2⟩ := info_parts infoU8
  have HN := Lib.hid hn
  have HA := Lib.hid hA
  have HS := Lib.hid hS
  have HIB := Lib.hid (tright_any A n cap l w hn hm hA hS)
  have HY := Lib.hid (Plain.tput_yes (l := l))
  have HZ := Lib.hid (Plain.tput_no (l := l))
  have HI := Lib.hid (Plain.isT_len (l := l))
  have HRT := Lib.hid (Plain.isT_right (l := l))
  have HFL := Lib.hid (Plain.put_le (n : Int))
  unfold maxLen at hm
  clear hn hA hS
  go_enter Tryd.func32, Tryd.ntmps32
  go_wp2_with fail
  refine HIB.out.mono ?_
  rintro e w1 ⟨rfl, c1⟩
  clear HIB
  obtain ⟨R, hR⟩ : ∃ R, Plain.isT l = R := ⟨_, rfl⟩
  rw [hR] at HY HZ HI HRT ⊢
  clear hR
  rcases R with _ | _
  · go_wp2
    go_ret
    refine ⟨_, rfl, ?_, c1⟩
    rw [HZ.out (by trivial)]
    exact World.ownsRow_nil _ _ _ _
  have h64 := (HI.out (by trivial)).2
  rw [HN.out] at h64
  have HP := Lib.hid (put_any none 0 [] (n : Int) w1 (by simp) Lies.nil)
  go_wp2_with fail
  refine HP.out.mono ?_
  rintro e w3 ⟨v3, rfl, ho3, d3⟩
  have HO3 := Lib.hid (show w3.ownsRow w1.heap.size 5 1 v3 (Plain.put (n : Int)).length (cells (Plain.put (n : Int))) from ho3)
  clear ho3 HP
  generalize hfr : Plain.put (n : Int) = FR at *
  have HFR := Lib.hid hfr
  clear hfr
  go_wp2
  go_loopw [3, 14] (fun v i wr => ∃ k : Nat, i = .int .i64 k ∧ k ≤ n ∧ wr.ownsRow w1.heap.size 5 1 v (FR ++ Plain.wire (l.take k)).length (cells (FR ++ Plain.wire (l.take k))) ∧ Below w1.heap.size w1 wr) (fun _ i _ => n - (intOf i).toNat)
  case atStart => exact ⟨0, rfl, Nat.zero_le _, by simpa [Plain.wire_nil] using HO3.out, d3⟩
  case round =>
    obtain ⟨k, rfl, hk, hown, hbr⟩ := hrel
    have HO := Lib.hid hown
    clear hown
    have hbw : Below w.heap.size w wr := c1.trans (hbr.mono c1.size)
    have HWL := Lib.hid (Plain.wire_len (l.take k))
    have HTL := Lib.hid (show (l.take k).length ≤ 64 by rw [List.length_take]; omega)
    by_cases hlt : k < n
    · have hkl : k < l.length := by rw [HN.out]; exact hlt
      obtain ⟨ad, rfl, hadb, hc⟩ := at_span HA.out k hkl
      obtain ⟨x0, x1, x2, x3, x4, x5, x6⟩ := hc wr hbw
      obtain ⟨hxv, hxn⟩ := HS.out l[k] (List.getElem_mem hkl)
      have HTK := Lib.hid (show Plain.wire (l.take (k + 1)) = Plain.wire (l.take k) ++ l[k].bytes by rw [List.take_succ_eq_append_getElem hkl, Plain.wire_append, Plain.wire_one])
      have HOB := Lib.hid (outp_right l[k] (HRT.out (by trivial) l[k] (List.getElem_mem hkl)))
      have hbm := l[k].bytes_max
      have HP := Lib.hid (fun u : World => spanPut_any none 0 0 [] l[k] u rfl (by omega) Lies.nil hxv hxn)
      rw [HOB.out] at HP
      clear hc
      generalize l[k].bytes = q at *
      generalize l[k] = x at *
      obtain ⟨xt, xi, xp, xs, xd, xv, xn⟩ := x
      simp only at *
      generalize str xv = XV at *
      generalize str xn = XN at *
      go_wp2_with fail
      clear x0 x1 x2 x3 x4 x5 x6
      refine (HP.out _).mono ?_
      rintro e w5 ⟨v5, rfl, ho5, d5⟩
      obtain ⟨A5, cap5, rfl, hl5, hm5, -, hL5⟩ := own_form ho5
      have hal : Below w1.heap.size w1 (wr.alloc (.cells #[.int .i64 xt, .int .i64 xi, .int .i64 xp, .int .i64 xs, .int .i64 xd, .string XV, .string XN] 40)) := hbr.alloc hbr.size _
      have HO5 := Lib.hid (own_keep (HO.out.alloc (.cells #[.int .i64 xt, .int .i64 xi, .int .i64 xp, .int .i64 xs, .int .i64 xd, .string XV, .string XN] 40)) d5)
      have c5 : Below w1.heap.size w1 w5 := hal.trans (d5.mono hal.size)
      have HWL' := HWL.out
      have HTL' := HTL.out
      have HFL' := HFL.out
      clear ho5 d5 hal
      have HL5 := Lib.hid hL5
      clear hL5
      have hqq : ([] ++ q).length = q.length := rfl
      rw [hqq] at hl5 ⊢
      have HQ := Lib.hid (show Lies w5 A5 (cells q) from HL5.out)
      have HC1 := Lib.hid (cells_length q)
      have HC2 := Lib.hid (cells_one q)
      have HAP := Lib.hid (show cells (FR ++ Plain.wire (l.take k)) ++ cells q = cells (FR ++ Plain.wire (l.take (k + 1))) by rw [HTK.out, ← cells_append, List.append_assoc])
      have HAL := Lib.hid (show (FR ++ Plain.wire (l.take k)).length + q.length = (FR ++ Plain.wire (l.take (k + 1))).length by rw [HTK.out]; simp only [List.length_append]; omega)
      have hsm : (FR ++ Plain.wire (l.take k)).length ≤ 30000 := by rw [List.length_append]; omega
      have hql : q.length ≤ 101 := hbm
      clear HL5 hqq
      generalize cells q = Q at *
      generalize q.length = ql at *
      generalize (FR ++ Plain.wire (l.take k)).length = pl at *
      generalize cells (FR ++ Plain.wire (l.take k)) = PC at *
      go_wp2_with (at_builtin; refine wpList_app rfl _ _ 25 rfl w1.heap.size 5 i0 (.int .u8 0) Tryd.underlying25 hi hz0 hz1 hz2 rfl u3 pl PC rfl HO5.out A5 ql cap5 Q rfl HC1.out HQ.out HC2.out (by omega) c5.size ?_)
      intro v6 w6 ho6 hg6 _
      have c6 : Below w1.heap.size w1 w6 := c5.grown hg6 c5.size (fun g hg => (HO5.out.lt g hg).1)
      rw [HAP.out, HAL.out] at ho6
      have HO6 := Lib.hid ho6
      clear ho6 hg6
      go_wp2
      go_roundw
      case rel => exact ⟨k + 1, by go_num, by omega, HO6.out, c6⟩
      case measure => simp [intOf]; omega
    · obtain rfl : k = n := by omega
      have hHY := HY.out (by trivial)
      rw [HN.out, HFR.out] at hHY
      have HHY := Lib.hid hHY
      clear hHY
      go_wp2
      go_ret
      refine ⟨_, rfl, ?_, hbw⟩
      rw [HHY.out]
      have := HO.out
      rw [List.take_of_length_le (by rw [HN.out]; omega)] at this
      exact own_mono this c1.size
end Go.Proofs.YtdfeccmcefcpbaaDoor

namespace Go.Proofs.YtdfeccmcefcpbaaDoor
open Go.RowKit
set_option maxRecDepth 100000

/-- what Get hands back -/
def TGetPost (w : World) (r : List Plain.Sp × Nat) (e : Ending) (w' : World) : Prop := ∃ v, e = .returned (.tuple #[v, .int .i64 (r.2 : Int)]) ∧ GivesS w w' r.1 v

set_option maxHeartbeats 8000000 in
theorem tget_any (A : Option Addr) (n cap : Nat) (x : List UInt8) (w : World) (hH : Handle w) (hn : x.length = n) (hc : n ≤ cap) (hm : cap ≤ maxLen) (hf : n ≤ 1099511627776) (hA : Lies w A (cells x)) :
    Calls Tryd.prog 54 #[.slice A n cap] w (TGetPost w (Plain.tget x)) := by
  obtain ⟨i0, hi, hz0, hz1, hz2⟩ := info_parts infoSp
  have HH := Lib.hid hH
  have HNX := Lib.hid hn
  have HA := Lib.hid hA
  have hm' := hm
  unfold maxLen at hm'
  have hsm := Plain.get_small x
  have hcc := Plain.code_cases x
  have htg : Plain.tget x = if (Plain.get x).2.2 ≠ 0 then ([], (Plain.get x).2.2) else if (Plain.get x).1 < 1 ∨ 64 < (Plain.get x).1 then ([], 12) else Plain.tfin (Plain.rds x (Plain.get x).1 (Plain.get x).2.1 []) := rfl
  obtain ⟨X, hX⟩ : ∃ X, (Plain.get x).1 = X := ⟨_, rfl⟩
  obtain ⟨K, hK⟩ : ∃ K, (Plain.get x).2.1 = K := ⟨_, rfl⟩
  obtain ⟨C, hC⟩ : ∃ C, (Plain.get x).2.2 = C := ⟨_, rfl⟩
  have HG := Lib.hid (get_is A n cap x w X K C hn (by unfold maxLen at *; omega) hA (by rw [hX]) (by rw [hK]) (by rw [hC]))
  rw [hX, hK, hC] at htg
  rw [hX, hK, hn] at hsm
  rw [hC] at hcc
  clear hX hK hC hH hn hA
  generalize Plain.tget x = gb at *
  by_cases hC0 : C = 0
  rotate_left
  · rw [if_pos hC0] at htg
    have HTG := Lib.hid htg
    have hne : ((C : Int) == 0) = false := beq_eq_false_iff_ne.2 (by omega)
    clear htg
    go_enter Tryd.func54, Tryd.ntmps54
    go_wp2_with fail
    refine HG.out.mono ?_
    rintro e w1 ⟨rfl, d1⟩
    go_wp2
    go_returns
    rw [HTG.out]
    exact ⟨.slice none 0 0, rfl, GivesS.nil d1⟩
  subst hC0
  rw [if_neg (by omega)] at htg
  by_cases h64 : 1 ≤ X ∧ X ≤ 64
  rotate_left
  · rw [if_pos (by omega)] at htg
    have HTG := Lib.hid htg
    clear htg
    go_enter Tryd.func54, Tryd.ntmps54
    go_wp2_with fail
    refine HG.out.mono ?_
    rintro e w1 ⟨rfl, d1⟩
    go_wp2_with fail
    refine (fits_any (X : Int) w1 false (by rw [decide_eq_false_iff_not]; omega)).mono ?_
    rintro e w' ⟨rfl, rfl⟩
    go_wp2
    go_returns
    rw [HTG.out]
    exact ⟨.slice none 0 0, rfl, GivesS.nil d1⟩
  rw [if_neg (by omega)] at htg
  obtain ⟨l, hl⟩ : ∃ l, (Plain.rds x X K []).1 = l := ⟨_, rfl⟩
  obtain ⟨p, hp⟩ : ∃ p, (Plain.rds x X K []).2.1 = p := ⟨_, rfl⟩
  obtain ⟨c, hcr⟩ : ∃ c, (Plain.rds x X K []).2.2 = c := ⟨_, rfl⟩
  have hR0 : Plain.rds x X K [] = (l, p, c) := by rw [← hl, ← hp, ← hcr]
  have HF := Lib.hid (show gb = if c ≠ 0 then ([], c) else if Plain.isT l then (l, 0) else ([], 12) by rw [htg, hR0]; rfl)
  have HRB := Lib.hid (show c = 0 → ∀ s ∈ l, s.right = true from fun h => by
    subst h
    obtain ⟨m, e1, _, e3, _⟩ := Plain.rds_back x X K [] l p (by rw [HNX.out]; omega) hR0
    rw [List.nil_append] at e1; subst e1; exact e3)
  have HR0 := rds_far hR0
  clear htg hl hp hcr hR0
  obtain ⟨hx1, hx2⟩ := h64
  go_enter Tryd.func54, Tryd.ntmps54
  go_wp2_with fail
  refine HG.out.mono ?_
  rintro e w1 ⟨rfl, d1⟩
  clear HG
  go_wp2_with fail
  refine (fits_any (X : Int) w1 true (by rw [decide_eq_true_eq]; omega)).mono ?_
  rintro e w' ⟨rfl, rfl⟩
  obtain ⟨W1, hmk, ho1, hg1⟩ := run_make_own (P := Tryd.prog) w1 w1.heap.size 22 40 i0 (.agg #[.int .i64 0, .int .i64 0, .int .i64 0, .int .i64 0, .int .i64 0, .string ⟨#[]⟩, .string ⟨#[]⟩]) 7 Tryd.underlying22 hi hz0 hz1 .i64 .i64 X (by rw [hz2]; omega) (by unfold maxLen; omega) (Nat.le_refl _)
  have b1 : Below w1.heap.size w1 W1 := (Below.refl _ _).grown hg1 (Nat.le_refl _) (fun g hg => by cases hg)
  have HO1 := Lib.hid ho1
  clear ho1 hg1
  go_wp2
  clear hmk
  go_loopw [5, 7, 28] (fun pv v i wr => ∃ (k q : Nat) (acc : List Plain.Sp), i = .int .i64 k ∧ k ≤ X ∧ pv = .int .i64 q ∧ q ≤ n ∧ acc.length = k ∧ RdsIs x (X - k) q acc (l, p, c) ∧ wr.ownsRow w1.heap.size 40 7 v k (flat acc) ∧ Below w1.heap.size w1 wr) (fun _ _ i _ => X - (intOf i).toNat)
  case atStart => exact ⟨0, K, [], rfl, Nat.zero_le _, rfl, by omega, rfl, HR0, HO1.out, b1⟩
  case round =>
    obtain ⟨k, q, acc, rfl, hk, rfl, hq, hacc, HR, hown, hb1⟩ := hrel
    have hbr : Below w.heap.size w wr := d1.trans (hb1.mono d1.size)
    have HO := Lib.hid hown
    have HAC := Lib.hid hacc
    clear hown hacc
    by_cases hlt : k < X
    · have hLd := (HA.out.below hbr).drop (k := q) (cap := cap) (by rw [cells_length, HNX.out]; exact hc)
      rw [cells_drop] at hLd
      have hsl := fun W => slice_lo A n cap q W hq hc hm
      have hG := spanGet_any (cutA A cap q) (n - q) (cap - q) (x.drop q) wr (HH.out.below HH.out.lt hbr) (by rw [List.length_drop, HNX.out]) (by omega) (by omega) (by omega) hLd
      rw [show X - k = (X - (k + 1)) + 1 by omega] at HR
      generalize hCA : cutA A cap q = CA at *
      clear hLd hCA
      rcases Plain.Sp.get_cases (x.drop q) with hrd | ⟨s, hrd, hsr, hsl2, -⟩
      · obtain ⟨ee, hee, hrd⟩ : ∃ ee : Nat, (ee = 11 ∨ ee = 12) ∧ Plain.Sp.rd (x.drop q) = (Plain.Sp.zero, 0, ee) := by
          rcases hrd with h | h
          · exact ⟨11, .inl rfl, h⟩
          · exact ⟨12, .inr rfl, h⟩
        rw [hrd] at hG
        have hst := rds_stop HR hrd (by omega)
        simp only [Prod.mk.injEq] at hst
        obtain ⟨rfl, rfl, rfl⟩ := hst
        have HG := Lib.hid hG
        have HFF := Lib.hid (show gb = ([], c) by rw [HF.out, if_pos (by omega)])
        have hne : ((c : Int) == 0) = false := beq_eq_false_iff_ne.2 (by omega)
        clear hG hrd HR HR0 HF HRB
        go_wp2_with fail
        refine HG.out.mono ?_
        rintro e w2 ⟨rfl, d2⟩
        simp only [Plain.Sp.zero, str]
        go_wp2
        go_returns
        rw [HFF.out]
        exact ⟨.slice none 0 0, rfl, GivesS.nil ((hbr.trans (d2.mono hbr.size)).alloc (Nat.le_trans hbr.size d2.size) _)⟩
      · rw [hrd] at hG
        have HR2 := rds_go HR hrd
        rw [List.length_drop, HNX.out] at hsl2
        have HFL := Lib.hid (show flat acc ++ [.int .i64 s.t, .int .i64 s.i, .int .i64 s.p, .int .i64 s.s, .int .i64 s.d, .string (str s.sv), .string (str s.nm)] = flat (acc ++ [s]) by rw [flat_append]; rfl)
        generalize s.bytes.length = m at *
        have HG := Lib.hid hG
        clear hG hrd HR hsr
        obtain ⟨acc2, hacc2⟩ : ∃ acc2, acc ++ [s] = acc2 := ⟨_, rfl⟩
        have HL2 := Lib.hid (show acc2.length = k + 1 by rw [← hacc2, List.length_append, HAC.out]; rfl)
        rw [hacc2] at HR2 HFL
        clear hacc2
        obtain ⟨xt, xi, xp, xs, xd, xv, xn⟩ := s
        simp only at *
        generalize str xv = XV at *
        generalize str xn = XN at *
        go_wp2_with fail
        refine HG.out.mono ?_
        rintro e w2 ⟨rfl, d2⟩
        have hbs := hb1.size
        have hds := d2.size
        have f4 : Below w1.heap.size w1 (w2.alloc (.cells #[.int .i64 xt, .int .i64 xi, .int .i64 xp, .int .i64 xs, .int .i64 xd, .string XV, .string XN] 40)) := (hb1.trans (d2.mono hb1.size)).alloc (Nat.le_trans hb1.size d2.size) _
        have HO4 := Lib.hid (show (w2.alloc (.cells #[.int .i64 xt, .int .i64 xi, .int .i64 xp, .int .i64 xs, .int .i64 xd, .string XV, .string XN] 40)).ownsRow w1.heap.size 40 7 u7 k (flat acc) from
          World.ownsRow.alloc (HO.out.kept (row := none) ⟨d2.os, d2.tape, d2.output, d2.size, fun q hq _ => d2.block q hq⟩ (by cases hv : u7.ownBlock <;> simp)) _)
        have hbn := Blk.new w2 #[.int .i64 xt, .int .i64 xi, .int .i64 xp, .int .i64 xs, .int .i64 xd, .string XV, .string XN] 40
        obtain ⟨x0, x1, x2, x3, x4, x5, x6⟩ := hbn.seven
        have hsz4 : (w2.alloc (.cells #[.int .i64 xt, .int .i64 xi, .int .i64 xp, .int .i64 xs, .int .i64 xd, .string XV, .string XN] 40)).heap.size = w2.heap.size + 1 := by simp
        clear hbn
        go_wp2_with (at_builtin; refine wpList_append_own_at _ rfl _ _ 22 rfl w1.heap.size 40 i0 (.agg #[.int .i64 0, .int .i64 0, .int .i64 0, .int .i64 0, .int .i64 0, .string ⟨#[]⟩, .string ⟨#[]⟩]) 7 72 Tryd.underlying22 hi hz0 hz1 hz2 rfl (by decide) u7 k (flat acc) rfl ?b1 ⟨w2.heap.size + 1, 0, none⟩ 1 1 [.int .i64 xt, .int .i64 xi, .int .i64 xp, .int .i64 xs, .int .i64 xd, .string XV, .string XN] rfl rfl ?b2 ?b3 ?b4 ?b5 ?b6 ?b7)
        case b1 => exact HO4.out.alloc _
        case b2 =>
          have := World.news_of_block (heap_alloc_new (w2.alloc (.cells #[.int .i64 xt, .int .i64 xi, .int .i64 xp, .int .i64 xs, .int .i64 xd, .string XV, .string XN] 40)) (.cells #[.int .i64 xt, .int .i64 xi, .int .i64 xp, .int .i64 xs, .int .i64 xd, .string XV, .string XN] 40))
          rw [hsz4] at this
          exact this
        case b3 => simp [Value.oneCell']
        case b4 => unfold maxLen; omega
        case b5 => omega
        case b6 => have := f4.size; simp at this ⊢; omega
        case b7 =>
          intro v5 w5 hown5 hgrow hnil hat
          have f5 : Below w1.heap.size w1 w5 := (f4.alloc f4.size _).grown hgrow (by have := f4.size; simp at this ⊢; omega) (fun g hg => (HO4.out.lt g hg).1)
          rw [HFL.out] at hown5
          have HO5 := Lib.hid hown5
          clear hown5 hgrow hnil hat x0 x1 x2 x3 x4 x5 x6
          go_wp2
          go_roundw
          case rel => exact ⟨k + 1, q + m, acc2, by go_num, by omega, by go_num, by omega, HL2.out, HR2, HO5.out, f5⟩
          case measure => simp [intOf]; omega
    · obtain rfl : k = X := by omega
      rw [Nat.sub_self] at HR
      have hend := rds_end HR
      rw [HNX.out] at hend
      by_cases hq2 : q < n
      · rw [if_pos hq2] at hend
        simp only [Prod.mk.injEq] at hend
        obtain ⟨rfl, rfl, rfl⟩ := hend
        have HFF := Lib.hid (show gb = ([], 12) by rw [HF.out, if_pos (by omega)])
        clear HR HR0 HF HRB
        go_wp2
        go_returns
        rw [HFF.out]
        exact ⟨.slice none 0 0, rfl, GivesS.nil hbr⟩
      · rw [if_neg hq2] at hend
        simp only [Prod.mk.injEq] at hend
        obtain ⟨rfl, rfl, rfl⟩ := hend
        have hgv : GivesS w1 wr l u7 := GivesS.own (by rw [HAC.out]; exact HO.out) hb1
        obtain ⟨A7, cap7, rfl, hl7, hm7, hL7, -⟩ := hgv
        have HFF := Lib.hid (show gb = if Plain.isT l then (l, 0) else ([], 12) by rw [HF.out, if_neg (by omega)])
        have HTR := Lib.hid (tright_any A7 l.length cap7 l wr rfl (by unfold maxLen; rw [HAC.out]; omega) hL7 (fun y hy => by
          have := (Plain.Sp.right_iff y).1 (HRB.out rfl y hy)
          unfold maxLen; omega))
        have HL7 := Lib.hid hL7
        obtain ⟨R, hRR⟩ : ∃ R, Plain.isT l = R := ⟨_, rfl⟩
        rw [hRR] at HFF HTR
        clear HR HR0 HF HRB hL7 hRR HO
        rw [HAC.out] at hl7 HTR ⊢
        go_wp2_with fail
        refine HTR.out.mono ?_
        rintro e w6 ⟨rfl, d6⟩
        have c6 := hbr.trans (d6.mono hbr.size)
        rcases R with _ | _
        · go_wp2
          go_returns
          rw [HFF.out]
          exact ⟨.slice none 0 0, rfl, GivesS.nil c6⟩
        · go_wp2
          go_returns
          rw [HFF.out]
          exact ⟨.slice A7 k cap7, rfl, A7, cap7, by simp [HAC.out], by simpa [HAC.out] using hl7, hm7, HL7.out.below d6, c6⟩
end Go.Proofs.YtdfeccmcefcpbaaDoor
