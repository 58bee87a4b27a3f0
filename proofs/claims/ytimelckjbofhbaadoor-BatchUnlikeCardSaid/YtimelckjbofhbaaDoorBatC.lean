/-
  BatSm: Layer 4: the laws' Great, and turntableref04.Same: what they answer, of any spans; Great's answer is left open but for what the laws use: where it says no there are no more than 300. Nothing is assumed but that the spans lie in memory.
  BatR: Layer 4: turntableref04's Put: the bytes that it makes, of any spans. Nothing is assumed but that the spans lie in memory.
  BatRG: Layer 4: turntableref04's Get: what it answers, of any bytes. Nothing is assumed but that the bytes lie in memory.
-/
import Derived.Test.YtimelckjbofhbaaDoorBatB
import Derived.Test.YtimelckjbofhbaaDoorSpanO
import Derived.Deep.QuietTactic
import Derived.BigQuiet
import Derived.Test.YtimelckjbofhbaaDoorRef2
import Derived.Test.YtimelckjbofhbaaDoorRef3
import Derived.Test.YtimelckjbofhbaaDoorBatGet

namespace Go.Proofs.YtimelckjbofhbaaDoor
open Go.RowKit
set_option maxRecDepth 100000

/-- what Great answers, as far as the laws use it -/
def GreatPost (n : Nat) (w : World) (e : Ending) (w' : World) : Prop := ∃ g, e = .returned (.bool g) ∧ (g = false → n ≤ 300) ∧ Below w.heap.size w w'
set_option maxHeartbeats 2000000 in
theorem great_any (A : Option Addr) (n cap : Nat) (l : List Plain.Sp) (w : World) (hn : l.length = n) (hc : n ≤ cap) (hm : cap ≤ maxLen) (hA : Lies w A (flat l)) :
    Calls Tryd.prog 10 #[.slice A n cap] w (GreatPost n w) := by
  have HN := Lib.hid hn
  have HA := Lib.hid hA
  unfold maxLen at hm
  clear hn hA
  go_enter Tryd.func10, Tryd.ntmps10
  go_wp2
  go_loopw [3, 4] (fun m i wr => ∃ (k : Nat) (M : Int), m = .int .i64 M ∧ i = .int .i64 k ∧ k ≤ n ∧ Below w.heap.size w wr) (fun _ i _ => n - (intOf i).toNat)
  case atStart => exact ⟨0, n, rfl, rfl, Nat.zero_le _, Below.refl _ _⟩
  case round =>
    obtain ⟨k, M, rfl, rfl, hk, hbr⟩ := hrel
    by_cases hlt : k < n
    · by_cases hM : M < 9000
      · have hkl : k < l.length := by rw [HN.out]; exact hlt
        obtain ⟨ad, rfl, hadb, hcl⟩ := at_span HA.out k hkl
        have HC := Lib.hid hcl
        clear hcl
        generalize l[k] = x at *
        obtain ⟨xt, xi, xp, xs, xd, xv, xn⟩ := x
        simp only at *
        generalize str xv = XV at *
        generalize str xn = XN at *
        obtain ⟨-, -, -, -, -, x5, x6⟩ := HC.out wr hbr
        have hM2 : decide (M < 9000) = true := by simp [hM]
        go_wp2
        go_region
        go_wp2
        go_roundw
        case rel => exact ⟨k + 1, _, rfl, by go_num, by omega, hbr.drew⟩
        case measure => simp [intOf]; omega
      · have hM3 : decide (9000 ≤ M) = true := by simp; omega
        go_wp2
        go_ret
        exact ⟨true, rfl, (fun h => by cases h), hbr⟩
    · obtain rfl : k = n := by omega
      by_cases hM : M < 9000
      · have hM3 : decide (9000 ≤ M) = false := by simp; omega
        go_wp2
        go_ret
        exact ⟨decide (300 < (k : Int)), rfl, (fun h => by simp at h; omega), hbr⟩
      · have hM3 : decide (9000 ≤ M) = true := by simp; omega
        go_wp2
        go_ret
        exact ⟨true, rfl, (fun h => by cases h), hbr⟩

theorem neq_sp (w : World) (x y : Plain.Sp) :
    (binOp .neq 39 (.agg #[.int .i64 x.t, .int .i64 x.i, .int .i64 x.p, .int .i64 x.s, .int .i64 x.d, .string (str x.sv), .string (str x.nm)]) (.agg #[.int .i64 y.t, .int .i64 y.i, .int .i64 y.p, .int .i64 y.s, .int .i64 y.d, .string (str y.sv), .string (str y.nm)])).run Tryd.prog w
      = .ok (.bool (!decide (x = y))) w := by
  have h := eq_sp w x y
  rw [run_eql_struct] at h
  rw [run_neq_struct]
  revert h
  generalize (Op.equalIn 10000 39 (.agg #[.int .i64 x.t, .int .i64 x.i, .int .i64 x.p, .int .i64 x.s, .int .i64 x.d, .string (str x.sv), .string (str x.nm)]) (.agg #[.int .i64 y.t, .int .i64 y.i, .int .i64 y.p, .int .i64 y.s, .int .i64 y.d, .string (str y.sv), .string (str y.nm)])).run Tryd.prog w = r
  cases r with
  | ok b w' =>
    intro h
    simp only [Result.andThen, Result.ok.injEq, Value.bool.injEq] at h ⊢
    rw [h.1, h.2]
    exact ⟨rfl, rfl⟩
  | _ => intro h; simp [Result.andThen] at h

set_option maxHeartbeats 2000000 in
theorem same_any (A B : Option Addr) (n m ca cb : Nat) (a b : List Plain.Sp) (w : World) (hn : a.length = n) (hm : b.length = m) (hca : n ≤ ca) (hcb : m ≤ cb) (_hma : ca ≤ maxLen) (_hmb : cb ≤ maxLen) (hA : Lies w A (flat a)) (hB : Lies w B (flat b)) :
    Calls Tryd.prog 15 #[.slice A n ca, .slice B m cb] w fun e w' => e = .returned (.bool (decide (a = b))) ∧ Below w.heap.size w w' := by
  unfold maxLen at _hma _hmb
  by_cases hnm : n = m
  rotate_left
  · have HE := Lib.hid (show decide (a = b) = false by rw [decide_eq_false_iff_not]; intro h; subst h; omega)
    clear hn hm hA hB
    go_enter Tryd.func15, Tryd.ntmps15
    go_wp2
    go_ret
    exact ⟨by rw [HE.out]; rfl, Below.refl _ _⟩
  subst hnm
  have HNA := Lib.hid hn
  have HNB := Lib.hid hm
  have HA := Lib.hid hA
  have HB := Lib.hid hB
  clear hn hm hA hB
  go_enter Tryd.func15, Tryd.ntmps15
  go_wp2
  go_loopw [5] (fun i wr => ∃ k : Nat, i = .int .i64 k ∧ k ≤ n ∧ a.take k = b.take k ∧ Below w.heap.size w wr) (fun i _ => n - (intOf i).toNat)
  case atStart => exact ⟨0, rfl, Nat.zero_le _, by simp, Below.refl _ _⟩
  case round =>
    obtain ⟨k, rfl, hk, htk, hbr⟩ := hrel
    have HTK := Lib.hid htk
    clear htk
    by_cases hlt : k < n
    · have hka : k < a.length := by rw [HNA.out]; exact hlt
      have hkb : k < b.length := by rw [HNB.out]; exact hlt
      obtain ⟨ad, rfl, hadb, hcl⟩ := at_span HA.out k hka
      obtain ⟨bd, rfl, hbdb, hclb⟩ := at_span HB.out k hkb
      obtain ⟨x0, x1, x2, x3, x4, x5, x6⟩ := hcl wr hbr
      obtain ⟨y0, y1, y2, y3, y4, y5, y6⟩ := hclb wr hbr
      have hne := fun W => neq_sp W a[k] b[k]
      have HT1 := Lib.hid (show a[k] = b[k] → a.take (k + 1) = b.take (k + 1) by
        intro h; rw [List.take_succ_eq_append_getElem hka, List.take_succ_eq_append_getElem hkb, HTK.out, h])
      have HT2 := Lib.hid (show a[k] ≠ b[k] → a ≠ b by
        intro h h2; subst h2; exact h rfl)
      clear hcl hclb
      generalize a[k] = x at *
      generalize b[k] = y at *
      obtain ⟨D, hD⟩ : ∃ D, decide (x = y) = D := ⟨_, rfl⟩
      rw [hD] at hne
      have HD := Lib.hid hD
      clear hD
      have HXY := Lib.hid (show D = true → x = y from fun h => by have := HD.out; rw [h] at this; exact of_decide_eq_true this)
      have HXN := Lib.hid (show D = false → x ≠ y from fun h => by have := HD.out; rw [h] at this; exact of_decide_eq_false this)
      obtain ⟨xt, xi, xp, xs, xd, xv, xn⟩ := x
      obtain ⟨yt, yi, yp, ys, yd, yv, yn⟩ := y
      simp only at *
      generalize str xv = XV at *
      generalize str xn = XN at *
      generalize str yv = YV at *
      generalize str yn = YN at *
      clear HD
      rcases D with _ | _
      · have HF := Lib.hid (show decide (a = b) = false by rw [decide_eq_false_iff_not]; exact HT2.out (HXN.out rfl))
        go_wp2
        go_quiet (fail)
        go_wp2
        go_ret
        exact ⟨by rw [HF.out]; rfl, below_many hbr _⟩
      · have HT := Lib.hid (HT1.out (HXY.out rfl))
        go_wp2
        go_quiet (fail)
        go_wp2
        go_roundw
        case rel => exact ⟨k + 1, by go_num, by omega, HT.out, below_many hbr _⟩
        case measure => simp [intOf]; omega
    · obtain rfl : k = n := by omega
      have HF := Lib.hid (show decide (a = b) = true by
        have := HTK.out
        rw [List.take_of_length_le (by rw [HNA.out]; omega), List.take_of_length_le (by rw [HNB.out]; omega)] at this
        simp [this])
      go_wp2
      go_ret
      exact ⟨by rw [HF.out]; rfl, hbr⟩
end Go.Proofs.YtimelckjbofhbaaDoor

namespace Go.Proofs.YtimelckjbofhbaaDoor
open Go.RowKit
set_option maxRecDepth 100000

set_option maxHeartbeats 4000000 in
theorem rbatchPut_any (A : Option Addr) (n cap : Nat) (l : List Plain.Sp) (w : World) (hn : l.length = n) (hm : n ≤ maxLen) (hA : Lies w A (flat l)) (hS : Fine l) :
    Calls Tryd.prog 14 #[.slice A n cap] w (Made w (Plain.bput l)) := by
  have HN := Lib.hid hn
  have HA := Lib.hid hA
  have HS := Lib.hid hS
  have HY := Lib.hid (Plain.bput_yes l)
  have HZ := Lib.hid (Plain.bput_no l)
  have HI := Lib.hid (Plain.isB_iff l)
  have HBL := Lib.hid (Plain.body_le l)
  have HBD := Lib.hid (show Plain.body l = Plain.front l.length ++ Plain.wire l from rfl)
  unfold maxLen at hm
  clear hn hA hS
  by_cases h256 : 256 < n
  · go_enter Tryd.func14, Tryd.ntmps14
    go_wp2
    go_ret
    refine ⟨_, rfl, ?_, Below.refl _ _⟩
    rw [HZ.out (by rw [Bool.eq_false_iff]; intro h; have := (HI.out.1 h).1; have := HN.out; omega)]
    exact World.ownsRow_nil _ _ _ _
  have hL2 := lies_made w w.heap.size (cells [84, 66]) #[.int .u8 84, .int .u8 66] 5 rfl rfl
  have c2 : Below w.heap.size w (w.alloc (.cells #[.int .u8 84, .int .u8 66] 5)) := (Below.refl _ _).alloc (Nat.le_refl _) _
  have HP := Lib.hid (rput_any (some ⟨w.heap.size, 0, none⟩) 2 [84, 66] (n : Int) (w.alloc (.cells #[.int .u8 84, .int .u8 66] 5)) (by simp) hL2)
  clear hL2
  go_enter Tryd.func14, Tryd.ntmps14
  go_wp2_with fail
  generalize w.alloc (.cells #[.int .u8 84, .int .u8 66] 5) = W2 at *
  refine HP.out.mono ?_
  rintro e w3 ⟨v3, rfl, ho3, d3⟩
  obtain ⟨A3, cap3, rfl, hl3, hm3, -, hL3⟩ := own_form ho3
  have HO3 := Lib.hid (show Lies w3 A3 (cells (Plain.front n)) from hL3)
  have HFL := Lib.hid (show (Plain.front n).length ≤ 4 by rw [Plain.front_len n (by omega)]; split <;> omega)
  have hfr : ([84, 66] ++ Plain.put (n : Int)).length = (Plain.front n).length := rfl
  rw [hfr] at hl3 ⊢
  have c3 := c2.trans (d3.mono c2.size)
  clear ho3 HP hL3 hfr
  go_wp2
  go_loopw [3, 4] (fun v i wr => ∃ (k capr : Nat) (Ar : Option Addr), i = .int .i64 k ∧ k ≤ n ∧ v = .slice Ar (Plain.front n ++ Plain.wire (l.take k)).length capr ∧ (Plain.front n ++ Plain.wire (l.take k)).length ≤ capr ∧ capr ≤ maxLen ∧ Lies wr Ar (cells (Plain.front n ++ Plain.wire (l.take k))) ∧ (∀ x ∈ l.take k, x.right = true) ∧ Below w.heap.size w wr) (fun _ i _ => n - (intOf i).toNat)
  case atStart => exact ⟨0, cap3, A3, rfl, Nat.zero_le _, by simp [Plain.wire_nil], by simpa [Plain.wire_nil] using hl3, hm3, by simpa [Plain.wire_nil] using HO3.out, by simp, c3⟩
  case round =>
    obtain ⟨k, capr, Ar, rfl, hk, rfl, hlr, hmr, hLr, hall, hbr⟩ := hrel
    have HLR := Lib.hid hLr
    have HALL := Lib.hid hall
    clear hLr hall
    have hwl := Plain.wire_len (l.take k)
    have htl : (l.take k).length ≤ 256 := by rw [List.length_take]; omega
    have hfl := HFL.out
    have hsm : (Plain.front n ++ Plain.wire (l.take k)).length ≤ 30000 := by rw [List.length_append]; omega
    by_cases hlt : k < n
    · have hkl : k < l.length := by rw [HN.out]; exact hlt
      obtain ⟨ad, rfl, hadb, hc⟩ := at_span HA.out k hkl
      have HC := Lib.hid hc
      obtain ⟨x0, x1, x2, x3, x4, x5, x6⟩ := hc wr hbr
      obtain ⟨hxv, hxn⟩ := HS.out l[k] (List.getElem_mem hkl)
      have HTK := Lib.hid (show Plain.wire (l.take (k + 1)) = Plain.wire (l.take k) ++ l[k].bytes by rw [List.take_succ_eq_append_getElem hkl, Plain.wire_append, Plain.wire_one])
      have HT := Lib.hid (show l.take (k + 1) = l.take k ++ [l[k]] from List.take_succ_eq_append_getElem hkl)
      have HM := Lib.hid (show l[k] ∈ l from List.getElem_mem hkl)
      have HOB := Lib.hid (outp_right l[k])
      have HPT := Lib.hid (fun (u : World) (h : Lies u Ar (cells (Plain.front n ++ Plain.wire (l.take k)))) => rspanPut_any Ar _ capr (Plain.front n ++ Plain.wire (l.take k)) l[k] u rfl (by omega) h hxv hxn)
      have hR := sp_right l[k]
      rw [← str_size] at hxv hxn
      clear hc
      generalize l[k].bytes = q at *
      generalize l[k].outp = qo at *
      generalize l[k] = x at *
      obtain ⟨R, hRR⟩ : ∃ R, x.right = R := ⟨_, rfl⟩
      have HRR := Lib.hid hRR
      rw [hRR] at hR
      have HR := Lib.hid hR
      clear hR hRR
      obtain ⟨xt, xi, xp, xs, xd, xv, xn⟩ := x
      simp only at *
      generalize str xv = XV at *
      generalize str xn = XN at *
      generalize hpl : (Plain.front n ++ Plain.wire (l.take k)).length = pl at *
      go_wp2_with fail
      clear x0 x1 x2 x3 x4 x5 x6
      refine (rright_any xt xi xp xs xd XV XN wr R hxv hxn HR.out).mono ?_
      rintro e w4 ⟨rfl, d4⟩
      have c4 := hbr.trans (d4.mono hbr.size)
      rcases R with _ | _
      · go_wp2
        go_ret
        refine ⟨_, rfl, ?_, c4⟩
        rw [HZ.out (by
          rw [Bool.eq_false_iff]; intro h
          have h1 := (HI.out.1 h).2 _ HM.out
          rw [HRR.out] at h1; cases h1)]
        exact World.ownsRow_nil _ _ _ _
      · obtain ⟨x0, x1, x2, x3, x4, x5, x6⟩ := HC.out w4 c4
        go_wp2_with fail
        clear x0 x1 x2 x3 x4 x5 x6
        refine (HPT.out w4 (HLR.out.below d4)).mono ?_
        rintro e w5 ⟨v5, rfl, ⟨B5, n5, ho5⟩, d5⟩
        obtain ⟨A5, cap5, rfl, hl5, hm5, hle5, hL5⟩ := own_form ho5
        rw [cells_length] at hle5
        have e5 : Plain.front n ++ Plain.wire (l.take k) ++ qo = Plain.front n ++ Plain.wire (l.take (k + 1)) := by rw [HTK.out, HOB.out HRR.out, List.append_assoc]
        rw [e5] at hle5 hL5
        subst hle5
        have HL5 := Lib.hid hL5
        clear ho5 hL5 e5
        go_wp2
        go_roundw
        case rel =>
          refine ⟨k + 1, cap5, A5, by go_num, by omega, by rw [List.length_append], hl5, hm5, HL5.out, ?_, c4.trans (d5.mono c4.size)⟩
          rw [HT.out]
          intro y hy
          rcases List.mem_append.1 hy with hy | hy
          · exact HALL.out y hy
          · rw [List.mem_singleton.1 hy]; exact HRR.out
        case measure => simp [intOf]; omega
    · obtain rfl : k = n := by omega
      have hbl := HBL.out (by rw [HN.out]; omega)
      have htk : l.take k = l := List.take_of_length_le (by rw [HN.out]; omega)
      have hlr' := hlr
      have hLb := HLR.out
      have hall := HALL.out
      rw [htk] at hLb hall hlr' ⊢
      have hB : Plain.isB l = true := HI.out.2 ⟨by rw [HN.out]; omega, hall⟩
      have hbd : Plain.front k ++ Plain.wire l = Plain.body l := by rw [HBD.out, HN.out]
      rw [hbd] at hLb hlr' ⊢
      have HSE := Lib.hid (rSeal_walk Ar capr (Plain.body l).length (Plain.body l) wr rfl (by omega) hLb)
      have HHY := Lib.hid (HY.out hB)
      clear hLb hbl hall hB hbd htk HLR HALL hwl htl hsm hlr
      generalize (Plain.body l).length = bl at *
      go_wp2_with fail
      refine HSE.out.mono ?_
      rintro e w6 ⟨v6, rfl, ho6, d6⟩
      have HO6 := Lib.hid ho6
      clear ho6
      go_wp2
      go_ret
      refine ⟨_, rfl, ?_, hbr.trans (d6.mono hbr.size)⟩
      rw [HHY.out]
      exact own_mono HO6.out hbr.size
end Go.Proofs.YtimelckjbofhbaaDoor

namespace Go.Proofs.YtimelckjbofhbaaDoor
open Go.RowKit
set_option maxRecDepth 100000

theorem tb_iff (x : List UInt8) (c0 c1 : UInt8) (r : List UInt8) (h : x = c0 :: c1 :: r) : x.take 2 = [84, 66] ↔ (c0.toNat : Int) = 84 ∧ (c1.toNat : Int) = 66 := by
  subst h
  simp only [List.take_succ_cons, List.take_zero, List.cons.injEq, and_true]
  constructor
  · rintro ⟨rfl, rfl⟩; exact ⟨rfl, rfl⟩
  · rintro ⟨h1, h2⟩
    refine ⟨UInt8.toNat_inj.1 ?_, UInt8.toNat_inj.1 ?_⟩
    · show c0.toNat = 84; omega
    · show c1.toNat = 66; omega

set_option maxHeartbeats 8000000 in
theorem rbatchGet_any (A : Option Addr) (n cap : Nat) (b : List UInt8) (w : World) (hn : b.length = n) (hc : n ≤ cap) (_hm : cap ≤ maxLen) (hf : n ≤ 1099511627776) (hA : Lies w A (cells b)) :
    Calls Tryd.prog 12 #[.slice A n cap] w (GetPost w (Plain.bget b)) := by
  obtain ⟨i0, hi, hz0, hz1, hz2⟩ := info_parts infoSp
  have hg : Plain.bget b = if (Plain.dec b).2.2 ≠ 0 then ([], (Plain.dec b).2.1, (Plain.dec b).2.2) else ((Plain.dec b).1, n, 0) := by unfold Plain.bget; rw [hn]
  have hdec : Plain.dec b = if n < 7 then ([], 0, 11) else if Crc.opens b then Plain.bdec (b.take (n - 4)) else ([], 0, 21) := by unfold Plain.dec; rw [hn]
  unfold maxLen at _hm
  by_cases h7 : n < 7
  · rw [if_pos h7] at hdec
    rw [hdec] at hg
    have HG := Lib.hid hg
    clear hdec hg hA hn
    generalize Plain.bget b = gb at *
    go_enter Tryd.func12, Tryd.ntmps12
    go_wp2
    go_returns
    rw [HG.out]
    exact ⟨.slice none 0 0, rfl, GivesS.nil (Below.refl _ _)⟩
  rw [if_neg h7] at hdec
  have HO := Lib.hid (rOpen_walk A cap n b w hn hf hc hA)
  by_cases ho : Crc.opens b
  rotate_left
  · rw [if_neg ho] at hdec
    rw [hdec] at hg
    have HG := Lib.hid hg
    have HNO := Lib.hid ho
    clear hdec hg hA hn ho
    generalize Plain.bget b = gb at *
    go_enter Tryd.func12, Tryd.ntmps12
    go_wp2_with fail
    refine HO.out.mono ?_
    rintro e w1 ⟨d1, h⟩
    rcases h with ⟨h, _⟩ | ⟨_, rfl⟩
    · exact absurd h HNO.out
    go_wp2
    go_returns
    rw [HG.out]
    exact ⟨.slice none 0 0, rfl, GivesS.nil d1⟩
  rw [if_pos ho] at hdec
  have HYO := Lib.hid ho
  clear ho
  obtain ⟨x, hx⟩ : ∃ x, b.take (n - 4) = x := ⟨_, rfl⟩
  rw [hx] at hdec
  have hxl : x.length = n - 4 := by rw [← hx, List.length_take, hn]; omega
  obtain ⟨c0, c1, xr, hxx⟩ : ∃ c0 c1 xr, x = c0 :: c1 :: xr := by
    match x, hxl with
    | [], h => simp at h; omega
    | [_], h => simp at h; omega
    | c0 :: c1 :: xr, _ => exact ⟨c0, c1, xr, rfl⟩
  have htb := tb_iff x c0 c1 xr hxx
  have HC0 := Lib.hid (show (cells x)[0]? = some (.int .u8 (c0.toNat : Int)) by rw [hxx]; rfl)
  have HC1 := Lib.hid (show (cells x)[1]? = some (.int .u8 (c1.toNat : Int)) by rw [hxx]; rfl)
  have HXL := Lib.hid hxl
  have HX := Lib.hid hx
  have HN := Lib.hid hn
  have HG := Lib.hid hg
  have HDEC := Lib.hid hdec
  clear hx hxl hxx hn hg hdec hA
  generalize (c0.toNat : Int) = z0 at *
  generalize (c1.toNat : Int) = z1 at *
  have hsm := Plain.get_small (x.drop 2)
  rw [List.length_drop, HXL.out] at hsm
  have hcc := Plain.code_cases (x.drop 2)
  have hhd : Plain.hd x = if ¬ x.take 2 = [84, 66] then (0, 0, 0, 12) else if (Plain.get (x.drop 2)).2.2 ≠ 0 then (0, 0, 2, (Plain.get (x.drop 2)).2.2) else if 256 < (Plain.get (x.drop 2)).1 then (0, 0, 2, 12) else ((Plain.get (x.drop 2)).1, 2 + (Plain.get (x.drop 2)).2.1, 0, 0) := rfl
  have HBD := Lib.hid (show Plain.bdec x = if (Plain.hd x).2.2.2 ≠ 0 then ([], (Plain.hd x).2.2.1, (Plain.hd x).2.2.2) else Plain.rds x (Plain.hd x).1 (Plain.hd x).2.1 [] from rfl)
  go_enter Tryd.func12, Tryd.ntmps12
  go_wp2_with fail
  refine HO.out.mono ?_
  rintro e w1 ⟨d1, h⟩
  rcases h with ⟨_, v1, rfl, how⟩ | ⟨h, _⟩
  rotate_left
  · exact absurd HYO.out h
  rw [HN.out, HX.out] at how
  obtain ⟨g1, cap1, rfl, hl1, hm1, hLx⟩ := own_some how (by omega)
  have HLX := Lib.hid hLx
  have e0 : w1.cell? ⟨g1, 0, none⟩ = some (.int .u8 z0) := by
    obtain ⟨ad, h1, h2, h3⟩ := hLx.at_ (k := 0) (by rw [cells_length, HXL.out]; omega)
    injection h1 with h1; subst h1
    have h4 := HC0.out
    rw [List.getElem?_eq_getElem (by rw [cells_length, HXL.out]; omega)] at h4
    rw [Option.some.inj h4] at h3
    simpa [Addr.add] using h3
  have e1 : w1.cell? ⟨g1, 1, none⟩ = some (.int .u8 z1) := by
    obtain ⟨ad, h1, h2, h3⟩ := hLx.at_ (k := 1) (by rw [cells_length, HXL.out]; omega)
    injection h1 with h1; subst h1
    have h4 := HC1.out
    rw [List.getElem?_eq_getElem (by rw [cells_length, HXL.out]; omega)] at h4
    rw [Option.some.inj h4] at h3
    simpa [Addr.add] using h3
  clear how hLx HC0 HC1 HO HX
  unfold maxLen at hm1
  by_cases hz : z0 = 84 ∧ z1 = 66
  rotate_left
  · have hT : ¬ x.take 2 = [84, 66] := fun h => hz (htb.1 h)
    rw [if_pos hT] at hhd
    have HF := Lib.hid (show Plain.bget b = ([], 0, 12) by rw [HG.out, HDEC.out, HBD.out, hhd]; rfl)
    clear hhd hT htb hsm hcc HG HDEC HBD HN HXL
    generalize Plain.bget b = gb at *
    by_cases hz0 : z0 = 84
    · have hz1 : (z1 == 66) = false := beq_eq_false_iff_ne.2 fun h => hz ⟨hz0, h⟩
      go_wp2
      go_returns
      rw [HF.out]
      exact ⟨.slice none 0 0, rfl, GivesS.nil d1⟩
    · have hz0' : (z0 == 84) = false := beq_eq_false_iff_ne.2 hz0
      go_wp2
      go_returns
      rw [HF.out]
      exact ⟨.slice none 0 0, rfl, GivesS.nil d1⟩
  have hT : x.take 2 = [84, 66] := htb.2 hz
  obtain ⟨rfl, rfl⟩ := hz
  rw [if_neg (by simpa using hT)] at hhd
  clear htb hT
  have hLd := HLX.out.drop (k := 2) (cap := cap1) (by rw [cells_length, HXL.out]; exact hl1)
  rw [cells_drop] at hLd
  have hsl : ∀ W, (Instr.sliceAt 23 (.slice (some ⟨g1, 0, none⟩) (n - 4) cap1) (some (.int .i64 2)) none none).run Tryd.prog W = .ok (.slice (cutA (some ⟨g1, 0, none⟩) cap1 2) (n - 4 - 2) (cap1 - 2)) W := fun W => slice_lo (some ⟨g1, 0, none⟩) (n - 4) cap1 2 W (by omega) hl1 (by unfold maxLen; omega)
  obtain ⟨X, hX⟩ : ∃ X, (Plain.get (x.drop 2)).1 = X := ⟨_, rfl⟩
  obtain ⟨K, hK⟩ : ∃ K, (Plain.get (x.drop 2)).2.1 = K := ⟨_, rfl⟩
  obtain ⟨C, hC⟩ : ∃ C, (Plain.get (x.drop 2)).2.2 = C := ⟨_, rfl⟩
  have HGT := Lib.hid (rget_is (cutA (some ⟨g1, 0, none⟩) cap1 2) (n - 4 - 2) (cap1 - 2) (x.drop 2) w1 X K C (by rw [List.length_drop, HXL.out]) (by unfold maxLen; omega) hLd (by rw [hX]) (by rw [hK]) (by rw [hC]))
  rw [hX, hK, hC] at hhd
  rw [hX, hK] at hsm
  rw [hC] at hcc
  generalize hCA : cutA (some ⟨g1, 0, none⟩) cap1 2 = CA at *
  clear hX hK hC hLd hCA
  by_cases hC0 : C = 0
  rotate_left
  · rw [if_pos hC0] at hhd
    have HF := Lib.hid (show Plain.bget b = ([], 2, C) by
      have e : Plain.bdec x = ([], 2, C) := by rw [HBD.out, hhd]; simp only [ne_eq, hC0, not_false_iff, if_true]
      rw [HG.out, HDEC.out, e]; simp only [ne_eq, hC0, not_false_iff, if_true])
    have hne : ((C : Int) == 0) = false := beq_eq_false_iff_ne.2 (by omega)
    clear hhd HG HDEC HBD HN HXL
    generalize Plain.bget b = gb at *
    go_wp2_with fail
    refine HGT.out.mono ?_
    rintro e w2 ⟨rfl, rfl⟩
    go_wp2
    go_returns
    rw [HF.out]
    exact ⟨.slice none 0 0, rfl, GivesS.nil d1⟩
  subst hC0
  rw [if_neg (by omega)] at hhd
  by_cases h256 : 256 < X
  · rw [if_pos h256] at hhd
    have HF := Lib.hid (show Plain.bget b = ([], 2, 12) by rw [HG.out, HDEC.out, HBD.out, hhd]; rfl)
    clear hhd HG HDEC HBD HN HXL
    generalize Plain.bget b = gb at *
    go_wp2_with fail
    refine HGT.out.mono ?_
    rintro e w2 ⟨rfl, rfl⟩
    go_wp2
    go_returns
    rw [HF.out]
    exact ⟨.slice none 0 0, rfl, GivesS.nil d1⟩
  rw [if_neg h256] at hhd
  obtain ⟨l, hl⟩ : ∃ l, (Plain.rds x X (2 + K) []).1 = l := ⟨_, rfl⟩
  obtain ⟨p, hp⟩ : ∃ p, (Plain.rds x X (2 + K) []).2.1 = p := ⟨_, rfl⟩
  obtain ⟨c, hcr⟩ : ∃ c, (Plain.rds x X (2 + K) []).2.2 = c := ⟨_, rfl⟩
  have hR0 : Plain.rds x X (2 + K) [] = (l, p, c) := by rw [← hl, ← hp, ← hcr]
  have HF := Lib.hid (show Plain.bget b = if c ≠ 0 then ([], p, c) else (l, n, 0) by
    have e : Plain.bdec x = (l, p, c) := by rw [HBD.out, hhd]; simp only [ne_eq, not_true, if_false]; exact hR0
    rw [HG.out, HDEC.out, e])
  have HR0 := rds_far hR0
  clear hhd HG HDEC HBD HN hl hp hcr hR0
  generalize Plain.bget b = gb at *
  go_wp2_with fail
  refine HGT.out.mono ?_
  rintro e w2 ⟨rfl, rfl⟩
  clear HGT hsl e0 e1
  go_wp2
  go_loopw [10, 11, 12] (fun pv v i wr => ∃ (k q : Nat) (acc : List Plain.Sp), i = .int .i64 k ∧ k ≤ X ∧ pv = .int .i64 q ∧ q ≤ n - 4 ∧ acc.length = k ∧ RdsIs x (X - k) q acc (l, p, c) ∧ wr.ownsRow w1.heap.size 39 7 v k (flat acc) ∧ Below w1.heap.size w1 wr) (fun _ _ i _ => X - (intOf i).toNat)
  case atStart => exact ⟨0, 2 + K, [], rfl, Nat.zero_le _, by go_num, by omega, rfl, HR0, World.ownsRow_nil _ _ _ _, Below.refl _ _⟩
  case round =>
    obtain ⟨k, q, acc, rfl, hk, rfl, hq, hacc, HR, hown, hb1⟩ := hrel
    have hbr : Below w.heap.size w wr := d1.trans (hb1.mono d1.size)
    have HOW := Lib.hid hown
    have HAC := Lib.hid hacc
    clear hown hacc
    by_cases hlt : k < X
    · have hLd := (HLX.out.below hb1).drop (k := q) (cap := cap1) (by rw [cells_length, HXL.out]; exact hl1)
      rw [cells_drop] at hLd
      have hsl := fun W => slice_lo (some ⟨g1, 0, none⟩) (n - 4) cap1 q W hq hl1 (by unfold maxLen; omega)
      have hG := rspanGet_any (cutA (some ⟨g1, 0, none⟩) cap1 q) (n - 4 - q) (cap1 - q) (x.drop q) wr (by rw [List.length_drop, HXL.out]) (by omega) (by unfold maxLen; omega) (by omega) hLd
      rw [show X - k = (X - (k + 1)) + 1 by omega] at HR
      generalize hCA : cutA (some ⟨g1, 0, none⟩) cap1 q = CQ at *
      clear hLd hCA
      rcases Plain.Sp.get_cases (x.drop q) with hrd | ⟨s, hrd, hsr, hsl2, -⟩
      · obtain ⟨ee, hee, hrd⟩ : ∃ ee : Nat, (ee = 11 ∨ ee = 12) ∧ Plain.Sp.rd (x.drop q) = (Plain.Sp.zero, 0, ee) := by
          rcases hrd with h | h
          · exact ⟨11, .inl rfl, h⟩
          · exact ⟨12, .inr rfl, h⟩
        rw [hrd] at hG
        have hst := rds_stop HR hrd (by omega)
        simp only [Prod.mk.injEq] at hst
        obtain ⟨rfl, rfl, rfl⟩ := hst
        have HGG := Lib.hid hG
        have HFF := Lib.hid (show gb = ([], p, c) by rw [HF.out, if_pos (by omega)])
        have hne : ((c : Int) == 0) = false := beq_eq_false_iff_ne.2 (by omega)
        clear hG hrd HR HR0 HF
        go_wp2_with fail
        refine HGG.out.mono ?_
        rintro e w2 ⟨rfl, d2⟩
        simp only [Plain.Sp.zero, str]
        go_wp2
        go_returns
        rw [HFF.out]
        exact ⟨.slice none 0 0, rfl, GivesS.nil ((hbr.trans (d2.mono hbr.size)).alloc (Nat.le_trans hbr.size d2.size) _)⟩
      · rw [hrd] at hG
        have HR2 := rds_go HR hrd
        rw [List.length_drop, HXL.out] at hsl2
        have HFL := Lib.hid (show flat acc ++ [.int .i64 s.t, .int .i64 s.i, .int .i64 s.p, .int .i64 s.s, .int .i64 s.d, .string (str s.sv), .string (str s.nm)] = flat (acc ++ [s]) by rw [flat_append]; rfl)
        generalize s.bytes.length = m at *
        have HGG := Lib.hid hG
        clear hG hrd HR hsr
        obtain ⟨acc2, hacc2⟩ : ∃ acc2, acc ++ [s] = acc2 := ⟨_, rfl⟩
        have HL2 := Lib.hid (show acc2.length = k + 1 by rw [← hacc2, List.length_append, HAC.out]; rfl)
        rw [hacc2] at HR2 HFL
        clear hacc2
        obtain ⟨xt, xi, xp, xs, xd, xv, xn⟩ := s
        simp only at *
        generalize str xv = XV at *
        generalize str xn = XN at *
        go_wp2_with fail
        refine HGG.out.mono ?_
        rintro e w2 ⟨rfl, d2⟩
        have hds := d2.size
        have hbs1 := hb1.size
        have f41 : Below w1.heap.size w1 (w2.alloc (.cells #[.int .i64 xt, .int .i64 xi, .int .i64 xp, .int .i64 xs, .int .i64 xd, .string XV, .string XN] 39)) := (hb1.trans (d2.mono hb1.size)).alloc (Nat.le_trans hb1.size d2.size) _
        have HO4 := Lib.hid (show (w2.alloc (.cells #[.int .i64 xt, .int .i64 xi, .int .i64 xp, .int .i64 xs, .int .i64 xd, .string XV, .string XN] 39)).ownsRow w1.heap.size 39 7 u11 k (flat acc) from
          World.ownsRow.alloc (HOW.out.kept (row := none) ⟨d2.os, d2.tape, d2.output, d2.size, fun q hq _ => d2.block q hq⟩ (by cases hv : u11.ownBlock <;> simp)) _)
        have hbn := Blk.new w2 #[.int .i64 xt, .int .i64 xi, .int .i64 xp, .int .i64 xs, .int .i64 xd, .string XV, .string XN] 39
        obtain ⟨x0, x1, x2, x3, x4, x5, x6⟩ := hbn.seven
        have hsz4 : (w2.alloc (.cells #[.int .i64 xt, .int .i64 xi, .int .i64 xp, .int .i64 xs, .int .i64 xd, .string XV, .string XN] 39)).heap.size = w2.heap.size + 1 := by simp
        clear hbn
        go_wp2_with (at_builtin; refine wpList_append_own_at _ rfl _ _ 22 rfl w1.heap.size 39 i0 (.agg #[.int .i64 0, .int .i64 0, .int .i64 0, .int .i64 0, .int .i64 0, .string ⟨#[]⟩, .string ⟨#[]⟩]) 7 72 Tryd.underlying22 hi hz0 hz1 hz2 rfl (by decide) u11 k (flat acc) rfl ?b1 ⟨w2.heap.size + 1, 0, none⟩ 1 1 [.int .i64 xt, .int .i64 xi, .int .i64 xp, .int .i64 xs, .int .i64 xd, .string XV, .string XN] rfl rfl ?b2 ?b3 ?b4 ?b5 ?b6 ?b7)
        case b1 => exact HO4.out.alloc _
        case b2 =>
          have := World.news_of_block (heap_alloc_new (w2.alloc (.cells #[.int .i64 xt, .int .i64 xi, .int .i64 xp, .int .i64 xs, .int .i64 xd, .string XV, .string XN] 39)) (.cells #[.int .i64 xt, .int .i64 xi, .int .i64 xp, .int .i64 xs, .int .i64 xd, .string XV, .string XN] 39))
          rw [hsz4] at this
          exact this
        case b3 => simp [Value.oneCell']
        case b4 => unfold maxLen; omega
        case b5 => omega
        case b6 => have := f41.size; simp at this ⊢; omega
        case b7 =>
          intro v5 w5 hown5 hgrow hnil hat
          have f5 : Below w1.heap.size w1 w5 := (f41.alloc f41.size _).grown hgrow (by have := f41.size; simp at this ⊢; omega) (fun g hg => (HO4.out.lt g hg).1)
          rw [HFL.out] at hown5
          have HO5 := Lib.hid hown5
          clear hown5 hgrow hnil hat x0 x1 x2 x3 x4 x5 x6
          go_wp2
          go_roundw
          case rel => exact ⟨k + 1, q + m, acc2, by go_num, by omega, by go_num, by omega, HL2.out, HR2, HO5.out, f5⟩
          case measure => simp [intOf]; omega
    · obtain rfl : k = X := by omega
      rw [Nat.sub_self] at HR
      have hend := rds_end HR
      rw [HXL.out] at hend
      by_cases hq2 : q < n - 4
      · rw [if_pos hq2] at hend
        simp only [Prod.mk.injEq] at hend
        obtain ⟨rfl, rfl, rfl⟩ := hend
        have HFF := Lib.hid (show gb = ([], p, 12) by rw [HF.out, if_pos (by omega)])
        clear HR HR0 HF
        go_wp2
        go_returns
        rw [HFF.out]
        exact ⟨.slice none 0 0, rfl, GivesS.nil hbr⟩
      · rw [if_neg hq2] at hend
        simp only [Prod.mk.injEq] at hend
        obtain ⟨rfl, rfl, rfl⟩ := hend
        have HFF := Lib.hid (show gb = (l, n, 0) by rw [HF.out, if_neg (by omega)])
        clear HR HR0 HF
        go_wp2
        go_returns
        rw [HFF.out]
        exact ⟨_, rfl, GivesS.own (by rw [HAC.out]; exact HOW.out) hbr⟩
end Go.Proofs.YtimelckjbofhbaaDoor
