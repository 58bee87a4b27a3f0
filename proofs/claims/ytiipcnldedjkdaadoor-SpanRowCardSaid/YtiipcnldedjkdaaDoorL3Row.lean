/-
  P3.2, SpanRow: for all spans the law returns true: spans' bytes, one behind the other, are these spans, one behind the other. No condition; what the row lists is tied to the program's text.
-/
import Derived.Test.YtiipcnldedjkdaaDoorSpanO
import Derived.Test.YtiipcnldedjkdaaDoorRef3
import Derived.Deep.QuietTactic
import Derived.BigQuiet
namespace Go.Proofs.YtiipcnldedjkdaaDoor.spanRow
open Go.ChangeShapes Go.WideShapes Go.ChangeAt Go.RowKit
set_option maxRecDepth 100000

/-- the right ones among the first k -/
def rs (l : List Plain.Sp) (k : Nat) : List Plain.Sp := (l.take k).filter Plain.Sp.right
/-- right ones' bytes, one behind the other -/
def wire (r : List Plain.Sp) : List UInt8 := r.flatMap Plain.Sp.bytes
theorem rs_zero (l : List Plain.Sp) : rs l 0 = [] := by simp [rs]
theorem rs_succ (l : List Plain.Sp) (k : Nat) (h : k < l.length) : rs l (k + 1) = rs l k ++ (if l[k].right then [l[k]] else []) := by
  unfold rs
  rw [List.take_succ_eq_append_getElem h, List.filter_append]
  congr 1
  by_cases hr : l[k].right = true
  · simp [hr]
  · simp [hr]
theorem wire_append (a b : List Plain.Sp) : wire (a ++ b) = wire a ++ wire b := by simp [wire]
theorem wire_succ (l : List Plain.Sp) (k : Nat) (h : k < l.length) : wire (rs l (k + 1)) = wire (rs l k) ++ l[k].outp := by
  rw [rs_succ l k h, wire_append]
  congr 1
  unfold Plain.Sp.outp
  by_cases hr : l[k].right = true
  · simp [hr, wire]
  · simp [hr, wire]
theorem rs_len (l : List Plain.Sp) (k : Nat) : (rs l k).length ≤ k := by
  unfold rs
  have h1 := List.length_filter_le Plain.Sp.right (l.take k)
  have h2 : (l.take k).length ≤ k := by rw [List.length_take]; omega
  omega
theorem wire_len (r : List Plain.Sp) : (wire r).length ≤ 101 * r.length := by
  induction r with
  | nil => simp [wire]
  | cons x r ih =>
    have := x.bytes_max
    simp only [wire, List.flatMap_cons, List.length_append, List.length_cons] at ih ⊢
    omega
theorem rs_right (l : List Plain.Sp) (k : Nat) (x : Plain.Sp) (h : x ∈ rs l k) : x.right = true := (List.mem_filter.1 h).2

theorem min_run (x y : Nat) (W : World) : (Builtin.min_ #[3, 3] 3 #[.int .i64 (x : Int), .int .i64 (y : Int)]).run Tryd.prog W = .ok (.int .i64 ((min x y : Nat) : Int)) W := by
  rcases Nat.lt_or_ge y x with h | h
  · have e : min x y = y := by omega
    rw [e]
    have h1 : (y : Int) < (x : Int) := by omega
    simp [Builtin.min_, Builtin.min2, go_sem]
    omega
  · have e : min x y = x := by omega
    rw [e]
    have h1 : ¬ (y : Int) < (x : Int) := by omega
    simp [Builtin.min_, Builtin.min2, go_sem]
    omega
/-- what stands at the k-th place -/
theorem at_row (r : List Plain.Sp) (k : Nat) (hk : k < r.length) (hr : ∀ x ∈ r, x.right = true) :
    Plain.Sp.rd ((wire r).drop (wire (r.take k)).length) = (r[k], r[k].bytes.length, 0) ∧ (wire (r.take (k + 1))).length = (wire (r.take k)).length + r[k].bytes.length ∧ (wire (r.take (k + 1))).length ≤ (wire r).length ∧ 8 ≤ r[k].bytes.length := by
  have e : wire r = wire (r.take k) ++ (r[k].bytes ++ wire (r.drop (k + 1))) := by
    have e1 : r = r.take k ++ (r[k] :: r.drop (k + 1)) := by rw [← List.drop_eq_getElem_cons hk, List.take_append_drop]
    have e2 : wire r = wire (r.take k ++ (r[k] :: r.drop (k + 1))) := congrArg wire e1
    rw [e2, wire_append]
    rfl
  have hrk := hr r[k] (List.getElem_mem hk)
  have e2 : (wire (r.take (k + 1))).length = (wire (r.take k)).length + r[k].bytes.length := by
    rw [List.take_succ_eq_append_getElem hk, wire_append, List.length_append]
    simp [wire]
  refine ⟨?_, e2, ?_, r[k].bytes_len hrk⟩
  · rw [e, List.drop_left]
    exact r[k].get_bytes _ hrk
  · rw [e2]
    have := congrArg List.length e
    simp only [List.length_append] at this
    omega

theorem infoSp : (Tryd.prog.info? 23).map (fun i => (i.zero, i.size, i.bytes)) = some (some (.agg #[.int .i64 0, .int .i64 0, .int .i64 0, .int .i64 0, .int .i64 0, .string ⟨#[]⟩, .string ⟨#[]⟩]), 7, 72) := by kernel_rfl

def Rel1 (w1 : World) (l : List Plain.Sp) (b r j : Value) (wr : World) : Prop :=
  ∃ (k cap : Nat) (A : Option Addr), j = .int .i64 k ∧ k ≤ l.length ∧ b = .slice A (wire (rs l k)).length cap ∧ (wire (rs l k)).length ≤ cap ∧ cap ≤ maxLen ∧ Lies wr A (cells (wire (rs l k))) ∧ wr.ownsRow w1.heap.size 23 7 r (rs l k).length (flat (rs l k)) ∧ Below w1.heap.size w1 wr

set_option maxHeartbeats 2000000 in
theorem walk (w : World) (hh : Handle w) (A : Option Addr) (cap : Nat) (l : List Plain.Sp) (_hl : l.length ≤ cap) (hm : cap ≤ maxLen) (hA : Lies w A (flat l)) (hS : ∀ x ∈ l, x.sv.length ≤ maxLen ∧ x.nm.length ≤ maxLen) :
    Calls Tryd.prog 9 #[.slice A l.length cap] w fun e w' => e = .returned (.bool true) ∧ Below w.heap.size w w' := by
  obtain ⟨i0, hi, hz0, hz1, hz2⟩ := info_parts infoSp
  have HH := Lib.hid hh
  have HA := Lib.hid hA
  have HS := Lib.hid hS
  clear hh hA hS
  have hm' := hm
  unfold maxLen at hm'
  go_enter Tryd.func9, Tryd.ntmps9
  go_wp2_with fail
  refine (head_any w HH.out).mono ?_
  rintro e w1 ⟨rfl, c1⟩
  by_cases h60 : 60 < l.length
  · go_wp2
    go_ret
    exact ⟨rfl, c1⟩
  go_wp2
  go_loopw [4, 5, 6] (fun b r j wr => Rel1 w1 l b r j wr) (fun _ _ j _ => l.length - (intOf j).toNat)
  case atStart => exact ⟨0, 0, none, rfl, Nat.zero_le _, by rw [rs_zero]; rfl, by rw [rs_zero]; simp [wire], by unfold maxLen; omega, by rw [rs_zero]; exact Lies.nil, by rw [rs_zero]; exact World.ownsRow_nil _ _ _ _, Below.refl _ _⟩
  case round =>
    obtain ⟨k, capb, Ab, rfl, hk, rfl, hlb, hmb, hLb, hown, hbr⟩ := hrel
    by_cases hlt : k < l.length
    · have HAr := Lib.hid ((HA.out.below c1).below hbr)
      obtain ⟨ad, rfl, hadb, -⟩ := HAr.out.at_ (k := k * 7) (by rw [flat_length]; omega)
      have hcell : ∀ j u, (spanCells l[k])[j]? = some u → wr.cell? (ad.add (k * 7 + j)) = some u := fun j u hu => by
        have hj : j < 7 := by
          rcases Nat.lt_or_ge j 7 with h | h
          · exact h
          · rw [List.getElem?_eq_none (by rw [spanCells_length]; exact h)] at hu; cases hu
        have hf := flat_at l k j l[k] (List.getElem?_eq_getElem hlt) hj
        rw [hu] at hf
        rcases HAr.out with h | ⟨ad', e, _, hc⟩
        · rw [h] at hf; simp at hf
        · injection e with e; subst e; exact hc _ _ hf
      have HO := Lib.hid hown
      clear hown
      have hc2 : ∀ j u, (spanCells l[k])[j]? = some u → wr.cell? ((ad.add (k * 7)).add j) = some u := fun j u hu => by rw [addr_add]; exact hcell j u hu
      have hpb : (ad.add (k * 7)).block < wr.heap.size := by rw [addr_block]; exact hadb
      have HC := Lib.hid (show ∀ u, Below wr.heap.size wr u → u.cell? (ad.add (k * 7)) = some (.int .i64 l[k].t) ∧ u.cell? ⟨(ad.add (k * 7)).block, (ad.add (k * 7)).off + 1, none⟩ = some (.int .i64 l[k].i) ∧ u.cell? ⟨(ad.add (k * 7)).block, (ad.add (k * 7)).off + 2, none⟩ = some (.int .i64 l[k].p) ∧ u.cell? ⟨(ad.add (k * 7)).block, (ad.add (k * 7)).off + 3, none⟩ = some (.int .i64 l[k].s) ∧ u.cell? ⟨(ad.add (k * 7)).block, (ad.add (k * 7)).off + 4, none⟩ = some (.int .i64 l[k].d) ∧ u.cell? ⟨(ad.add (k * 7)).block, (ad.add (k * 7)).off + 5, none⟩ = some (.string (str l[k].sv)) ∧ u.cell? ⟨(ad.add (k * 7)).block, (ad.add (k * 7)).off + 6, none⟩ = some (.string (str l[k].nm)) from fun u hu =>
        ⟨(hu.cell hpb).trans (hc2 0 _ rfl), (hu.cell (p := ⟨(ad.add (k * 7)).block, (ad.add (k * 7)).off + 1, none⟩) hpb).trans (hc2 1 _ rfl), (hu.cell (p := ⟨(ad.add (k * 7)).block, (ad.add (k * 7)).off + 2, none⟩) hpb).trans (hc2 2 _ rfl), (hu.cell (p := ⟨(ad.add (k * 7)).block, (ad.add (k * 7)).off + 3, none⟩) hpb).trans (hc2 3 _ rfl), (hu.cell (p := ⟨(ad.add (k * 7)).block, (ad.add (k * 7)).off + 4, none⟩) hpb).trans (hc2 4 _ rfl), (hu.cell (p := ⟨(ad.add (k * 7)).block, (ad.add (k * 7)).off + 5, none⟩) hpb).trans (hc2 5 _ rfl), (hu.cell (p := ⟨(ad.add (k * 7)).block, (ad.add (k * 7)).off + 6, none⟩) hpb).trans (hc2 6 _ rfl)⟩)
      obtain ⟨hxv, hxn⟩ := HS.out l[k] (List.getElem_mem hlt)
      have hwl := wire_len (rs l k)
      have hrl := rs_len l k
      have HP := Lib.hid (fun (u : World) (h : Lies u Ab (cells (wire (rs l k)))) => spanPut_any Ab (wire (rs l k)).length capb (wire (rs l k)) l[k] u rfl (by omega) h hxv hxn)
      have HW := Lib.hid (wire_succ l k hlt)
      have HRS := Lib.hid (rs_succ l k hlt)
      rw [← HW.out] at HP
      have hR : Plain.rightN l[k].t l[k].i l[k].p l[k].s l[k].d (str l[k].sv).size (str l[k].nm).size = l[k].right := by rw [str_size, str_size]; rfl
      have HFC := Lib.hid (show flat [l[k]] = [.int .i64 l[k].t, .int .i64 l[k].i, .int .i64 l[k].p, .int .i64 l[k].s, .int .i64 l[k].d, .string (str l[k].sv), .string (str l[k].nm)] from rfl)
      rw [← str_size] at hxv hxn
      clear hcell hc2 hpb HW
      generalize l[k] = x at *
      obtain ⟨R, hRR⟩ : ∃ R, x.right = R := ⟨_, rfl⟩
      rw [hRR] at hR HRS
      have HR := Lib.hid hR
      clear hR hRR
      have HNX := Lib.hid (show flat (rs l k) ++ flat [x] = flat (rs l k ++ [x]) by rw [flat_append])
      generalize [x] = xl at *
      obtain ⟨xt, xi, xp, xs, xd, xv, xn⟩ := x
      simp only at *
      generalize str xv = XV at *
      generalize str xn = XN at *
      obtain ⟨x0, x1, x2, x3, x4, x5, x6⟩ := HC.out wr (Below.refl _ _)
      go_wp2_with fail
      clear x0 x1 x2 x3 x4 x5 x6
      refine (great_any xt xi xp xs xd XV XN wr hxv hxn).mono ?_
      rintro e w2 ⟨⟨g, rfl⟩, d2⟩
      rcases g with _ | _
      rotate_left
      · go_wp2
        go_ret
        exact ⟨rfl, c1.trans ((hbr.mono c1.size).trans (d2.mono (Nat.le_trans c1.size hbr.size)))⟩
      obtain ⟨x0, x1, x2, x3, x4, x5, x6⟩ := HC.out w2 d2
      go_wp2_with fail
      clear x0 x1 x2 x3 x4 x5 x6
      refine (HP.out w2 (hLb.below d2)).mono ?_
      rintro e w3 ⟨v, rfl, ho, d3⟩
      obtain ⟨A3, cap3, rfl, hl3, hm3, -, hL3⟩ := own_form ho
      have HAB := Lib.hid (show ∀ q : Addr, A3 = some q → w2.heap.size ≤ q.block from fun q e => (ho.lt q.block (by rw [e]; rfl)).1)
      have HUB := Lib.hid (show ∀ q : Nat, u5.ownBlock = some q → q < w2.heap.size from fun q e => Nat.lt_of_lt_of_le (HO.out.lt q e).2 d2.size)
      clear ho
      have e3 := d2.trans (d3.mono d2.size)
      obtain ⟨x0, x1, x2, x3, x4, x5, x6⟩ := HC.out w3 e3
      go_wp2_with fail
      clear x0 x1 x2 x3 x4 x5 x6
      refine (right_any xt xi xp xs xd XV XN w3 hxv hxn).mono ?_
      rintro e w4 ⟨rfl, d4⟩
      rw [HR.out]
      have e4 := e3.trans (d4.mono e3.size)
      have hL4 := hL3.below d4
      have HO4 := Lib.hid (show w4.ownsRow w1.heap.size 23 7 u5 (rs l k).length (flat (rs l k)) from HO.out.kept (row := none) ⟨e4.os, e4.tape, e4.output, e4.size, fun q hq _ => e4.block q hq⟩ (by cases hv : u5.ownBlock <;> simp))
      have f4 : Below w1.heap.size w1 w4 := hbr.trans (e4.mono hbr.size)
      have HL4 := Lib.hid hL4
      have HF4 := Lib.hid f4
      clear hL3 hL4 hLb HP f4
      rcases R with _ | _
      · go_wp2
        go_roundw
        case rel => exact ⟨k + 1, cap3, A3, by go_num, by omega, rfl, hl3, hm3, HL4.out, by rw [HRS.out]; simpa using HO4.out, HF4.out⟩
        case measure => simp [intOf]; omega
      · obtain ⟨x0, x1, x2, x3, x4, x5, x6⟩ := HC.out w4 e4
        go_wp2_with (at_builtin; refine wpList_append_own_at _ rfl _ _ 37 rfl w1.heap.size 23 i0 (.agg #[.int .i64 0, .int .i64 0, .int .i64 0, .int .i64 0, .int .i64 0, .string ⟨#[]⟩, .string ⟨#[]⟩]) 7 72 Tryd.underlying37 hi hz0 hz1 hz2 rfl (by decide) u5 (rs l k).length (flat (rs l k)) rfl ?b1 ⟨w4.heap.size, 0, none⟩ 1 1 [.int .i64 xt, .int .i64 xi, .int .i64 xp, .int .i64 xs, .int .i64 xd, .string XV, .string XN] rfl rfl ?b2 ?b3 ?b4 ?b5 ?b6 ?b7)
        case b1 => exact HO4.out.alloc _
        case b2 => exact World.news_of_block (heap_alloc_new w4 _)
        case b3 => simp [Value.oneCell']
        case b4 => unfold maxLen; omega
        case b5 => omega
        case b6 => have := HF4.out.size; simp; omega
        case b7 =>
          intro v5 w5 hown5 hgrow hnil hat
          have f5 : Below w1.heap.size w1 w5 := (HF4.out.alloc HF4.out.size _).grown hgrow (by have := HF4.out.size; simp; omega) (fun g hg => (HO4.out.lt g hg).1)
          have hL5 : Lies w5 A3 (cells (wire (rs l (k + 1)))) := by
            rcases HL4.out with h | ⟨q, e, hqb, hc⟩
            · exact .inl h
            · refine .inr ⟨q, e, by have := hgrow.size; simp at this; omega, fun j u hu => ?_⟩
              refine hgrow.cell (by rw [World.cell?_alloc_lt _ _ _ (by rw [addr_block]; exact hqb)]; exact hc j u hu) (fun h => ?_)
              rw [addr_block] at h
              have h1 := HAB.out q e
              have h2 := HUB.out _ h.symm
              omega
          have HO5 := Lib.hid (show w5.ownsRow w1.heap.size 23 7 v5 (rs l (k + 1)).length (flat (rs l (k + 1))) by
            rw [HRS.out, if_pos trivial, flat_append, List.length_append, HFC.out]
            have e1 : xl.length = 1 := by
              have := flat_length xl; rw [HFC.out] at this; simp at this; omega
            rw [e1]; exact hown5)
          have HL5 := Lib.hid hL5
          clear hown5 hgrow hnil hat hL5 x0 x1 x2 x3 x4 x5 x6
          go_wp2
          go_roundw
          case rel => exact ⟨k + 1, cap3, A3, by go_num, by omega, rfl, hl3, hm3, HL5.out, HO5.out, f5⟩
          case measure => simp [intOf]; omega
    · obtain rfl : k = l.length := by omega
      have hrr := rs_right l l.length
      have hwl := wire_len (rs l l.length)
      have hrl := rs_len l l.length
      generalize rs l l.length = r at *
      have f1 : Below w.heap.size w wr := c1.trans (hbr.mono c1.size)
      obtain ⟨Ar, capr, rfl⟩ : ∃ Ar capr, u5 = .slice Ar r.length capr := by
        rcases hown.2 with ⟨h, h0⟩ | ⟨g, c, cur, h, _⟩
        · exact ⟨none, 0, by rw [h, h0]⟩
        · exact ⟨_, c, h⟩
      have HO := Lib.hid hown
      have HLB := Lib.hid hLb
      have HRR := Lib.hid hrr
      have HF1 := Lib.hid f1
      clear hown hLb hrr f1 hlt
      generalize wr = wo at *
      go_wp2
      go_loopw [7, 8] (fun a j wr => ∃ k : Nat, j = .int .i64 k ∧ k ≤ r.length ∧ a = .int .i64 (wire (r.take k)).length ∧ Below wo.heap.size wo wr) (fun _ j _ => r.length - (intOf j).toNat)
      case atStart => exact ⟨0, rfl, Nat.zero_le _, rfl, Below.refl _ _⟩
      case round =>
        obtain ⟨k, rfl, hk, rfl, hbq⟩ := hrel
        by_cases hlt : k < r.length
        · obtain ⟨hrd, hal, hle, h8⟩ := at_row r k hlt HRR.out
          obtain ⟨ad, had, hadb, hcl⟩ : ∃ ad, Ar = some ad ∧ ad.block < wo.heap.size ∧ ∀ j u, (flat r)[j]? = some u → wo.cell? (ad.add j) = some u := by
            rcases HO.out.2 with ⟨h, h0⟩ | ⟨g, c, cur, h, _, hg, _⟩
            · omega
            · have hA : Ar = some ⟨g, 0, none⟩ := by injection h
              subst hA
              exact ⟨_, rfl, (HO.out.lt g rfl).2, HO.out.cells (g := g) rfl⟩
          subst had
          have hc2 : ∀ j u, (spanCells r[k])[j]? = some u → wo.cell? ((ad.add (k * 7)).add j) = some u := fun j u hu => by
            have hj : j < 7 := by
              rcases Nat.lt_or_ge j 7 with h | h
              · exact h
              · rw [List.getElem?_eq_none (by rw [spanCells_length]; exact h)] at hu; cases hu
            rw [addr_add]
            exact hcl _ _ (by rw [flat_at r k j r[k] (List.getElem?_eq_getElem hlt) hj]; exact hu)
          have hpb : (ad.add (k * 7)).block < wo.heap.size := by rw [addr_block]; exact hadb
          have HC := Lib.hid (show ∀ u, Below wo.heap.size wo u → u.cell? (ad.add (k * 7)) = some (.int .i64 r[k].t) ∧ u.cell? ⟨(ad.add (k * 7)).block, (ad.add (k * 7)).off + 1, none⟩ = some (.int .i64 r[k].i) ∧ u.cell? ⟨(ad.add (k * 7)).block, (ad.add (k * 7)).off + 2, none⟩ = some (.int .i64 r[k].p) ∧ u.cell? ⟨(ad.add (k * 7)).block, (ad.add (k * 7)).off + 3, none⟩ = some (.int .i64 r[k].s) ∧ u.cell? ⟨(ad.add (k * 7)).block, (ad.add (k * 7)).off + 4, none⟩ = some (.int .i64 r[k].d) ∧ u.cell? ⟨(ad.add (k * 7)).block, (ad.add (k * 7)).off + 5, none⟩ = some (.string (str r[k].sv)) ∧ u.cell? ⟨(ad.add (k * 7)).block, (ad.add (k * 7)).off + 6, none⟩ = some (.string (str r[k].nm)) from fun u hu =>
            ⟨(hu.cell hpb).trans (hc2 0 _ rfl), (hu.cell (p := ⟨(ad.add (k * 7)).block, (ad.add (k * 7)).off + 1, none⟩) hpb).trans (hc2 1 _ rfl), (hu.cell (p := ⟨(ad.add (k * 7)).block, (ad.add (k * 7)).off + 2, none⟩) hpb).trans (hc2 2 _ rfl), (hu.cell (p := ⟨(ad.add (k * 7)).block, (ad.add (k * 7)).off + 3, none⟩) hpb).trans (hc2 3 _ rfl), (hu.cell (p := ⟨(ad.add (k * 7)).block, (ad.add (k * 7)).off + 4, none⟩) hpb).trans (hc2 4 _ rfl), (hu.cell (p := ⟨(ad.add (k * 7)).block, (ad.add (k * 7)).off + 5, none⟩) hpb).trans (hc2 5 _ rfl), (hu.cell (p := ⟨(ad.add (k * 7)).block, (ad.add (k * 7)).off + 6, none⟩) hpb).trans (hc2 6 _ rfl)⟩)
          have hLd := (HLB.out.below hbq).drop (k := (wire (r.take k)).length) (cap := capb) (by rw [cells_length]; exact hlb)
          rw [cells_drop] at hLd
          have hG := spanGet_any (cutA Ab capb (wire (r.take k)).length) ((wire r).length - (wire (r.take k)).length) (capb - (wire (r.take k)).length) ((wire r).drop (wire (r.take k)).length) wr (HH.out.below HH.out.lt (HF1.out.trans (hbq.mono HF1.out.size))) List.length_drop (by omega) (by omega) (by omega) hLd
          rw [hrd] at hG
          have hmin := fun W => min_run (wire (r.take k)).length (wire r).length W
          rw [show min (wire (r.take k)).length (wire r).length = (wire (r.take k)).length by omega] at hmin
          have hsl := fun W => slice_lo Ab (wire r).length capb (wire (r.take k)).length W (by omega) hlb hmb
          have HAL := Lib.hid hal
          have hle2 : (wire (r.take k)).length + r[k].bytes.length ≤ (wire r).length := by omega
          clear hrd hLd hcl hc2 hpb hal hle
          generalize r[k].bytes.length = m at *
          generalize (wire (r.take k)).length = a at *
          have d8 : decide ((m : Int) < 8) = false := by simp; omega
          generalize r[k] = x at *
          obtain ⟨xt, xi, xp, xs, xd, xv, xn⟩ := x
          simp only at *
          generalize str xv = XV at *
          generalize str xn = XN at *
          have HG := Lib.hid hG
          clear hG
          go_wp2_with fail
          refine HG.out.mono ?_
          rintro e w2 ⟨rfl, d2⟩
          clear hmin hsl
          have c2 := hbq.trans (d2.mono hbq.size)
          have c3 := c2.alloc c2.size (.cells #[.int .i64 xt, .int .i64 xi, .int .i64 xp, .int .i64 xs, .int .i64 xd, .string XV, .string XN] 23)
          obtain ⟨x0, x1, x2, x3, x4, x5, x6⟩ := HC.out _ c3
          go_wp2
          go_quiet (fail)
          go_wp2
          go_roundw
          case rel => exact ⟨k + 1, by go_num, by omega, by rw [HAL.out]; go_num, below_many c3 _⟩
          case measure => simp [intOf]; omega
        · obtain rfl : k = r.length := by omega
          rw [List.take_length]
          go_wp2
          go_ret
          exact ⟨rfl, HF1.out.trans (hbq.mono HF1.out.size)⟩


set_option maxRecDepth 100000 in
theorem lifted (os : Os) (started : os.Started) (H : Type) (enc : TypeId × Value → H) :
    ReturnsInHanded {} Tryd.checked os 9 .any (fun w args => (Rows.spanRowSpec.pre enc Tryd.prog Tryd.f9 [] false w args ∧ laidMetH Tryd.prog laidHere w) ∧ sizedMet enc Tryd.prog Tryd.f9 (OpenSpec.ofChange Rows.spanRowSpec) false w args) (Rows.spanRowSpec.post enc Tryd.prog Tryd.f9 false true false false) := by
  refine returnsInHanded_of_change_and (C := Tryd.checked) (X := fun w _ => laidMetH Tryd.prog laidHere w) (fun _ _ _ hh h => h.of_heap hh) own started (by kernel_rfl) Tryd.func9
    (ChangeSpec.witness_at (enc := enc) (C := Tryd.checked) (os := os) (X := fun w _ => laidMetH Tryd.prog laidHere w) false (laidWorld os) #[.slice none 0 0] 8 rfl (by kernel_rfl) (by kernel_rfl) (by kernel_rfl) (by kernel_rfl) (by kernel_rfl) (laidWorld_met os _)) ?_
  intro W base args ds gs before hval0 hW _ _ hL _
  have hval : ∀ (j : Nat) t v, Tryd.f9.params[j]? = some t → args[j]? = some v → Value.okWide Tryd.prog W .any base t v := hval0
  have hfin := fun W' => law_post (enc := enc) (P := Tryd.prog) (f := Tryd.f9) (s := Rows.spanRowSpec) (tb := 4) (W := W) (W' := W') (args := args) (ds := ds) (gs := gs) (before := before) laidOut rfl (by kernel_rfl) Tryd.underlying4 (by kernel_rfl) (fun xs h => by rw [Tryd.params9] at h; match xs, h with | [_], _ => rfl) hW
  have hlt : ∀ x ∈ before, x.block < W.heap.size := fun x hx => hW.lt x hx
  obtain ⟨p, q, hA0, hV, rfl, hfz, hnd⟩ := hW
  have hA : DataW.TrodAll enc Tryd.prog W 0 (fun _ => true) true Tryd.f9.params.toList args.toList ds p := hA0
  rw [Tryd.params9] at hA hval
  obtain ⟨v0, vs0, d0, ds0, p0, q0, hargs, rfl, rfl, h0, r0⟩ := trodAll_cons hA
  obtain ⟨rfl, rfl, rfl⟩ := trodAll_nil r0
  obtain rfl : args = #[v0] := by cases args; simp_all
  obtain ⟨A0, cap0, l0, rfl, hl0, hm0, hB0, hS0⟩ := open_spans (hval 0 37 v0 rfl rfl) h0 (fun x hx => hlt x (by simp [hx]))
  refine (walk W (of_laid hL) A0 cap0 l0 hl0 hm0 hB0 hS0).mono fun e W' ⟨he, hg⟩ => ?_
  subst he
  exact ⟨_, rfl, hfin W' hg⟩

theorem proved : Rows.SpanRowSaid :=
  OpenClaim.holds_of_wide 9 Tryd.f9 rfl rfl rfl rfl rfl rfl rfl ⟨rfl, rfl, rfl, rfl, rfl⟩ rfl rfl rfl rfl rfl (by kernel_rfl) Tryd.func9 (by kernel_rfl)
    (of_decide_eq_true (by kernel_rfl)) (by unfold Func.isWrapper; first | (rw [if_pos (by decide +kernel)]; kernel_rfl) | (rw [if_neg (by decide +kernel)]; exact ⟨rfl, rfl⟩))
    (fun os started H enc _ => lifted os started H enc)

set_option maxRecDepth 100000 in
theorem card : Rows.SpanRowCardSaid :=
  Claim7.holds_tied_plain_at .later [] laidKindsHere true _ true
    proved (fun _ h => by cases h) (by kernel_rfl) (fun _ h => by cases h) spanRow_row_tie rfl ⟨rfl, rfl⟩ (by kernel_rfl) rfl
    (fun f fn hf hfn => by
      obtain rfl : f = 9 := Option.some.inj ((show Tryd.prog.funcNamed "turntable/turntablelaw03.SpanRow" = some 9 by kernel_rfl).symm.trans hf) |>.symm
      obtain rfl : fn = Tryd.f9 := (Option.some.inj (Tryd.func9.symm.trans hfn)).symm
      exact ⟨by kernel_rfl, fun j t ht => by
        rw [Tryd.params9] at ht
        have hm : t ∈ [37] := by simpa using Array.mem_of_getElem? ht
        have hall : ([37].all fun u => !Tryd.prog.wantsStandIn u) = true := by kernel_rfl
        exact (show Tryd.prog.wantsStandIn t = false by simpa using List.all_eq_true.1 hall t hm)⟩)
    (by kernel_rfl)
#print axioms card
end Go.Proofs.YtiipcnldedjkdaaDoor.spanRow
