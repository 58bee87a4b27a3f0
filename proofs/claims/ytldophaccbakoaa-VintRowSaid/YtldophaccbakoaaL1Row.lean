/-
  P1.2, VintRow: for all numbers and every text the law returns true: numbers and texts, one behind the other, are read one behind the other. No condition.
-/
import Derived.Test.YtldophaccbakoaaHead1
import Derived.Test.YtldophaccbakoaaCloseU
import Derived.Test.YtldophaccbakoaaVUse
namespace Go.Proofs.Ytldophaccbakoaa.vintRow
open Go.ChangeShapes Go.WideShapes Go.ChangeAt Go.RowKit

/-- one number and the text -/
def item (s : List UInt8) (z : Nat) : List UInt8 := Plain.enc (Plain.sz (z % 281474976710657)) (z % 281474976710657) ++ Plain.putText s
/-- the first k, one behind the other -/
def row (s : List UInt8) (zs : List Nat) (k : Nat) : List UInt8 := ((zs.take k).map (item s)).flatten

theorem row_zero (s : List UInt8) (zs : List Nat) : row s zs 0 = [] := by simp [row]
theorem row_succ (s : List UInt8) (zs : List Nat) (k : Nat) (h : k < zs.length) : row s zs (k + 1) = row s zs k ++ item s zs[k] := by
  unfold row
  rw [List.take_succ_eq_append_getElem h, List.map_append, List.flatten_append]
  simp
theorem row_all (s : List UInt8) (zs : List Nat) (k : Nat) : ∃ r, row s zs zs.length = row s zs k ++ r := by
  refine ⟨((zs.drop k).map (item s)).flatten, ?_⟩
  unfold row
  rw [List.take_length, ← List.flatten_append, ← List.map_append, List.take_append_drop]
theorem item_len (s : List UInt8) (z : Nat) (h : s.length ≤ 32) : (item s z).length = Plain.sz (z % 281474976710657) + (1 + s.length) := by
  unfold item
  rw [List.length_append, Plain.enc_length, Plain.putText_len s h]
theorem row_len (s : List UInt8) (zs : List Nat) (k : Nat) (hk : k ≤ zs.length) (h : s.length ≤ 32) : (row s zs k).length ≤ 40 * k := by
  induction k with
  | zero => rw [row_zero]; simp
  | succ k ih =>
    rw [row_succ s zs k (by omega), List.length_append, item_len s _ h]
    have := Plain.sz_le (zs[k] % 281474976710657)
    have := ih (by omega)
    omega
theorem mod_le (z : Nat) : z % 281474976710657 ≤ 281474976710656 := by omega

/-- what stands at the k-th place: the number, then the text, then something -/
theorem at_row (s : List UInt8) (zs : List Nat) (k : Nat) (hk : k < zs.length) (h : s.length ≤ 32) :
    Plain.get ((row s zs zs.length).drop (row s zs k).length) = (zs[k] % 281474976710657, Plain.sz (zs[k] % 281474976710657), 0) ∧
    Plain.getText ((row s zs zs.length).drop ((row s zs k).length + Plain.sz (zs[k] % 281474976710657))) = (s, 1 + s.length, 0) ∧
    (row s zs (k + 1)).length = (row s zs k).length + Plain.sz (zs[k] % 281474976710657) + (1 + s.length) ∧
    (row s zs (k + 1)).length ≤ (row s zs zs.length).length := by
  obtain ⟨r, hr⟩ := row_all s zs (k + 1)
  rw [row_succ s zs k hk, List.append_assoc] at hr
  have e1 : (row s zs zs.length).drop (row s zs k).length = item s zs[k] ++ r := by rw [hr, List.drop_left]
  refine ⟨?_, ?_, ?_, ?_⟩
  · rw [e1]; unfold item; rw [List.append_assoc]; exact Plain.get_put _ (mod_le _) _
  · rw [← List.drop_drop, e1]
    unfold item
    have := Plain.getText_put s r h
    rw [List.append_assoc]
    have e2 := Plain.enc_length (Plain.sz (zs[k] % 281474976710657)) (zs[k] % 281474976710657)
    generalize Plain.enc (Plain.sz (zs[k] % 281474976710657)) (zs[k] % 281474976710657) = E at *
    rw [← e2, List.drop_left]
    exact this
  · rw [row_succ s zs k hk, List.length_append, item_len s _ h]; omega
  · rw [hr, row_succ s zs k hk]; simp only [List.length_append]; omega

def Rel1 (w1 : World) (s : List UInt8) (zs : List Nat) (b i : Value) (wr : World) : Prop :=
  ∃ (k cap : Nat) (A : Option Addr), i = .int .i64 k ∧ k ≤ zs.length ∧ b = .slice A (row s zs k).length cap ∧ (row s zs k).length ≤ cap ∧ cap ≤ maxLen ∧ Lies wr A (cells (row s zs k)) ∧ Below w1.heap.size w1 wr
def Rel2 (w1 : World) (s : List UInt8) (zs : List Nat) (a i : Value) (wr : World) : Prop :=
  ∃ k : Nat, i = .int .i64 k ∧ k ≤ zs.length ∧ a = .int .i64 (row s zs k).length ∧ Below w1.heap.size w1 wr

set_option maxHeartbeats 4000000 in
set_option maxRecDepth 100000 in
theorem walk (w : World) (A : Option Addr) (cap : Nat) (zs : List Nat) (_hl : zs.length ≤ cap) (_hm : cap ≤ maxLen) (hA : Lies w A (u64s zs)) (s : List UInt8) (hs : s.length ≤ maxLen) :
    Calls Try.prog 9 #[.slice A zs.length cap, .string (str s)] w fun e w' => e = .returned (.bool true) ∧ Below w.heap.size w w' := by
  have HS := Lib.hid hs
  have hsl := str_size s
  unfold maxLen at hs _hm
  by_cases h9 : 200 < zs.length
  · generalize str s = S at *
    go_enter Try.func9, Try.ntmps9
    go_wp2_with fail
    refine (head_any _).mono ?_
    rintro e w1 ⟨rfl, hb1⟩
    go_wp2
    go_ret
    exact ⟨rfl, hb1⟩
  · by_cases h9s : 32 < s.length
    · generalize str s = S at *
      generalize s.length = L at *
      subst hsl
      go_enter Try.func9, Try.ntmps9
      go_wp2_with fail
      refine (head_any _).mono ?_
      rintro e w1 ⟨rfl, hb1⟩
      go_wp2
      go_ret
      exact ⟨rfl, hb1⟩
    · have h32 : s.length ≤ 32 := by omega
      have d9 : decide ((32 : Int) < (s.length : Int)) = false := by simp; omega
      have HSL := Lib.hid hsl
      generalize hSS : str s = S at *
      have HSS := Lib.hid hSS
      clear hSS
      rw [← hsl] at d9
      clear hsl
      go_enter Try.func9, Try.ntmps9
      go_wp2_with fail
      refine (head_any _).mono ?_
      rintro e w1 ⟨rfl, hb1⟩
      go_wp2
      go_loopw [6, 7] (fun b i wr => Rel1 w1 s zs b i wr) (fun _ i _ => zs.length - (intOf i).toNat)
      case atStart => exact ⟨0, 0, none, rfl, Nat.zero_le _, by rw [row_zero]; rfl, by rw [row_zero]; simp, by unfold maxLen; omega, by rw [row_zero]; exact Lies.nil, Below.refl _ _⟩
      case round =>
        obtain ⟨k, cap2, A2, rfl, hk, rfl, hc2, hm2, hL2, hbr⟩ := hrel
        by_cases hlt : k < zs.length
        · have hAr := (hA.below hb1).below hbr
          obtain ⟨ad, rfl, hadb, hcell⟩ := hAr.at_ (k := k) (by rw [u64s_length]; exact hlt)
          have hc : wr.cell? (ad.add k) = some (.int .u64 (zs[k] : Int)) := by rw [hcell]; simp [u64s]
          clear hcell
          have HR := Lib.hid (show row s zs (k + 1) = row s zs k ++ Plain.enc (Plain.sz (zs[k] % 281474976710657)) (zs[k] % 281474976710657) ++ Plain.putText s by rw [row_succ s zs k hlt, item, List.append_assoc])
          have HRL := Lib.hid (row_len s zs k (by omega) h32)
          have HRN := Lib.hid (row_len s zs (k + 1) (by omega) h32)
          have hmo := mod_le zs[k]
          have hzm : ((zs[k] : Nat) : Int) % 281474976710657 = ((zs[k] % 281474976710657 : Nat) : Int) := by omega
          generalize zs[k] % 281474976710657 = m at *
          generalize zs[k] = z at *
          go_wp2_with fail
          refine (put_yes A2 cap2 (row s zs k) m _ (by have := HRL.out; omega) hmo hL2).mono ?_
          have hsz := Plain.sz_le m
          have HRL2 := Lib.hid (show (row s zs k ++ Plain.enc (Plain.sz m) m).length = (row s zs k).length + Plain.sz m by rw [List.length_append, Plain.enc_length])
          generalize row s zs k ++ Plain.enc (Plain.sz m) m = M at *
          rintro e w2 ⟨v, rfl, hown, hb2⟩
          obtain ⟨A3, cap3, rfl, hc3, hm3, -, hL3⟩ := own_form hown
          clear hown
          go_wp2_with fail
          have hPT := putText_any A3 cap3 M s w2 (by have := HRL.out; have := HRL2.out; omega) hL3 HS.out
          rw [HSS.out] at hPT
          (with_reducible refine hPT.mono ?_)
          clear hPT
          rintro e w3 ⟨v, rfl, hown, hb3⟩
          rw [← HR.out] at hown
          obtain ⟨A4, cap4, rfl, hc4, hm4, -, hL4⟩ := own_form hown
          clear hown
          go_wp2
          go_roundw
          case rel => exact ⟨k + 1, cap4, A4, by go_num, by omega, rfl, hc4, hm4, hL4, hbr.trans ((hb2.mono hbr.size).trans (hb3.mono (Nat.le_trans hbr.size hb2.size)))⟩
          case measure => simp [intOf]; omega
        · obtain rfl : k = zs.length := by omega
          clear hlt
          have hAr := (hA.below hb1).below hbr
          have HRN := Lib.hid (row_len s zs zs.length (by omega) h32)
          go_wp2
          go_loopw [8, 9] (fun a i wq => Rel2 wr s zs a i wq) (fun _ i _ => zs.length - (intOf i).toNat)
          case atStart => exact ⟨0, rfl, Nat.zero_le _, by rw [row_zero]; rfl, Below.refl _ _⟩
          case round =>
            obtain ⟨k, rfl, hk, rfl, hbq⟩ := hrel
            by_cases hlt : k < zs.length
            · have hat := at_row s zs k hlt h32
              have hAq := hAr.below hbq
              obtain ⟨ad, rfl, hadb, hcell⟩ := hAq.at_ (k := k) (by rw [u64s_length]; exact hlt)
              have hsp := Plain.sz_pos (zs[k] % 281474976710657)
              have hsz := Plain.sz_le (zs[k] % 281474976710657)
              have hzm : ((zs[k] : Nat) : Int) % 281474976710657 = ((zs[k] % 281474976710657 : Nat) : Int) := by omega
              have hcz : (u64s zs)[k]'(by rw [u64s_length]; exact hlt) = .int .u64 (zs[k] : Int) := by simp [u64s]
              rw [hcz] at hcell
              clear hcz
              generalize zs[k] % 281474976710657 = m at *
              generalize zs[k] = z at *
              generalize hNX : Plain.sz m = n at *
              clear hNX
              obtain ⟨hg1, hg2, hle, hle2⟩ := hat
              have hLq := hL2.below hbq
              have HLE := Lib.hid hle
              have HG1 := Lib.hid hg1
              have HG2 := Lib.hid hg2
              have h3 : (row s zs k).length + n < (row s zs zs.length).length := by omega
              have hd1 := hLq.drop (k := (row s zs k).length) (cap := cap2) (by rw [cells_length]; exact hc2)
              rw [if_neg (by omega), cells_drop] at hd1
              have hl1 := Lib.hid (show ((row s zs zs.length).drop (row s zs k).length).length = (row s zs zs.length).length - (row s zs k).length from List.length_drop)
              have hl2 := Lib.hid (show ((row s zs zs.length).drop ((row s zs k).length + n)).length = (row s zs zs.length).length - ((row s zs k).length + n) from List.length_drop)
              generalize (row s zs zs.length).drop (row s zs k).length = D1 at *
              have hc2' : (row s zs zs.length).length ≤ cap2 := hc2
              generalize hRe : (row s zs zs.length).length = R at *
              generalize (row s zs k).length = a at *
              have HRE := Lib.hid hRe
              clear hle hg1 hg2 hRe
              have hR := HRN.out
              have dn : decide ((n : Int) < 1) = false := by simp; omega
              have HG1' := Lib.hid (show ((Plain.get D1).1 : Int) = m ∧ ((Plain.get D1).2.1 : Int) = n ∧ ((Plain.get D1).2.2 : Int) = 0 by rw [HG1.out]; exact ⟨rfl, rfl, rfl⟩)
              have hG := get_is (A2.map (·.add a)) (R - a) (cap2 - a) D1 _ m n 0 hl1.out (by unfold maxLen; omega) hd1 HG1'.out.1 HG1'.out.2.1 HG1'.out.2.2
              have HGG := Lib.hid hG
              clear hG
              go_wp2_with fail
              (with_reducible refine HGG.out.mono ?_)
              rintro e w4 ⟨rfl, hb4⟩
              have hc4 : w4.cell? (ad.add k) = some (.int .u64 (z : Int)) := by rw [hb4.cell (p := ad.add k) (by rw [addr_block]; exact hadb)]; exact hcell
              have hd2 := (hLq.below hb4).drop (k := a + n) (cap := cap2) (by rw [cells_length, HRE.out]; exact hc2')
              rw [if_neg (by omega), cells_drop] at hd2
              have HG2' := Lib.hid (show str (Plain.getText ((row s zs zs.length).drop (a + n))).1 = S ∧ ((Plain.getText ((row s zs zs.length).drop (a + n))).2.1 : Int) = 1 + (S.size : Int) ∧ ((Plain.getText ((row s zs zs.length).drop (a + n))).2.2 : Int) = 0 by rw [HG2.out]; exact ⟨HSS.out, by rw [HSL.out]; simp, rfl⟩)
              have hG := getText_is (A2.map (·.add (a + n))) (R - (a + n)) (cap2 - (a + n)) _ w4 S (1 + (S.size : Int)) 0 hl2.out (by omega) (by unfold maxLen at *; omega) hd2 HG2'.out.1 HG2'.out.2.1 HG2'.out.2.2
              have HGG := Lib.hid hG
              clear hG
              have hSS : S.size ≤ 32 := by have := HSL.out; omega
              go_wp2_with fail
              (with_reducible refine HGG.out.mono ?_)
              rintro e w5 ⟨rfl, hb5⟩
              go_wp2
              go_roundw
              case rel => exact ⟨k + 1, by go_num, by omega, by rw [HLE.out, ← HSL.out]; go_num, hbq.trans ((hb4.mono hbq.size).trans (hb5.mono (Nat.le_trans hbq.size hb4.size)))⟩
              case measure => simp [intOf]; omega
            · obtain rfl : k = zs.length := by omega
              go_wp2
              go_ret
              exact ⟨rfl, hb1.trans ((hbr.mono hb1.size).trans (hbq.mono (Nat.le_trans hb1.size hbr.size)))⟩

set_option maxRecDepth 100000 in
theorem lifted (os : Os) (started : os.Started) (H : Type) (enc : TypeId × Value → H) :
    ReturnsInHanded {} Try.checked os 9 .any (Rows.vintRowSpec.pre6 enc Try.prog Try.f9 Rows.vintRowRow.domain false) (Rows.vintRowSpec.post enc Try.prog Try.f9 false true false false) := by
  refine returnsInHanded_of_change (C := Try.checked) own started (by kernel_rfl) Try.func9
    (ChangeSpec.witness6 (enc := enc) (C := Try.checked) false ⟨#[], #[.slice none 0 0, .string .empty], []⟩ 8 (by kernel_rfl) (by kernel_rfl) (by kernel_rfl) (by kernel_rfl)) ?_
  intro W base args ds gs before hval0 hW hcnd _
  have hval : ∀ (j : Nat) t v, Try.f9.params[j]? = some t → args[j]? = some v → Value.okWide Try.prog W .any base t v := hval0
  have hfin := fun W' => law_post (enc := enc) (P := Try.prog) (f := Try.f9) (s := Rows.vintRowSpec) (tb := 4) (W := W) (W' := W') (args := args) (ds := ds) (gs := gs) (before := before) laidOut rfl (by kernel_rfl) Try.underlying4 (by kernel_rfl) (fun xs h => by rw [Try.params9] at h; match xs, h with | [_, _], _ => rfl) hW
  have hlt : ∀ x ∈ before, x.block < W.heap.size := fun x hx => hW.lt x hx
  obtain ⟨p, q, hA0, hV, rfl, hfz, hnd⟩ := hW
  have hA : DataW.TrodAll enc Try.prog W 0 (fun _ => true) true Try.f9.params.toList args.toList ds p := hA0
  rw [Try.params9] at hA hval
  obtain ⟨v0, vs0, d0, ds0, p0, q0, hargs, rfl, rfl, h0, r0⟩ := trodAll_cons hA
  obtain ⟨v1, vs1, d1, ds1, p1, q1, rfl, rfl, rfl, h1, r1⟩ := trodAll_cons r0
  obtain ⟨rfl, rfl, rfl⟩ := trodAll_nil r1
  obtain rfl : args = #[v0, v1] := by cases args; simp_all
  obtain ⟨A0, cap0, b0, rfl, hl0, hm0, hB0⟩ := open_u64s (hval 0 39 v0 rfl rfl) h0 (fun x hx => hlt x (by simp [hx]))
  obtain ⟨s1, rfl, hs1⟩ := open_text (hval 1 9 v1 rfl rfl) h1
  refine (walk W A0 cap0 b0 hl0 hm0 hB0 s1 hs1).mono fun e W' ⟨he, hg⟩ => ?_
  subst he
  exact ⟨_, rfl, hfin W' hg⟩

theorem proved : Rows.VintRowSaid :=
  OpenClaim.holds_of_wide 9 Try.f9 rfl rfl rfl rfl rfl rfl rfl ⟨rfl, rfl, rfl, rfl, rfl⟩ rfl rfl rfl rfl rfl (by kernel_rfl) Try.func9 (by kernel_rfl)
    (of_decide_eq_true (by kernel_rfl)) (by unfold Func.isWrapper; first | (rw [if_pos (by decide +kernel)]; kernel_rfl) | (rw [if_neg (by decide +kernel)]; exact ⟨rfl, rfl⟩))
    (fun os started H enc _ => lifted os started H enc)
#print axioms proved
end Go.Proofs.Ytldophaccbakoaa.vintRow
