/-
  P1.1, VintBehind: for all bytes, every integer and every text the law returns true: what is put stands behind what was there, and changes nothing of it; what is handed out is one's own. No condition.
-/
import Derived.Test.YtldophaccbakoaaHead1
import Derived.Test.YtldophaccbakoaaClose
import Derived.Test.YtldophaccbakoaaVUse
import Derived.Deep.OwnRows
namespace Go.Proofs.Ytldophaccbakoaa.vintBehind
open Go.ChangeShapes Go.WideShapes Go.ChangeAt Go.RowKit

/-- memory of one's own whose cells are bytes, whichever -/
def Own (w : World) (B : Nat) (v : Value) (n : Nat) : Prop := ∃ xs : List Value, w.ownsRow B 5 1 v n xs ∧ ∀ u ∈ xs, ∃ c : Int, 0 ≤ c ∧ c ≤ 255 ∧ u = .int .u8 c
theorem Own.of {w : World} {B n : Nat} {v : Value} {bs : List UInt8} (h : w.ownsRow B 5 1 v n (cells bs)) : Own w B v n :=
  ⟨_, h, fun u hu => by
    obtain ⟨c, _, rfl⟩ := List.mem_map.1 hu
    exact ⟨c.toNat, by omega, by have := c.toNat_lt; omega, rfl⟩⟩
theorem Own.keep {w w' : World} {B n : Nat} {v : Value} (h : Own w B v n) {row : Option Nat} (hg : w.grownBy w' row) (hne : v.ownBlock = none ∨ v.ownBlock ≠ row) : Own w' B v n :=
  let ⟨xs, h1, h2⟩ := h
  ⟨xs, h1.kept hg hne, h2⟩
theorem Own.at_ {w : World} {B n cap g k : Nat} (h : Own w B (.slice (some ⟨g, 0, none⟩) n cap) n) (hk : k < n) :
    ∃ c : Int, 0 ≤ c ∧ c ≤ 255 ∧ w.cell? ⟨g, k, none⟩ = some (.int .u8 c) ∧ w.frozen? ⟨g, k, none⟩ = false ∧ ∀ d : Int, 0 ≤ d → d ≤ 255 → Own (w.setCell ⟨g, k, none⟩ (.int .u8 d)) B (.slice (some ⟨g, 0, none⟩) n cap) n := by
  obtain ⟨xs, h1, h2⟩ := h
  have hl : xs.length = n := by have := h1.1; omega
  have hc := h1.cellAt k (by omega)
  rw [List.getElem?_eq_getElem (by omega)] at hc
  obtain ⟨c, c0, c1, e⟩ := h2 xs[k] (List.getElem_mem (by omega))
  rw [e] at hc
  refine ⟨c, c0, c1, hc, h1.frozenAt k, fun d d0 d1 => ⟨_, (h1.stored k (.int .u8 d)).1, fun u hu => ?_⟩⟩
  rcases List.mem_or_eq_of_mem_set hu with h | h
  · exact h2 u h
  · exact ⟨d, d0, d1, h⟩

theorem Own.grown {w : World} {B n cap g k : Nat} (h : Own w B (.slice (some ⟨g, 0, none⟩) n cap) n) (u : Value) : w.grownBy (w.setCell ⟨g, k, none⟩ u) (some g) :=
  let ⟨_, h1, _⟩ := h
  (h1.stored k u).2
theorem Own.lt {w : World} {B n : Nat} {v : Value} (h : Own w B v n) : ∀ k, v.ownBlock = some k → B ≤ k ∧ k < w.heap.size :=
  let ⟨_, h1, _⟩ := h
  h1.lt
theorem Own.head {w : World} {B n cap : Nat} {A : Option Addr} (h : Own w B (.slice A n cap) n) (hn : 0 < n) : ∃ g, A = some ⟨g, 0, none⟩ := by
  obtain ⟨xs, h1, _⟩ := h
  obtain ⟨g, cap', hv, _⟩ := h1.form hn
  injection hv with hv
  exact ⟨g, hv⟩

/-- the rounds that change what was handed out -/
def Rel (w1 : World) (B1 B2 : Nat) (A1 A2 : Option Addr) (L L1 L2 cap1 cap2 : Nat) (i : Value) (wr : World) : Prop :=
  ∃ k : Nat, i = .int .i64 k ∧ k ≤ L ∧ Own wr B1 (.slice A1 L1 cap1) L1 ∧ Own wr B2 (.slice A2 L2 cap2) L2 ∧ Below w1.heap.size w1 wr

def Rel2 (w1 : World) (B2 : Nat) (A2 : Option Addr) (L2 cap2 : Nat) (i : Value) (wr : World) : Prop :=
  ∃ k : Nat, i = .int .i64 k ∧ k ≤ L2 ∧ Own wr B2 (.slice A2 L2 cap2) L2 ∧ Below w1.heap.size w1 wr

set_option maxHeartbeats 4000000 in
set_option maxRecDepth 100000 in
theorem walk (w : World) (A : Option Addr) (cap : Nat) (bs : List UInt8) (_hl : bs.length ≤ cap) (_hm : cap ≤ maxLen) (hA : Lies w A (cells bs)) (n : Int) (_hn : -9223372036854775808 ≤ n ∧ n ≤ 9223372036854775807) (s : List UInt8) (hs : s.length ≤ maxLen) :
    Calls Try.prog 8 #[.slice A bs.length cap, .int .i64 n, .string (str s)] w fun e w' => e = .returned (.bool true) ∧ Below w.heap.size w w' := by
  clear _hn
  have HS := Lib.hid hs
  have hsl := str_size s
  unfold maxLen at hs _hm
  by_cases h9 : 9000 < bs.length
  · generalize str s = S at *
    go_enter Try.func8, Try.ntmps8
    go_wp2_with fail
    refine (head_any _).mono ?_
    rintro e w1 ⟨rfl, hb1⟩
    go_wp2
    go_ret
    exact ⟨rfl, hb1⟩
  · by_cases h9s : 9000 < s.length
    · generalize str s = S at *
      generalize s.length = L at *
      subst hsl
      go_enter Try.func8, Try.ntmps8
      go_wp2_with fail
      refine (head_any _).mono ?_
      rintro e w1 ⟨rfl, hb1⟩
      go_wp2
      go_ret
      exact ⟨rfl, hb1⟩
    · have HP := Lib.hid (fun W (h : Lies W A (cells bs)) => put_any A cap bs n W (by omega) h)
      have HT := Lib.hid (fun W (h : Lies W A (cells bs)) => putText_any A cap bs s W (by omega) h HS.out)
      have HZ := Lib.hid (fun W => size_any n W)
      have HC := Lib.hid (fun W (h : Lies W A (cells bs)) => conv_take h bs.length cap (Nat.le_refl _))
      have HPL := Lib.hid (Plain.put_length n)
      have d9 : decide ((9000 : Int) < (s.length : Int)) = false := by simp; omega
      generalize str s = S at *
      generalize s.length = L at *
      subst hsl
      go_enter Try.func8, Try.ntmps8
      go_wp2_with fail
      refine (head_any _).mono ?_
      rintro e w1 ⟨rfl, hb1⟩
      have hA1 := hA.below hb1
      have hcv1 := HC.out w1 hA1
      rw [List.take_length] at hcv1
      go_wp2_with fail
      refine (HP.out _ hA1).mono ?_
      rintro e w2 ⟨v, rfl, hown, hb2⟩
      have hA2 := hA1.below hb2
      go_wp2_with fail
      refine (HT.out _ hA2).mono ?_
      rintro e w3 ⟨u, rfl, hown2, hb3⟩
      have hA3 := hA2.below hb3
      obtain ⟨A1, cap1, rfl, hc1, hx1, -, hL1⟩ := own_form hown
      obtain ⟨A2, cap2, rfl, hc2, hx2, -, hL2⟩ := own_form hown2
      have hL13 := hL1.below hb3
      have hO1 : Own w3 w1.heap.size (.slice A1 (bs ++ Plain.put n).length cap1) (bs ++ Plain.put n).length := (Own.of hown).keep (row := none) ⟨hb3.os, hb3.tape, hb3.output, hb3.size, fun k hk _ => hb3.block k hk⟩ (by simp [Value.ownBlock]; cases A1 <;> simp)
      have hO2 := Own.of hown2
      have hlt1 : ∀ g, A1 = some ⟨g, 0, none⟩ → w1.heap.size ≤ g ∧ g < w2.heap.size := fun g hg => by
        subst hg; exact (Own.of hown).lt g rfl
      have hcp := conv_take hL13 bs.length cap1 (by rw [List.length_append]; omega)
      have hcq := conv_take hL2 bs.length cap2 (by rw [List.length_append]; omega)
      rw [List.take_left] at hcp hcq
      have hl1 : bs.length ≤ (bs ++ Plain.put n).length := by rw [List.length_append]; omega
      have hl2 : bs.length ≤ (bs ++ Plain.putText s).length := by rw [List.length_append]; omega
      have hz := Plain.size_le n
      have hl1e := Lib.hid (show (bs ++ Plain.put n).length = bs.length + Plain.size n by rw [List.length_append, Plain.put_length])
      have d1 : ((((bs ++ Plain.put n).length : Int) - (bs.length : Int)) == (Plain.size n : Int)) = true := by rw [beq_iff_eq, hl1e.out]; omega
      have hl1b : (bs ++ Plain.put n).length ≤ 9007 := by rw [hl1e.out]; omega
      have hb13 : Below w1.heap.size w1 w3 := hb2.trans (hb3.mono hb2.size)
      clear hown hown2 hL1 hL2 hL13 hl1e HPL
      unfold maxLen at hx1 hx2
      generalize (bs ++ Plain.put n).length = L1 at *
      generalize (bs ++ Plain.putText s).length = L2 at *
      generalize hZ : Plain.size n = Z at *
      clear hZ
      have HO1 := Lib.hid hO1
      have HO2 := Lib.hid hO2
      have HLT := Lib.hid hlt1
      clear hO1 hO2 hlt1
      go_wp2
      go_loopw [12] (fun i wr => Rel w1 w1.heap.size w2.heap.size A1 A2 L1 L1 L2 cap1 cap2 i wr) (fun i _ => L1 - (intOf i).toNat)
      case atStart => exact ⟨0, rfl, Nat.zero_le _, HO1.out, HO2.out, hb13⟩
      case round =>
        obtain ⟨k, rfl, hk, ho1, ho2, hbr⟩ := hrel
        by_cases hlt : k < L1
        · obtain ⟨g, rfl⟩ := ho1.head (by omega)
          obtain ⟨c, c0, c1, hcell, hfz, hst⟩ := ho1.at_ hlt
          have hgr := fun u => ho1.grown (k := k) u
          have hg := HLT.out g rfl
          have HST := Lib.hid hst
          have HGR := Lib.hid hgr
          have HO2 := Lib.hid ho2
          clear ho1 ho2 hst hgr
          go_wp2
          refine ⟨⟨k + 1, by go_num, by omega, HST.out _ (by omega) (by omega), HO2.out.keep (HGR.out _) (.inr fun h => ?_), hbr.setCell hg.1 _⟩, by simp [intOf]; omega⟩
          have := (HO2.out.lt g h).1
          omega
        · have HO2 := Lib.hid ho2
          clear ho1 ho2
          go_wp2
          go_loopw [13] (fun i wr => Rel2 w1 w2.heap.size A2 L2 cap2 i wr) (fun i _ => L2 - (intOf i).toNat)
          case atStart => exact ⟨0, rfl, Nat.zero_le _, HO2.out, hbr⟩
          case round =>
            obtain ⟨k2, rfl, hk2, ho2, hbr2⟩ := hrel
            by_cases hlt2 : k2 < L2
            · obtain ⟨g, rfl⟩ := ho2.head (by omega)
              obtain ⟨c, c0, c1, hcell, hfz, hst⟩ := ho2.at_ hlt2
              have hg := (ho2.lt g rfl).1
              have HST := Lib.hid hst
              clear ho2 hst
              go_wp2
              exact ⟨⟨k2 + 1, by go_num, by omega, HST.out _ (by omega) (by omega), hbr2.setCell (Nat.le_trans hb2.size hg) _⟩, by simp [intOf]; omega⟩
            · clear ho2
              have hcz := HC.out _ (hA1.below hbr2)
              rw [List.take_length] at hcz
              go_wp2_with fail
              refine (HZ.out _).mono ?_
              rintro e w' ⟨rfl, rfl⟩
              go_wp2
              go_ret
              exact ⟨rfl, hb1.trans (hbr2.mono hb1.size)⟩

set_option maxRecDepth 100000 in
theorem lifted (os : Os) (started : os.Started) (H : Type) (enc : TypeId × Value → H) :
    ReturnsInHanded {} Try.checked os 8 .any (Rows.vintBehindSpec.pre6 enc Try.prog Try.f8 Rows.vintBehindRow.domain false) (Rows.vintBehindSpec.post enc Try.prog Try.f8 false true false false) := by
  refine returnsInHanded_of_change (C := Try.checked) own started (by kernel_rfl) Try.func8
    (ChangeSpec.witness6 (enc := enc) (C := Try.checked) false ⟨#[], #[.slice none 0 0, .int .i64 0, .string .empty], []⟩ 8 (by kernel_rfl) (by kernel_rfl) (by kernel_rfl) (by kernel_rfl)) ?_
  intro W base args ds gs before hval0 hW hcnd _
  have hval : ∀ (j : Nat) t v, Try.f8.params[j]? = some t → args[j]? = some v → Value.okWide Try.prog W .any base t v := hval0
  have hfin := fun W' => law_post (enc := enc) (P := Try.prog) (f := Try.f8) (s := Rows.vintBehindSpec) (tb := 4) (W := W) (W' := W') (args := args) (ds := ds) (gs := gs) (before := before) laidOut rfl (by kernel_rfl) Try.underlying4 (by kernel_rfl) (fun xs h => by rw [Try.params8] at h; match xs, h with | [_, _, _], _ => rfl) hW
  have hlt : ∀ x ∈ before, x.block < W.heap.size := fun x hx => hW.lt x hx
  obtain ⟨p, q, hA0, hV, rfl, hfz, hnd⟩ := hW
  have hA : DataW.TrodAll enc Try.prog W 0 (fun _ => true) true Try.f8.params.toList args.toList ds p := hA0
  rw [Try.params8] at hA hval
  obtain ⟨v0, vs0, d0, ds0, p0, q0, hargs, rfl, rfl, h0, r0⟩ := trodAll_cons hA
  obtain ⟨v1, vs1, d1, ds1, p1, q1, rfl, rfl, rfl, h1, r1⟩ := trodAll_cons r0
  obtain ⟨v2, vs2, d2, ds2, p2, q2, rfl, rfl, rfl, h2, r2⟩ := trodAll_cons r1
  obtain ⟨rfl, rfl, rfl⟩ := trodAll_nil r2
  obtain rfl : args = #[v0, v1, v2] := by cases args; simp_all
  obtain ⟨A0, cap0, b0, rfl, hl0, hm0, hB0⟩ := open_bytes (hval 0 22 v0 rfl rfl) h0 (fun x hx => hlt x (by simp [hx]))
  obtain ⟨a1, rfl, rfl, rfl, w1⟩ := open_int Try.underlying2 (hval 1 2 v1 rfl rfl) h1
  obtain ⟨s2, rfl, hs2⟩ := open_text (hval 2 9 v2 rfl rfl) h2
  refine (walk W A0 cap0 b0 hl0 hm0 hB0 a1 (bounds_i64 w1) s2 hs2).mono fun e W' ⟨he, hg⟩ => ?_
  subst he
  exact ⟨_, rfl, hfin W' hg⟩

theorem proved : Rows.VintBehindSaid :=
  OpenClaim.holds_of_wide 8 Try.f8 rfl rfl rfl rfl rfl rfl rfl ⟨rfl, rfl, rfl, rfl, rfl⟩ rfl rfl rfl rfl rfl (by kernel_rfl) Try.func8 (by kernel_rfl)
    (of_decide_eq_true (by kernel_rfl)) (by unfold Func.isWrapper; first | (rw [if_pos (by decide +kernel)]; kernel_rfl) | (rw [if_neg (by decide +kernel)]; exact ⟨rfl, rfl⟩))
    (fun os started H enc _ => lifted os started H enc)
#print axioms proved
end Go.Proofs.Ytldophaccbakoaa.vintBehind
