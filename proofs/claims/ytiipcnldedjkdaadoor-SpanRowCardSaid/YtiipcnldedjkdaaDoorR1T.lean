/-
  Layer 1, the document's answer (turntableref01): what PutText and GetText answer: the same plain functions as vint's. Assumed: b is at most 2^40 bytes long.
-/
import Derived.Test.YtiipcnldedjkdaaDoorR1G
namespace Go.Proofs.YtiipcnldedjkdaaDoor
open Go.RowKit
set_option maxRecDepth 100000

set_option maxHeartbeats 1000000 in
theorem rputText_any (A : Option Addr) (cap : Nat) (bs s : List UInt8) (w : World) (hm : bs.length ≤ 1099511627776) (hA : Lies w A (cells bs)) (hs : s.length ≤ maxLen) :
    Calls Tryd.prog 32 #[.slice A bs.length cap, .string (str s)] w (Made w (bs ++ Plain.putText s)) := by
  obtain ⟨i0, hi, hz0, hz1, hz2⟩ := info_parts infoU8
  have hcl := cells_length bs
  have hA' : Lies (w.alloc (.cells #[] 5)) A (cells bs) := hA.keep (by simp) fun p hp => World.cell?_alloc_lt w _ p hp
  have hsl := str_size s
  have hsc := Lib.hid (strCells_cells s)
  unfold maxLen at hs
  have HL := Lib.hid (show (bs ++ Plain.put s.length).length = bs.length + Plain.size s.length by rw [List.length_append, Plain.put_length])
  have HP := Lib.hid (rput_any A cap bs s.length w hm hA)
  unfold Plain.putText
  by_cases h : 32 < s.length
  · rw [if_pos h, List.append_nil]
    generalize str s = S at *
    generalize s.length = L at *
    subst hsl
    go_enter Tryd.func32, Tryd.ntmps32
    go_wp2_with (at_builtin; refine wpList_app rfl _ _ 24 rfl w.heap.size 5 i0 (.int .u8 0) Tryd.underlying24 hi hz0 hz1 hz2 rfl (.slice (some ⟨w.heap.size, 0, none⟩) 0 0) 0 [] rfl ?a1 A bs.length cap (cells bs) rfl hcl ?a3 (cells_one bs) ?a4 ?a5 ?a6)
    case a1 => exact World.ownsRow_lit w #[] 0 (Nat.le_refl _) (by unfold maxLen; omega) rfl
    case a3 => exact hA'
    case a4 => omega
    case a5 => simp
    case a6 =>
      intro v1 w1 hown1 hg1 hat1
      have hb1 : Below w.heap.size w w1 := ((Below.refl _ _).alloc (Nat.le_refl _) _).grown hg1 (by simp) (fun g hg => by simp [Value.ownBlock] at hg; omega)
      have HO1 := Lib.hid (show w1.ownsRow w.heap.size 5 1 v1 bs.length (cells bs) by simpa using hown1)
      clear hown1 hg1 hat1
      go_wp2
      go_ret
      exact ⟨_, rfl, HO1.out, hb1⟩
  · rw [if_neg h, ← List.append_assoc]
    have hpl := Plain.size_le s.length
    have HF := Lib.hid (show ∀ (v : Value) (w' : World), w'.ownsRow w.heap.size 5 1 v ((bs ++ Plain.put s.length).length + s.length) (cells (bs ++ Plain.put s.length) ++ cells s) → Below w.heap.size w w' → Made w (bs ++ Plain.put s.length ++ s) (.returned v) w' from
      fun v w' ho hb => ⟨v, rfl, by rw [cells_append, List.length_append]; exact ho, hb⟩)
    generalize bs ++ Plain.put s.length ++ s = out at *
    generalize bs ++ Plain.put s.length = mid at *
    generalize str s = S at *
    generalize cells s = cs at *
    generalize hq : Plain.size s.length = q at *
    clear hq
    generalize s.length = L at *
    subst hsl
    go_enter Tryd.func32, Tryd.ntmps32
    go_wp2_with fail
    refine HP.out.mono ?_
    rintro e w1 ⟨v, rfl, hown, hb⟩
    have HO := Lib.hid hown
    clear hown
    go_wp2_with (at_builtin; refine Lib.wpList_append_own_string _ rfl _ _ 24 9 rfl w.heap.size 5 i0 Tryd.underlying24 Tryd.underlying9 hi hz0 hz1 hz2 v mid.length (cells mid) rfl ?b1 S rfl ?b2 ?b3 ?b4 ?b5)
    case b1 => exact HO.out
    case b2 => have := HL.out; unfold maxLen; omega
    case b3 => have := HL.out; omega
    case b4 => exact hb.size
    case b5 =>
      intro v' w2 hown2 hgrow hnil
      have hb2 : Below w.heap.size w w2 := hb.grown hgrow hb.size (fun g hg => (HO.out.lt g hg).1)
      rw [hsc.out] at hown2
      have HO2 := Lib.hid hown2
      clear hown2 hgrow hnil
      go_wp2
      go_ret
      exact HF.out _ _ HO2.out hb2

def RTextPost (bs : List UInt8) (w : World) (e : Ending) (w' : World) : Prop :=
  e = .returned (.tuple #[.string (str (Plain.getText bs).1), .int .i64 (Plain.getText bs).2.1, .int .i64 (Plain.getText bs).2.2]) ∧ w = w'
theorem rtpost (bs s : List UInt8) (S : ByteArray) (w : World) (k c : Nat) (K C : Int) (h : Plain.getText bs = (s, k, c)) (hs : str s = S) (hk : (k : Int) = K) (hc : (c : Int) = C) : RTextPost bs w (.returned (.tuple #[.string S, .int .i64 K, .int .i64 C])) w := by
  refine ⟨?_, rfl⟩
  rw [h, hs, hk, hc]

set_option maxHeartbeats 1000000 in
theorem rtext_walk (A : Option Addr) (cap : Nat) (bs : List UInt8) (w : World) (hm : cap ≤ maxLen) (hl : bs.length ≤ cap) (hA : Lies w A (cells bs)) :
    Calls Tryd.prog 25 #[.slice A bs.length cap] w (RTextPost bs w) := by
  have hnum := fun X K C => rget_is A bs.length cap bs w X K C rfl (by omega) hA
  have hsm := Plain.get_small bs
  have hcc := Plain.code_cases bs
  unfold maxLen at hm
  have ht : Plain.getText bs = Plain.getText bs := rfl
  conv at ht => rhs; unfold Plain.getText
  generalize Plain.get bs = g at *
  obtain ⟨x, j, code⟩ := g
  simp only at *
  by_cases h0 : code = 0
  · subst h0
    have HN := Lib.hid (hnum x j 0 rfl rfl rfl)
    clear hnum
    simp only [ne_eq, not_true, if_false] at ht
    by_cases h32 : 32 < x
    · rw [if_pos h32] at ht
      have HT := Lib.hid ht
      clear ht hcc
      go_enter Tryd.func25, Tryd.ntmps25
      go_wp2_with fail
      refine HN.out.mono ?_
      rintro e w' ⟨rfl, rfl⟩
      go_wp2
      go_ret3
      exact rtpost bs [] _ w 0 12 _ _ HT.out rfl rfl rfl
    · rw [if_neg h32] at ht
      by_cases hsh : bs.length < j + x
      · rw [if_pos hsh] at ht
        have HT := Lib.hid ht
        clear ht hcc
        go_enter Tryd.func25, Tryd.ntmps25
        go_wp2_with fail
        refine HN.out.mono ?_
        rintro e w' ⟨rfl, rfl⟩
        go_wp2
        go_ret3
        exact rtpost bs [] _ w 0 11 _ _ HT.out rfl rfl rfl
      · rw [if_neg hsh] at ht
        have HT := Lib.hid ht
        clear ht hcc
        have hcv := conv_cut (P := Tryd.prog) (cap := cap) (j := j) (x := x) hA hl (by omega) 24 5 Tryd.underlying24 Tryd.underlying5 9 Tryd.underlying9
        have HF := Lib.hid (fun (K : Int) (hk : ((j + x : Nat) : Int) = K) => rtpost bs _ _ w _ 0 K 0 HT.out rfl hk rfl)
        generalize str ((bs.drop j).take x) = s at *
        by_cases hcj : cap = j
        · obtain rfl : x = 0 := by omega
          subst hcj
          rw [if_pos rfl, Nat.sub_self] at hcv
          go_enter Tryd.func25, Tryd.ntmps25
          go_wp2_with fail
          refine HN.out.mono ?_
          rintro e w' ⟨rfl, rfl⟩
          go_wp2
          go_ret3
          exact HF.out _ (by simp)
        · rw [if_neg hcj] at hcv
          go_enter Tryd.func25, Tryd.ntmps25
          go_wp2_with fail
          refine HN.out.mono ?_
          rintro e w' ⟨rfl, rfl⟩
          go_wp2
          go_ret3
          exact HF.out _ (by simp)
  · rw [if_pos h0] at ht
    have HT := Lib.hid ht
    have HN := Lib.hid (hnum x j code rfl rfl rfl)
    have d1 : ((code : Int) != 0) = true := by rw [bne_iff_ne]; omega
    clear ht hnum h0 hcc
    go_enter Tryd.func25, Tryd.ntmps25
    go_wp2_with fail
    refine HN.out.mono ?_
    rintro e w' ⟨rfl, rfl⟩
    go_wp2
    go_ret3
    exact rtpost bs [] _ w 0 code _ _ HT.out rfl rfl rfl
theorem rtext_is (A : Option Addr) (n cap : Nat) (bs : List UInt8) (w : World) (S : ByteArray) (K C : Int) (hn : bs.length = n) (hnc : n ≤ cap) (hm : cap ≤ maxLen) (hA : Lies w A (cells bs)) (h1 : str (Plain.getText bs).1 = S) (h2 : ((Plain.getText bs).2.1 : Int) = K) (h3 : ((Plain.getText bs).2.2 : Int) = C) :
    Calls Tryd.prog 25 #[.slice A n cap] w fun e w' => e = .returned (.tuple #[.string S, .int .i64 K, .int .i64 C]) ∧ w = w' := by
  subst hn h1 h2 h3
  exact (rtext_walk A cap bs w hm hnc hA).mono fun _ _ h => h
end Go.Proofs.YtiipcnldedjkdaaDoor
