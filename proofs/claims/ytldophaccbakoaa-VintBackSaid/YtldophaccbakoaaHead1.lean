/-
  Layer 1: the laws' live question (turntablelaw01.head) answers true, and turns nothing that was there. Nothing is assumed.
-/
import Derived.Test.YtldophaccbakoaaVGet
import Derived.Test.YtldophaccbakoaaVPut
namespace Go.Proofs.Ytldophaccbakoaa
open Go.RowKit

theorem get_new (w : World) (cs : Array Value) (bs : List UInt8) (n cap : Nat) (X K C : Int) (hc : cells bs = cs.toList) (hn : bs.length = n) (hx : bs.length ≤ 100) (h1 : ((Plain.get bs).1 : Int) = X) (h2 : ((Plain.get bs).2.1 : Int) = K) (h3 : ((Plain.get bs).2.2 : Int) = C) :
    Calls Try.prog 11 #[.slice (some ⟨w.heap.size, 0, none⟩) n cap] (w.alloc (.cells cs 5)) fun e w' => e = .returned (.tuple #[.int .i64 X, .int .i64 K, .int .i64 C]) ∧ Below w.heap.size w w' := by
  subst hn h1 h2 h3
  have hl := Lies.new w cs 5
  rw [← hc] at hl
  refine (get_any _ cap bs _ (by unfold maxLen; omega) hl).mono ?_
  rintro e w' ⟨rfl, hb⟩
  exact ⟨rfl, ((Below.refl _ _).alloc (Nat.le_refl _) _).trans (hb.mono (by simp))⟩
theorem getText_new (w : World) (cs : Array Value) (bs : List UInt8) (n cap : Nat) (S : ByteArray) (K C : Int) (hc : cells bs = cs.toList) (hn : bs.length = n) (hx : cap ≤ 100) (hnc : n ≤ cap) (h1 : str (Plain.getText bs).1 = S) (h2 : ((Plain.getText bs).2.1 : Int) = K) (h3 : ((Plain.getText bs).2.2 : Int) = C) :
    Calls Try.prog 17 #[.slice (some ⟨w.heap.size, 0, none⟩) n cap] (w.alloc (.cells cs 5)) fun e w' => e = .returned (.tuple #[.string S, .int .i64 K, .int .i64 C]) ∧ Below w.heap.size w w' := by
  subst hn h1 h2 h3
  have hl := Lies.new w cs 5
  rw [← hc] at hl
  refine (getText_any _ cap bs _ (by unfold maxLen; omega) hnc hl).mono ?_
  rintro e w' ⟨rfl, hb⟩
  exact ⟨rfl, ((Below.refl _ _).alloc (Nat.le_refl _) _).trans (hb.mono (by simp))⟩
theorem put_new (w : World) (cs : Array Value) (bs : List UInt8) (n cap : Nat) (x : Int) (hc : cells bs = cs.toList) (hn : bs.length = n) (hx : bs.length ≤ 100) :
    Calls Try.prog 13 #[.slice (some ⟨w.heap.size, 0, none⟩) n cap, .int .i64 x] (w.alloc (.cells cs 5)) fun e w' => ∃ v, e = .returned v ∧ (convert 22 9 v).run Try.prog w' = .ok (.string (str (bs ++ Plain.put x))) w' ∧ Below w.heap.size w w' := by
  subst hn
  have hl := Lies.new w cs 5
  rw [← hc] at hl
  refine (put_any _ cap bs x _ (by omega) hl).mono ?_
  rintro e w' ⟨v, rfl, ho, hb⟩
  exact ⟨v, rfl, own_str ho _ Try.underlying22 Try.underlying5 _ Try.underlying9, ((Below.refl _ _).alloc (Nat.le_refl _) _).trans (hb.mono (by simp))⟩

set_option maxRecDepth 100000 in
theorem head_any (w : World) : Calls Try.prog 10 #[] w fun e w' => e = .returned (.bool true) ∧ Below w.heap.size w w' := by
  go_enter Try.func10, Try.ntmps10
  go_wp2_with fail
  refine (get_new _ _ [172, 2, 9] _ _ 300 2 0 rfl rfl (by decide) (by decide) (by decide) (by decide)).mono ?_
  rintro e w1 ⟨rfl, b1⟩
  go_wp2_with fail
  refine (get_new _ _ [172] _ _ 0 0 11 rfl rfl (by decide) (by decide) (by decide) (by decide)).mono ?_
  rintro e w2 ⟨rfl, b2⟩
  go_wp2_with fail
  refine (get_new _ _ [128, 0] _ _ 0 0 12 rfl rfl (by decide) (by decide) (by decide) (by decide)).mono ?_
  rintro e w3 ⟨rfl, b3⟩
  go_wp2_with fail
  refine (get_new _ _ [255, 255, 255, 255, 255, 255, 255] _ _ 0 0 12 rfl rfl (by decide) (by decide) (by decide) (by decide)).mono ?_
  rintro e w4 ⟨rfl, b4⟩
  go_wp2_with fail
  refine (getText_new _ _ [2, 97, 98, 99] _ _ ⟨#[97, 98]⟩ 3 0 rfl rfl (by decide) (by decide) (by decide) (by decide) (by decide)).mono ?_
  rintro e w5 ⟨rfl, b5⟩
  go_wp2_with fail
  refine (getText_new _ _ [33] _ _ ⟨#[]⟩ 0 12 rfl rfl (by decide) (by decide) (by decide) (by decide) (by decide)).mono ?_
  rintro e w6 ⟨rfl, b6⟩
  go_wp2_with fail
  refine (put_new _ _ [7] _ _ 300 rfl rfl (by decide)).mono ?_
  rintro e w7 ⟨v, rfl, hcv, b7⟩
  rw [show str ([7] ++ Plain.put 300) = ⟨#[7, 172, 2]⟩ from by decide] at hcv
  go_wp2_with fail
  refine (size_any _ _).mono ?_
  rintro e w' ⟨rfl, rfl⟩
  rw [show Plain.size 281474976710656 = 7 from by decide]
  go_wp2_with fail
  refine (size_any _ _).mono ?_
  rintro e w' ⟨rfl, rfl⟩
  rw [show Plain.size (-1) = 0 from by decide]
  go_wp2
  go_ret
  refine ⟨rfl, ?_⟩
  have s1 := b1.size; have s2 := b2.size; have s3 := b3.size; have s4 := b4.size; have s5 := b5.size; have s6 := b6.size
  exact b1.trans ((b2.mono (by omega)).trans ((b3.mono (by omega)).trans ((b4.mono (by omega)).trans ((b5.mono (by omega)).trans ((b6.mono (by omega)).trans (b7.mono (by omega)))))))
end Go.Proofs.Ytldophaccbakoaa
