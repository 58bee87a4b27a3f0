/-
  Layer 1: the contracts of vint's calls once more, with the answers named, as laws use them. Nothing is assumed but that the bytes lie in memory.
-/
import Derived.Test.YtldophaccbakoaaVGet
import Derived.Test.YtldophaccbakoaaVPut
import Derived.Test.YtldophaccbakoaaPlain2
namespace Go.Proofs.Ytldophaccbakoaa
open Go.RowKit

theorem get_is (A : Option Addr) (n cap : Nat) (bs : List UInt8) (w : World) (X K C : Int) (hn : bs.length = n) (hm : n ≤ maxLen) (hA : Lies w A (cells bs)) (h1 : ((Plain.get bs).1 : Int) = X) (h2 : ((Plain.get bs).2.1 : Int) = K) (h3 : ((Plain.get bs).2.2 : Int) = C) :
    Calls Try.prog 11 #[.slice A n cap] w fun e w' => e = .returned (.tuple #[.int .i64 X, .int .i64 K, .int .i64 C]) ∧ Below w.heap.size w w' := by
  subst hn h1 h2 h3
  exact get_any A cap bs w hm hA
theorem getText_is (A : Option Addr) (n cap : Nat) (bs : List UInt8) (w : World) (S : ByteArray) (K C : Int) (hn : bs.length = n) (hnc : n ≤ cap) (hm : cap ≤ maxLen) (hA : Lies w A (cells bs)) (h1 : str (Plain.getText bs).1 = S) (h2 : ((Plain.getText bs).2.1 : Int) = K) (h3 : ((Plain.getText bs).2.2 : Int) = C) :
    Calls Try.prog 17 #[.slice A n cap] w fun e w' => e = .returned (.tuple #[.string S, .int .i64 K, .int .i64 C]) ∧ Below w.heap.size w w' := by
  subst hn h1 h2 h3
  exact getText_any A cap bs w hm hnc hA
theorem below_many {B : Nat} {a w : World} (h : Below B a w) (n : Nat) : Below B a (w.drewN n) := ⟨h.os, h.tape, h.output, h.size, h.block⟩
theorem Lies.many {w : World} {A : Option Addr} {xs : List Value} (h : Lies w A xs) (n : Nat) : Lies (w.drewN n) A xs := h
theorem Lies.drew1 {w : World} {A : Option Addr} {xs : List Value} (h : Lies w A xs) : Lies w.drew A xs := h
/-- string(b[:j]) -/
theorem conv_take {w : World} {A : Option Addr} {bs : List UInt8} (h : Lies w A (cells bs)) (j cap : Nat) (hj : j ≤ bs.length) :
    (convert 22 9 (.slice A j cap)).run Try.prog w = .ok (.string (str (bs.take j))) w := by
  have h1 := h.take j
  rw [cells_take] at h1
  have hn : (bs.take j).length = j := by rw [List.length_take]; omega
  have := conv_str (P := Try.prog) (c := cap) h1 22 5 Try.underlying22 Try.underlying5 9 Try.underlying9
  rw [hn] at this
  exact this
end Go.Proofs.Ytldophaccbakoaa
