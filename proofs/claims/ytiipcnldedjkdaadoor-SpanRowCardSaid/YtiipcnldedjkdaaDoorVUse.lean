/-
  Layer 1: the contracts of vint's calls once more, with the answers named, as laws use them. Nothing is assumed but that the bytes lie in memory.
-/
import Derived.Test.YtiipcnldedjkdaaDoorVGet
import Derived.Test.YtiipcnldedjkdaaDoorVPut
import Derived.Test.YtiipcnldedjkdaaDoorPlain2
namespace Go.Proofs.YtiipcnldedjkdaaDoor
open Go.RowKit
set_option maxRecDepth 100000

theorem get_is (A : Option Addr) (n cap : Nat) (bs : List UInt8) (w : World) (X K C : Int) (hn : bs.length = n) (hm : n ≤ maxLen) (hA : Lies w A (cells bs)) (h1 : ((Plain.get bs).1 : Int) = X) (h2 : ((Plain.get bs).2.1 : Int) = K) (h3 : ((Plain.get bs).2.2 : Int) = C) :
    Calls Tryd.prog 50 #[.slice A n cap] w fun e w' => e = .returned (.tuple #[.int .i64 X, .int .i64 K, .int .i64 C]) ∧ Below w.heap.size w w' := by
  subst hn h1 h2 h3
  exact get_any A cap bs w hm hA
theorem getText_is (A : Option Addr) (n cap : Nat) (bs : List UInt8) (w : World) (S : ByteArray) (K C : Int) (hn : bs.length = n) (hnc : n ≤ cap) (hm : cap ≤ maxLen) (hA : Lies w A (cells bs)) (h1 : str (Plain.getText bs).1 = S) (h2 : ((Plain.getText bs).2.1 : Int) = K) (h3 : ((Plain.getText bs).2.2 : Int) = C) :
    Calls Tryd.prog 52 #[.slice A n cap] w fun e w' => e = .returned (.tuple #[.string S, .int .i64 K, .int .i64 C]) ∧ Below w.heap.size w w' := by
  subst hn h1 h2 h3
  exact getText_any A cap bs w hm hnc hA
end Go.Proofs.YtiipcnldedjkdaaDoor
