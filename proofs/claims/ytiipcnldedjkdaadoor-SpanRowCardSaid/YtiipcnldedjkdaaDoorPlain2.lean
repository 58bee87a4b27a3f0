/-
  Plain mathematics of layer 1, of texts: a text is got of its bytes, whatever is behind them; bytes of one that are cut are too short. Nothing is assumed.
-/
import Derived.Test.YtiipcnldedjkdaaDoorPlain
namespace Go.Proofs.YtiipcnldedjkdaaDoor.Plain

theorem get_one (n : Nat) (h : n < 128) (r : List UInt8) : get (UInt8.ofNat n :: r) = (n, 1, 0) := by
  have e : (UInt8.ofNat n).toNat = n := by simp only [UInt8.toNat_ofNat']; omega
  simp only [get, getL, e, h, if_true]
  rw [if_neg (by unfold maxN; omega)]
  simp
theorem putText_eq (s : List UInt8) (h : s.length ≤ 32) : putText s = UInt8.ofNat s.length :: s := by
  unfold putText
  rw [if_neg (by omega), put_small _ (by omega)]
  rfl
theorem putText_len (s : List UInt8) (h : s.length ≤ 32) : (putText s).length = 1 + s.length := by rw [putText_eq s h]; simp; omega
theorem getText_one (n : Nat) (r : List UInt8) (h : n ≤ 32) : getText (UInt8.ofNat n :: r) = if r.length < n then ([], 0, 11) else (r.take n, 1 + n, 0) := by
  unfold getText
  rw [get_one _ (by omega)]
  simp only [ne_eq, not_true, if_false, List.length_cons, List.drop_succ_cons, List.drop_zero]
  rw [if_neg (by omega)]
  by_cases hr : r.length < n
  · rw [if_pos (by omega), if_pos hr]
  · rw [if_neg (by omega), if_neg hr]
theorem getText_put (s r : List UInt8) (h : s.length ≤ 32) : getText (putText s ++ r) = (s, 1 + s.length, 0) := by
  rw [putText_eq s h, List.cons_append, getText_one _ _ h, if_neg (by rw [List.length_append]; omega), List.take_left]
theorem getText_cut (s : List UInt8) (j : Nat) (h : s.length ≤ 32) (hj : j < 1 + s.length) : getText ((putText s).take j) = ([], 0, 11) := by
  rw [putText_eq s h]
  rcases j with _ | j
  · simp [getText, get, getL]
  · rw [List.take_succ_cons, getText_one _ _ h, if_pos (by rw [List.length_take]; omega)]

end Go.Proofs.YtiipcnldedjkdaaDoor.Plain
