/-
  Texts in memory, cells of them; '==' of texts; turntableref05.SameTexts: what it answers, of any texts. Was in SpanA, CrcC, TrV and TrT. Assumed: that these lie in memory.
-/
import Derived.Test.YtgicjdlpkphfnaaBase
import Derived.Deep.QuietTactic
import Derived.BigQuiet

namespace Go.Proofs.Ytgicjdlpkphfnaa
open Go.RowKit
set_option maxRecDepth 100000

def strs (ss : List (List UInt8)) : List Value := ss.map fun s => .string (str s)
theorem strs_length (ss : List (List UInt8)) : (strs ss).length = ss.length := by simp [strs]
theorem strs_one (ss : List (List UInt8)) : ∀ u ∈ strs ss, u.oneCell' = true := by
  intro u hu
  obtain ⟨s, _, rfl⟩ := List.mem_map.1 hu
  rfl
theorem strs_snoc (ss : List (List UInt8)) (s : List UInt8) : strs (ss ++ [s]) = strs ss ++ [.string (str s)] := by simp [strs]
theorem str_toList (l : List UInt8) : (str l).toList = l := by unfold str; exact ByteArray.toList_mk l
theorem beq_str (a b : List UInt8) : ((str a).toList == (str b).toList) = decide (a = b) := by rw [str_toList, str_toList]; rw [Bool.eq_iff_iff]; simp
/-- the k-th text's cell, in every later world -/
theorem at_text {w : World} {A : Option Addr} {l : List (List UInt8)} (h : Lies w A (strs l)) (k : Nat) (hk : k < l.length) :
    ∃ ad, A = some ad ∧ ad.block < w.heap.size ∧ ∀ u, Below w.heap.size w u → u.cell? (ad.add k) = some (.string (str l[k])) := by
  obtain ⟨ad, rfl, hadb, hc⟩ := h.at_ (k := k) (by rw [strs_length]; exact hk)
  refine ⟨ad, rfl, hadb, fun u hu => ?_⟩
  rw [hu.cell (by rw [addr_block]; exact hadb), hc]
  simp [strs]
theorem neq_texts (W : World) (a b : List UInt8) : (binOp .neq 9 (.string (str a)) (.string (str b))).run Try.prog W = .ok (.bool (!decide (a = b))) W := by
  have h : ((str a).toList == (str b).toList) = decide (a = b) := beq_str a b
  rw [binOp_string_neq, h]; rfl

end Go.Proofs.Ytgicjdlpkphfnaa
