/-
  What the second form's bound gives: a slice that came in is no longer than its reading's bulk. Nothing is assumed.
-/
import Derived.Test.YtchfiekepjndeaaRd
import Derived.Test.YtchfiekepjndeaaRows

namespace Go.Proofs.Ytchfiekepjndeaa
open Go.RowKit Go.Deep
set_option maxRecDepth 100000

theorem bulk_pos {H : Type} (d : DataW H) : 0 < Rows.uptoBulk d := by
  rcases d with l | _ | _ | _ | _ | _ | _ | _
  · rcases l with _ | _ | _ | _ <;> simp [Rows.uptoBulk]
  all_goals simp [Rows.uptoBulk]
theorem bulk_part {H : Type} (d : DataW H) (l : List (DataW H)) (h : d ∈ l) : Rows.uptoBulk d ≤ Rows.uptoBulkAll l := by
  induction l with
  | nil => cases h
  | cons x r ih =>
    rw [Rows.uptoBulkAll]
    rcases List.mem_cons.1 h with rfl | h
    · omega
    · have := ih h; omega
theorem bulk_many {H : Type} (l : List (DataW H)) : l.length ≤ Rows.uptoBulkAll l := by
  induction l with
  | nil => simp
  | cons x r ih =>
    have := bulk_pos x
    rw [Rows.uptoBulkAll, List.length_cons]
    omega
theorem bulk_small {H : Type} {l : List (DataW H)} (h : Rows.uptoSmall H l = true) (d : DataW H) (hd : d ∈ l) : Rows.uptoBulk d ≤ 1048576 :=
  Nat.le_trans (bulk_part d l hd) (of_decide_eq_true h)
/-- how long a slice that came in is -/
theorem bulk_slice {H : Type} {enc : TypeId × Value → H} {P : Program} {W : World} {t e : TypeId} {A : Option Addr} {len cap : Nat} {d : DataW H} {ps : List MemPlace} (ht : P.underlying t = some (.slice e)) (h : DataW.Trod enc P W 0 (fun _ => true) true t (.slice A len cap) d ps) : len ≤ Rows.uptoBulk d := by
  obtain ⟨fuel, hf⟩ := h
  rcases open_slice ht hf with ⟨hcs, hx⟩ | ⟨a, l2, c2, m, n', D, Pl, hcs, hb, hl, hm, hmm, hx, hi⟩
  · have hcs : [Value.slice A len cap] = [.slice none 0 0] := hcs
    injection hcs with hcs
    injection hcs with e1 e2 e3
    omega
  · have hcs : [Value.slice A len cap] = [.slice (some a) l2 c2] := hcs
    injection hcs with hcs
    injection hcs with e1 e2 e3
    injection hx with hx1 hx2
    have := bulk_many ((List.range l2).map D)
    rw [hx1, Rows.uptoBulk]
    rw [List.length_map, List.length_range] at this
    omega
end Go.Proofs.Ytchfiekepjndeaa
