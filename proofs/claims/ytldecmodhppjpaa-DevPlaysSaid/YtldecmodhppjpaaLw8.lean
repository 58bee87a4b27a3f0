/-
  Layer 7's laws: writes alone, what was written last, and what a Boot keeps; steps of arrays of eight. Nothing is assumed.
-/
import Derived.Test.YtldecmodhppjpaaLw7

namespace Go.Proofs.Ytldecmodhppjpaa.Plain
theorem bk_spec (d : Dv) (keep : List Bool) (i : Nat) : ∀ L, d.bk keep L i = if (∃ j, j < L ∧ d.loose[j]? = some i ∧ keep.getD j false = true) then d.sec i else d.kept i
  | 0 => by
    rw [if_neg]
    · rfl
    · rintro ⟨j, h, _⟩; omega
  | L + 1 => by
    have ih := bk_spec d keep i L
    rw [Dv.bk_succ]
    by_cases hc : L < d.loose.length ∧ keep.getD L false = true
    · rw [if_pos hc]
      by_cases hi : i = d.loose.getD L 0
      · subst hi
        rw [upd_same, if_pos]
        exact ⟨L, by omega, by simp [hc.1], hc.2⟩
      · rw [upd_ne _ _ hi, ih]
        by_cases he : ∃ j, j < L ∧ d.loose[j]? = some i ∧ keep.getD j false = true
        · obtain ⟨j, h1, h2⟩ := he
          rw [if_pos ⟨j, h1, h2⟩, if_pos ⟨j, by omega, h2⟩]
        · rw [if_neg he, if_neg]
          rintro ⟨j, h1, h2, h3⟩
          by_cases e : j = L
          · subst e; exact hi (by simp [h2])
          · exact he ⟨j, by omega, h2, h3⟩
    · rw [if_neg hc, ih]
      by_cases he : ∃ j, j < L ∧ d.loose[j]? = some i ∧ keep.getD j false = true
      · obtain ⟨j, h1, h2⟩ := he
        rw [if_pos ⟨j, h1, h2⟩, if_pos ⟨j, by omega, h2⟩]
      · rw [if_neg he, if_neg]
        rintro ⟨j, h1, h2, h3⟩
        by_cases e : j = L
        · subst e; exact hc ⟨(List.getElem?_eq_some_iff.1 h2).1, h3⟩
        · exact he ⟨j, by omega, h2, h3⟩
/-- a Boot that keeps all -/
theorem boot_all (d : Dv) (h : d.Ok) (keep : List Bool) (hk : ∀ j, j < d.loose.length → keep.getD j false = true) (i : Nat) : (d.boot keep []).sec i = d.sec i := by
  show d.bk keep d.loose.length i = _
  rw [bk_spec]
  split
  · rfl
  · rename_i hn
    unfold Dv.sec
    cases hw : d.wr i with
    | none => rfl
    | some s =>
      exfalso
      have hm := (d.loose_mem h i).2 (by rw [hw]; rfl)
      obtain ⟨j, hj⟩ := List.getElem?_of_mem hm
      have hjl := (List.getElem?_eq_some_iff.1 hj).1
      exact hn ⟨j, hjl, hj, hk j hjl⟩
/-- a Boot that keeps none -/
theorem boot_none (d : Dv) (i : Nat) : (d.boot [] []).sec i = d.kept i := by
  show d.bk [] d.loose.length i = _
  rw [bk_spec, if_neg]
  rintro ⟨j, _, _, h⟩
  simp at h
theorem flush_kept {d : Dv} (h : Free d) : d.flush.1.kept = d.sec := by rw [h.flush]
theorem write_kept {d : Dv} (h : Free d) (i : Nat) (b : List UInt8) (hi : i < d.n) (hb : b.length = 64) : (d.write i b).1.kept = d.kept := by rw [h.write i b hi hb]
end Go.Proofs.Ytldecmodhppjpaa.Plain

namespace Go.Proofs.Ytldecmodhppjpaa
open Go.RowKit
set_option maxRecDepth 100000

/-- writes alone, of what f makes of the byte -/
def stepB (f : UInt8 → UInt8) (d : Plain.Dv) (x : Oq) : Plain.Dv := (d.write (x.at_ % 8) (Plain.full (f x.c))).1
def runB (f : UInt8 → UInt8) (D0 : Plain.Dv) (l : List Oq) (k : Nat) : Plain.Dv := (l.take k).foldl (stepB f) D0
theorem runB_succ (f : UInt8 → UInt8) (D0 : Plain.Dv) (l : List Oq) (k : Nat) (hk : k < l.length) : runB f D0 l (k + 1) = stepB f (runB f D0 l k) l[k] := by
  unfold runB
  rw [List.take_succ_eq_append_getElem hk, List.foldl_append]
  rfl
theorem runB_free (f : UInt8 → UInt8) (D0 : Plain.Dv) (m : Nat) (h0 : Plain.Free8 D0 m) (l : List Oq) : ∀ k, k ≤ l.length → Plain.Free8 (runB f D0 l k) (m + k)
  | 0, _ => h0
  | k + 1, h => by
    have ih := runB_free f D0 m h0 l k (by omega)
    rw [runB_succ f D0 l k (by omega)]
    exact (ih.write _ _ (Plain.full_length _)).1
theorem runB_kept (f : UInt8 → UInt8) (D0 : Plain.Dv) (m : Nat) (h0 : Plain.Free8 D0 m) (l : List Oq) : ∀ k, k ≤ l.length → (runB f D0 l k).kept = D0.kept
  | 0, _ => rfl
  | k + 1, h => by
    have ih := runB_kept f D0 m h0 l k (by omega)
    have hf := runB_free f D0 m h0 l k (by omega)
    rw [runB_succ f D0 l k (by omega)]
    unfold stepB
    obtain ⟨i, hi, hi8⟩ := Plain.mod8 (l[k]'(by omega)).at_
    rw [hi, Plain.write_kept hf.free i _ (by rw [hf.n]; exact hi8) (Plain.full_length _), ih]
/-- what was written last -/
def lastB (l : List Oq) (k : Nat) : Nat → UInt8 := (l.take k).foldl (fun La x => Plain.upd La (x.at_ % 8).toNat x.c) (fun _ => 0)
theorem lastB_succ (l : List Oq) (k : Nat) (hk : k < l.length) : lastB l (k + 1) = Plain.upd (lastB l k) (l[k].at_ % 8).toNat l[k].c := by
  unfold lastB
  rw [List.take_succ_eq_append_getElem hk, List.foldl_append]
  rfl
theorem runB_last (l : List Oq) : ∀ k, k ≤ l.length → ∀ j, (runB id (Plain.Dv.new 8) l k).sec j = Plain.full (lastB l k j)
  | 0, _, j => rfl
  | k + 1, h, j => by
    have ih := runB_last l k (by omega) j
    have hf := runB_free id (Plain.Dv.new 8) 0 Plain.Free8.new l k (by omega)
    rw [runB_succ id _ l k (by omega), lastB_succ l k (by omega)]
    unfold stepB
    obtain ⟨i, hi, hi8⟩ := Plain.mod8 (l[k]'(by omega)).at_
    rw [hi, Plain.sec_write hf.free i _ (by rw [hf.n]; exact hi8) (Plain.full_length _)]
    unfold Plain.upd
    rw [Int.toNat_natCast]
    split
    · rfl
    · exact ih

theorem xor255 (W : World) (c : UInt8) : (binOp .xor 5 (.int .u8 (c.toNat : Int)) (.int .u8 255)).run Try.prog W = .ok (.int .u8 ((c ^^^ 255).toNat : Int)) W := by
  have h := u8_xor_nat c.toNat 255 c.toNat_lt (by omega)
  have h2 : (c ^^^ 255).toNat = c.toNat ^^^ 255 := by rw [UInt8.toNat_xor]; rfl
  rw [h2]
  go_simp
  first | exact h | done
theorem run_index8 (W : World) (q m : Nat) (hm : m < 8) : (Instr.indexAt 47 (.pointer (some ⟨q, 0, none⟩)) (.int .i64 (m : Int))).run Try.prog W = .ok (.pointer (some ⟨q, m, none⟩)) W := by
  have h0 : (0 : Int) ≤ (m : Int) := by omega
  have h1 : (m : Int) < 8 := by omega
  have e : (⟨q, 0, none⟩ : Addr).add m = ⟨q, m, none⟩ := by rw [Addr.add_mid, Nat.zero_add]
  go_simp
theorem run_storeU8 (W : World) (a : Addr) (z old : Int) (h : W.cell? a = some (.int .u8 old)) (hf : W.frozen? a = false) : (Instr.storeAt 5 (.pointer (some a)) (.int .u8 z)).run Try.prog W = .ok () (W.setCell a (.int .u8 z)) := by
  go_simp
theorem ne_text (W : World) (s : ByteArray) : (binOp .neq 9 (.string s) (.string s)).run Try.prog W = .ok (.bool false) W := by
  rw [binOp_string_neq, str_beq]
  rfl
/-- a row of bytes, by place -/
def Row8 (w : World) (q : Nat) (La : Nat → UInt8) : Prop := ∃ cs, Blk w q cs 47 ∧ cs.size = 8 ∧ ∀ i, i < 8 → cs[i]? = some (.int .u8 ((La i).toNat : Int))
theorem Row8.cell {w : World} {q : Nat} {La : Nat → UInt8} (h : Row8 w q La) {i : Nat} (hi : i < 8) : w.cell? ⟨q, i, none⟩ = some (.int .u8 ((La i).toNat : Int)) := by
  obtain ⟨cs, h1, h2, h3⟩ := h
  rw [h1.cell]; exact h3 i hi
theorem Row8.frozen {w : World} {q : Nat} {La : Nat → UInt8} (h : Row8 w q La) (i : Nat) : w.frozen? ⟨q, i, none⟩ = false := by
  obtain ⟨cs, h1, h2, h3⟩ := h
  exact h1.frozen i
theorem Row8.lt {w : World} {q : Nat} {La : Nat → UInt8} (h : Row8 w q La) : q < w.heap.size := by
  obtain ⟨cs, h1, h2, h3⟩ := h
  exact h1.lt
theorem Row8.kept {w w' : World} {q : Nat} {La : Nat → UInt8} {S : List Nat} (h : Row8 w q La) (k : Kept S w w') (hq : q ∉ S) : Row8 w' q La := by
  obtain ⟨cs, h1, h2, h3⟩ := h
  exact ⟨cs, k.blk h1 hq, h2, h3⟩
theorem Row8.below {w w' : World} {q : Nat} {La : Nat → UInt8} (h : Row8 w q La) (k : Below w.heap.size w w') : Row8 w' q La := h.kept (Kept.of k []) (by simp)
theorem Row8.set {w : World} {q : Nat} {La : Nat → UInt8} (h : Row8 w q La) {i : Nat} (hi : i < 8) (c : UInt8) : Row8 (w.setCell ⟨q, i, none⟩ (.int .u8 (c.toNat : Int))) q (Plain.upd La i c) := by
  obtain ⟨cs, h1, h2, h3⟩ := h
  refine ⟨_, h1.set i _, by simpa using h2, fun j hj => ?_⟩
  unfold Plain.upd
  by_cases e : j = i
  · subst e
    rw [if_pos rfl]
    simp [h2, hi]
  · rw [if_neg e, Array.getElem?_setIfInBounds_ne (Ne.symm e)]
    exact h3 j hj
theorem Row8.new (w : World) : Row8 (w.alloc (.cells #[.int .u8 0, .int .u8 0, .int .u8 0, .int .u8 0, .int .u8 0, .int .u8 0, .int .u8 0, .int .u8 0] 47)) w.heap.size (fun _ => 0) := by
  refine ⟨_, Blk.new w _ _, rfl, fun i hi => ?_⟩
  have : i = 0 ∨ i = 1 ∨ i = 2 ∨ i = 3 ∨ i = 4 ∨ i = 5 ∨ i = 6 ∨ i = 7 := by omega
  rcases this with rfl | rfl | rfl | rfl | rfl | rfl | rfl | rfl <;> rfl
theorem trues_get (j : Nat) (hj : j < 8) : [true, true, true, true, true, true, true, true].getD j false = true := by
  have : j = 0 ∨ j = 1 ∨ j = 2 ∨ j = 3 ∨ j = 4 ∨ j = 5 ∨ j = 6 ∨ j = 7 := by omega
  rcases this with rfl | rfl | rfl | rfl | rfl | rfl | rfl | rfl <;> rfl
end Go.Proofs.Ytldecmodhppjpaa
