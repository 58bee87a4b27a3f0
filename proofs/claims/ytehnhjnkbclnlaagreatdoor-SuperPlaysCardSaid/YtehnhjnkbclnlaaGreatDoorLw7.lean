/-
  Lw7: Layer 7's laws: calls that write and flush, a device that is not to be cut, and what their statements lean on. Nothing is assumed.
  Lw8: Layer 7's laws: writes alone, what was written last, and what a Boot keeps; steps of arrays of eight. Nothing is assumed.
  Lw9: Layer 7's laws: what a hurt turns, and arrays of eight of anything. Nothing is assumed.
  LwK: Layer 7's laws: what is kept and what was written last, of calls of all kinds. Nothing is assumed.
-/
import Derived.Test.YtehnhjnkbclnlaaGreatDoorOpD

namespace Go.Proofs.YtehnhjnkbclnlaaGreatDoor.Plain
theorem mod8 (a : Int) : ∃ i : Nat, a % 8 = (i : Int) ∧ i < 8 := by
  obtain ⟨i, hi⟩ := Int.eq_ofNat_of_zero_le (Int.emod_nonneg a (by omega : (8 : Int) ≠ 0))
  exact ⟨i, hi, by have := Int.emod_lt_of_pos a (by omega : (0 : Int) < 8); omega⟩
/-- calls that write somewhere -/
structure Free8 (d : Dv) (k : Nat) : Prop where
  free : Free d
  n : d.n = 8
  done : d.done ≤ k
theorem Free8.new : Free8 (Dv.new 8) 0 := ⟨Free.new 8 (by omega) (by omega), rfl, Nat.le_refl _⟩
theorem Free8.flush {d : Dv} {k : Nat} (h : Free8 d k) : Free8 d.flush.1 (k + 1) := ⟨h.free.flush_free, (d.flush_n).trans h.n, Nat.le_trans d.flush_done (by have := h.done; omega)⟩
theorem Free8.write {d : Dv} {k : Nat} (h : Free8 d k) (a : Int) (b : List UInt8) (hb : b.length = 64) : Free8 (d.write (a % 8) b).1 (k + 1) ∧ (d.write (a % 8) b).2 = 0 := by
  obtain ⟨i, hi, hi8⟩ := mod8 a
  rw [hi]
  exact ⟨⟨h.free.write_free i b (by rw [h.n]; exact hi8) hb, (d.write_n _ _).trans h.n, Nat.le_trans (d.write_done _ _) (by have := h.done; omega)⟩, by rw [h.free.write i b (by rw [h.n]; exact hi8) hb]⟩
end Go.Proofs.YtehnhjnkbclnlaaGreatDoor.Plain

namespace Go.Proofs.YtehnhjnkbclnlaaGreatDoor
open Go.RowKit
set_option maxRecDepth 100000

/-- one call of those that came in, as most laws make it -/
def stepW (d : Plain.Dv) (x : Oq) : Plain.Dv := if x.what = 4 then d.flush.1 else (d.write (x.at_ % 8) (Plain.full x.c)).1
def runW (l : List Oq) (k : Nat) : Plain.Dv := (l.take k).foldl stepW (Plain.Dv.new 8)
theorem runW_succ (l : List Oq) (k : Nat) (hk : k < l.length) : runW l (k + 1) = stepW (runW l k) l[k] := by
  unfold runW
  rw [List.take_succ_eq_append_getElem hk, List.foldl_append]
  rfl
theorem runW_free (l : List Oq) : ∀ k, k ≤ l.length → Plain.Free8 (runW l k) k
  | 0, _ => Plain.Free8.new
  | k + 1, h => by
    have ih := runW_free l k (by omega)
    rw [runW_succ l k (by omega)]
    unfold stepW
    split
    · exact ih.flush
    · exact (ih.write _ _ (Plain.full_length _)).1

theorem and7 (W : World) (a : Int) : (binOp .and 3 (.int .i64 a) (.int .i64 7)).run Tryz.prog W = .ok (.int .i64 (a % 8)) W := by
  have key : bits .and .i64 a 7 = a % 8 := by
    show IntKind.i64.wrap ((BitVec.ofInt 64 a &&& BitVec.ofInt 64 7).toNat : Int) = a % 8
    have h7 : (BitVec.ofInt 64 7).toNat = 2 ^ 3 - 1 := by decide
    rw [BitVec.toNat_and, h7, Nat.and_two_pow_sub_one_eq_mod, IntKind.wrap_i64, BitVec.toNat_ofInt]
    omega
  go_simp
theorem run_loadI (W : World) (a : Addr) (z : Int) (h : W.cell? a = some (.int .i64 z)) : (Instr.loadAt 3 (.pointer (some a))).run Tryz.prog W = .ok (.int .i64 z) W := by
  go_simp
/-- a sector of one byte that was just made -/
def Fact.fl (c : UInt8) : Fact := ⟨fun v w => ∃ b, v = .slice (some ⟨b, 0, none⟩) 64 64 ∧ Blk w b (cells (Plain.full c)).toArray 5, fun _ _ _ ⟨b, e, h⟩ hb => ⟨b, e, (Kept.of hb []).blk h (by simp)⟩⟩
/-- a sector of one byte is written, last of all -/
theorem late_write {W W0 : World} {a : Act} {o : Oper} {x y z : Operand} {ats : Array TypeId} {K : Act → World → Prop} {Q : Exit → Act → World → Prop} {g : Nat} {d : Plain.Dv} {i : Int} {c : UInt8}
    (ho : o.op = .call { callee := .value (.func 14), args := #[x, y, z], argTypes := ats }) (hx : a.eval x = .pointer (some ⟨g + 2, 0, none⟩)) (hy : a.eval y = .int .i64 i) (hz : (Fact.fl c).φ (a.eval z) W) (hW : Below W0.heap.size W0 W) (hdone : d.done < 4611686018427387904) (h : IsDev W0 g d)
    (hK : ∀ w', IsDev w' g (d.write i (Plain.full c)).1 → Kept [g + 1, g + 2] W0 w' → K (a.put o.dst (.int .i64 ((d.write i (Plain.full c)).2 : Int))) w') : o.wp Tryz.prog a W K Q := by
  obtain ⟨b, e, hb⟩ := hz
  refine late_call3 ho hx hy e (by kernel_rfl) (write_full W g d i b c hb hdone (h.below hW)) ?_
  rintro e w' ⟨rfl, h1, h2⟩
  exact ⟨_, rfl, hK w' h1 ((Kept.of hW _).trans h2)⟩
end Go.Proofs.YtehnhjnkbclnlaaGreatDoor

namespace Go.Proofs.YtehnhjnkbclnlaaGreatDoor.Plain
theorem bk_spec (d : Dv) (keep : List Bool) (i : Nat) : ∀ L, d.bk keep L i = if (∃ j, j < L ∧ d.loose[j]? = some i ∧ keep.getD j false = true) then d.sec i else d.kept i
  | 0 => by
    rw [if_neg]
    · rfl
    · rintro ⟨j, h, _⟩; omega
  | L + 1 => by
    have ih := bk_spec d keep i L
    rw [Dv.bk_succ]
    by_cases hc : L < d.loose.length ∧ keep.getD L false = true
    · rw [if_pos hc]
      by_cases hi : i = d.loose.getD L 0
      · subst hi
        rw [upd_same, if_pos]
        exact ⟨L, by omega, by simp [hc.1], hc.2⟩
      · rw [upd_ne _ _ hi, ih]
        by_cases he : ∃ j, j < L ∧ d.loose[j]? = some i ∧ keep.getD j false = true
        · obtain ⟨j, h1, h2⟩ := he
          rw [if_pos ⟨j, h1, h2⟩, if_pos ⟨j, by omega, h2⟩]
        · rw [if_neg he, if_neg]
          rintro ⟨j, h1, h2, h3⟩
          by_cases e : j = L
          · subst e; exact hi (by simp [h2])
          · exact he ⟨j, by omega, h2, h3⟩
    · rw [if_neg hc, ih]
      by_cases he : ∃ j, j < L ∧ d.loose[j]? = some i ∧ keep.getD j false = true
      · obtain ⟨j, h1, h2⟩ := he
        rw [if_pos ⟨j, h1, h2⟩, if_pos ⟨j, by omega, h2⟩]
      · rw [if_neg he, if_neg]
        rintro ⟨j, h1, h2, h3⟩
        by_cases e : j = L
        · subst e; exact hc ⟨(List.getElem?_eq_some_iff.1 h2).1, h3⟩
        · exact he ⟨j, by omega, h2, h3⟩
/-- a Boot that keeps all -/
theorem boot_all (d : Dv) (h : d.Ok) (keep : List Bool) (hk : ∀ j, j < d.loose.length → keep.getD j false = true) (i : Nat) : (d.boot keep []).sec i = d.sec i := by
  show d.bk keep d.loose.length i = _
  rw [bk_spec]
  split
  · rfl
  · rename_i hn
    unfold Dv.sec
    cases hw : d.wr i with
    | none => rfl
    | some s =>
      exfalso
      have hm := (d.loose_mem h i).2 (by rw [hw]; rfl)
      obtain ⟨j, hj⟩ := List.getElem?_of_mem hm
      have hjl := (List.getElem?_eq_some_iff.1 hj).1
      exact hn ⟨j, hjl, hj, hk j hjl⟩
/-- a Boot that keeps none -/
theorem boot_none (d : Dv) (i : Nat) : (d.boot [] []).sec i = d.kept i := by
  show d.bk [] d.loose.length i = _
  rw [bk_spec, if_neg]
  rintro ⟨j, _, _, h⟩
  simp at h
theorem flush_kept {d : Dv} (h : Free d) : d.flush.1.kept = d.sec := by rw [h.flush]
theorem write_kept {d : Dv} (h : Free d) (i : Nat) (b : List UInt8) (hi : i < d.n) (hb : b.length = 64) : (d.write i b).1.kept = d.kept := by rw [h.write i b hi hb]
end Go.Proofs.YtehnhjnkbclnlaaGreatDoor.Plain

namespace Go.Proofs.YtehnhjnkbclnlaaGreatDoor
open Go.RowKit
set_option maxRecDepth 100000

/-- writes alone, of what f makes of the byte -/
def stepB (f : UInt8 → UInt8) (d : Plain.Dv) (x : Oq) : Plain.Dv := (d.write (x.at_ % 8) (Plain.full (f x.c))).1
def runB (f : UInt8 → UInt8) (D0 : Plain.Dv) (l : List Oq) (k : Nat) : Plain.Dv := (l.take k).foldl (stepB f) D0
theorem runB_succ (f : UInt8 → UInt8) (D0 : Plain.Dv) (l : List Oq) (k : Nat) (hk : k < l.length) : runB f D0 l (k + 1) = stepB f (runB f D0 l k) l[k] := by
  unfold runB
  rw [List.take_succ_eq_append_getElem hk, List.foldl_append]
  rfl
theorem runB_free (f : UInt8 → UInt8) (D0 : Plain.Dv) (m : Nat) (h0 : Plain.Free8 D0 m) (l : List Oq) : ∀ k, k ≤ l.length → Plain.Free8 (runB f D0 l k) (m + k)
  | 0, _ => h0
  | k + 1, h => by
    have ih := runB_free f D0 m h0 l k (by omega)
    rw [runB_succ f D0 l k (by omega)]
    exact (ih.write _ _ (Plain.full_length _)).1
theorem runB_kept (f : UInt8 → UInt8) (D0 : Plain.Dv) (m : Nat) (h0 : Plain.Free8 D0 m) (l : List Oq) : ∀ k, k ≤ l.length → (runB f D0 l k).kept = D0.kept
  | 0, _ => rfl
  | k + 1, h => by
    have ih := runB_kept f D0 m h0 l k (by omega)
    have hf := runB_free f D0 m h0 l k (by omega)
    rw [runB_succ f D0 l k (by omega)]
    unfold stepB
    obtain ⟨i, hi, hi8⟩ := Plain.mod8 (l[k]'(by omega)).at_
    rw [hi, Plain.write_kept hf.free i _ (by rw [hf.n]; exact hi8) (Plain.full_length _), ih]
/-- what was written last -/
def lastB (l : List Oq) (k : Nat) : Nat → UInt8 := (l.take k).foldl (fun La x => Plain.upd La (x.at_ % 8).toNat x.c) (fun _ => 0)
theorem lastB_succ (l : List Oq) (k : Nat) (hk : k < l.length) : lastB l (k + 1) = Plain.upd (lastB l k) (l[k].at_ % 8).toNat l[k].c := by
  unfold lastB
  rw [List.take_succ_eq_append_getElem hk, List.foldl_append]
  rfl
theorem runB_last (l : List Oq) : ∀ k, k ≤ l.length → ∀ j, (runB id (Plain.Dv.new 8) l k).sec j = Plain.full (lastB l k j)
  | 0, _, j => rfl
  | k + 1, h, j => by
    have ih := runB_last l k (by omega) j
    have hf := runB_free id (Plain.Dv.new 8) 0 Plain.Free8.new l k (by omega)
    rw [runB_succ id _ l k (by omega), lastB_succ l k (by omega)]
    unfold stepB
    obtain ⟨i, hi, hi8⟩ := Plain.mod8 (l[k]'(by omega)).at_
    rw [hi, Plain.sec_write hf.free i _ (by rw [hf.n]; exact hi8) (Plain.full_length _)]
    unfold Plain.upd
    rw [Int.toNat_natCast]
    split
    · rfl
    · exact ih

theorem xor255 (W : World) (c : UInt8) : (binOp .xor 5 (.int .u8 (c.toNat : Int)) (.int .u8 255)).run Tryz.prog W = .ok (.int .u8 ((c ^^^ 255).toNat : Int)) W := by
  have h := u8_xor_nat c.toNat 255 c.toNat_lt (by omega)
  have h2 : (c ^^^ 255).toNat = c.toNat ^^^ 255 := by rw [UInt8.toNat_xor]; rfl
  rw [h2]
  go_simp
  first | exact h | done
theorem run_storeU8 (W : World) (a : Addr) (z old : Int) (h : W.cell? a = some (.int .u8 old)) (hf : W.frozen? a = false) : (Instr.storeAt 5 (.pointer (some a)) (.int .u8 z)).run Tryz.prog W = .ok () (W.setCell a (.int .u8 z)) := by
  go_simp
theorem ne_text (W : World) (s : ByteArray) : (binOp .neq 9 (.string s) (.string s)).run Tryz.prog W = .ok (.bool false) W := by
  rw [binOp_string_neq, str_beq]
  rfl
theorem trues_get (j : Nat) (hj : j < 8) : [true, true, true, true, true, true, true, true].getD j false = true := by
  have : j = 0 ∨ j = 1 ∨ j = 2 ∨ j = 3 ∨ j = 4 ∨ j = 5 ∨ j = 6 ∨ j = 7 := by omega
  rcases this with rfl | rfl | rfl | rfl | rfl | rfl | rfl | rfl <;> rfl
end Go.Proofs.YtehnhjnkbclnlaaGreatDoor

namespace Go.Proofs.YtehnhjnkbclnlaaGreatDoor.Plain
/-- what turns lies near -/
theorem turn_near (s : List UInt8) (a : Int) (bits m : Nat) (h : (turn s a bits).getD m 0 ≠ s.getD m 0) : a ≤ 8 * m + 7 ∧ 8 * m - 31 ≤ a := by
  rcases Int.lt_or_le a 0 with ha | ha
  · exfalso; apply h; unfold turn; rw [if_pos ha]
  · obtain ⟨p, rfl⟩ := Int.eq_ofNat_of_zero_le ha
    rcases Classical.em (∃ j, j < 32 ∧ (p + j) / 8 = m) with ⟨j, hj, he⟩ | hne
    · omega
    · exfalso
      apply h
      unfold turn
      rw [if_neg (by omega)]
      exact tr_far s p bits m 32 fun j hj he => hne ⟨j, hj, he⟩
/-- is it that sector's hurt? -/
def Dv.mine (d : Dv) (h : Hu) (i : Nat) : Bool := decide (0 ≤ h.which ∧ h.which < d.loose.length ∧ d.loose.getD h.which.toNat 0 = i)
theorem bk_all (d : Dv) (h : d.Ok) (keep : List Bool) (hk : ∀ j, j < d.loose.length → keep.getD j false = true) : d.bk keep d.loose.length = d.sec := funext fun i => boot_all d h keep hk i
/-- one hurt, of what is kept whole -/
theorem boot_place (d : Dv) (h : d.Ok) (keep : List Bool) (hk : ∀ j, j < d.loose.length → keep.getD j false = true) (u : Hu) (i : Nat) : (d.boot keep [u]).sec i = if d.mine u i = true then turn (d.sec i) u.at_ u.bits else d.sec i := by
  show d.hurt1 keep (d.bk keep d.loose.length) u i = _
  rw [bk_all d h keep hk]
  unfold Dv.hurt1 Dv.hits Dv.mine
  by_cases h1 : 0 ≤ u.which ∧ u.which < d.loose.length
  · rw [hk u.which.toNat (by omega), decide_eq_true h1]
    simp only [Bool.and_true, if_true]
    unfold upd
    by_cases h2 : i = d.loose.getD u.which.toNat 0
    · rw [if_pos h2, if_pos (by simpa using ⟨h1.1, h1.2, h2.symm⟩), ← h2]
    · rw [if_neg h2, if_neg (by simpa using fun _ _ h => h2 h.symm)]
  · rw [decide_eq_false h1, if_neg (by simp), if_neg (by simpa using fun h2 h3 => absurd ⟨h2, h3⟩ h1)]
theorem free_loose {d : Dv} (h8 : d.n = 8) (j : Nat) (hj : j < d.loose.length) : [true, true, true, true, true, true, true, true].getD j false = true := by
  have h1 := d.loose_len
  have : j = 0 ∨ j = 1 ∨ j = 2 ∨ j = 3 ∨ j = 4 ∨ j = 5 ∨ j = 6 ∨ j = 7 := by omega
  rcases this with rfl | rfl | rfl | rfl | rfl | rfl | rfl | rfl <;> rfl
end Go.Proofs.YtehnhjnkbclnlaaGreatDoor.Plain

namespace Go.Proofs.YtehnhjnkbclnlaaGreatDoor
open Go.RowKit
set_option maxRecDepth 100000

/-- eight of anything, by place -/
def RowV (w : World) (q : Nat) (t : TypeId) (V : Nat → Value) : Prop := ∃ cs, Blk w q cs t ∧ cs.size = 8 ∧ ∀ i, i < 8 → cs[i]? = some (V i)
theorem RowV.cell {w : World} {q : Nat} {t : TypeId} {V : Nat → Value} (h : RowV w q t V) {i : Nat} (hi : i < 8) : w.cell? ⟨q, i, none⟩ = some (V i) := by
  obtain ⟨cs, h1, h2, h3⟩ := h
  rw [h1.cell]; exact h3 i hi
theorem RowV.frozen {w : World} {q : Nat} {t : TypeId} {V : Nat → Value} (h : RowV w q t V) (i : Nat) : w.frozen? ⟨q, i, none⟩ = false := by
  obtain ⟨cs, h1, h2, h3⟩ := h
  exact h1.frozen i
theorem RowV.lt {w : World} {q : Nat} {t : TypeId} {V : Nat → Value} (h : RowV w q t V) : q < w.heap.size := by
  obtain ⟨cs, h1, h2, h3⟩ := h
  exact h1.lt
theorem RowV.kept {w w' : World} {q : Nat} {t : TypeId} {V : Nat → Value} {S : List Nat} (h : RowV w q t V) (k : Kept S w w') (hq : q ∉ S) : RowV w' q t V := by
  obtain ⟨cs, h1, h2, h3⟩ := h
  exact ⟨cs, k.blk h1 hq, h2, h3⟩
theorem RowV.below {w w' : World} {q : Nat} {t : TypeId} {V : Nat → Value} (h : RowV w q t V) (k : Below w.heap.size w w') : RowV w' q t V := h.kept (Kept.of k []) (by simp)
theorem RowV.set {w : World} {q : Nat} {t : TypeId} {V : Nat → Value} (h : RowV w q t V) {i : Nat} (hi : i < 8) (v : Value) : RowV (w.setCell ⟨q, i, none⟩ v) q t (Plain.upd V i v) := by
  obtain ⟨cs, h1, h2, h3⟩ := h
  refine ⟨_, h1.set i _, by simpa using h2, fun j hj => ?_⟩
  unfold Plain.upd
  by_cases e : j = i
  · subst e
    rw [if_pos rfl]
    simp [h2, hi]
  · rw [if_neg e, Array.getElem?_setIfInBounds_ne (Ne.symm e)]
    exact h3 j hj
theorem lt8 {i : Nat} (h : i < 8) : i = 0 ∨ i = 1 ∨ i = 2 ∨ i = 3 ∨ i = 4 ∨ i = 5 ∨ i = 6 ∨ i = 7 := by omega

theorem run_loadS (W : World) (a : Addr) (s : ByteArray) (h : W.cell? a = some (.string s)) : (Instr.loadAt 9 (.pointer (some a))).run Tryz.prog W = .ok (.string s) W := by
  go_simp
theorem run_storeS (W : World) (a : Addr) (s o : ByteArray) (h : W.cell? a = some (.string o)) (hf : W.frozen? a = false) : (Instr.storeAt 9 (.pointer (some a)) (.string s)).run Tryz.prog W = .ok () (W.setCell a (.string s)) := by
  go_simp
theorem str_at (b : List UInt8) (i : Nat) (h : i < b.length) : (str b)[i]? = some (b.getD i 0) := by
  have h1 : i < (str b).size := by rw [str_size]; exact h
  rw [getElem?_pos (str b) i h1]
  congr 1
  simp only [List.getD_eq_getElem?_getD, List.getElem?_eq_getElem h, Option.getD_some]
  rfl
theorem run_idxStr (W : World) (b : List UInt8) (i : Nat) (h : i < b.length) : (Instr.index 9 (.string (str b)) (.int .i64 (i : Int))).run Tryz.prog W = .ok (.int .u8 ((b.getD i 0).toNat : Int)) W := by
  have h2 : i < (str b).size := by rw [str_size]; exact h
  have h1 : (str b)[i] = b.getD i 0 := by
    have := str_at b i h
    rw [getElem?_pos (str b) i h2] at this
    exact Option.some.inj this
  generalize b.getD i 0 = c at *
  go_simp
theorem soft_idxStr {P : Program} {w : World} {ρ : Operand → Value} {o : Oper} {x y : Operand} {t : TypeId} {vx vy u : Value} (hx : ρ x = vx) (hy : ρ y = vy) (hr : (Instr.index t vx vy).run P w = .ok u w) (ho : o.op = .index t x y) : softUpon P w (Fact.is u) ((execOp ρ o).run P w) := by
  have e : (execOp ρ o).run P w = .ok (.value u) w := by
    simp [execOp, ho, hx, hy, hr]
  rw [e]
  exact ⟨rfl, Below.refl _ _⟩
theorem ne_texts (W : World) (s t : ByteArray) (b : Bool) (h : (s.toList == t.toList) = !b) : (binOp .neq 9 (.string s) (.string t)).run Tryz.prog W = .ok (.bool b) W := by
  rw [binOp_string_neq, h]
  simp
theorem ne_int (W : World) (a b : Int) (r : Bool) (h : (a != b) = r) : (binOp .neq 3 (.int .i64 a) (.int .i64 b)).run Tryz.prog W = .ok (.bool r) W := by
  subst h; go_simp
theorem eq_int (W : World) (a b : Int) (r : Bool) (h : (a == b) = r) : (binOp .eql 3 (.int .i64 a) (.int .i64 b)).run Tryz.prog W = .ok (.bool r) W := by
  subst h; go_simp
theorem lss_int (W : World) (a b : Int) (r : Bool) (h : decide (a < b) = r) : (binOp .lss 3 (.int .i64 a) (.int .i64 b)).run Tryz.prog W = .ok (.bool r) W := by
  subst h; go_simp
theorem gtr_int (W : World) (a b : Int) (r : Bool) (h : decide (b < a) = r) : (binOp .gtr 3 (.int .i64 a) (.int .i64 b)).run Tryz.prog W = .ok (.bool r) W := by
  subst h; go_simp
theorem ne_u8 (W : World) (a b : UInt8) (r : Bool) (h : (a != b) = r) : (binOp .neq 5 (.int .u8 (a.toNat : Int)) (.int .u8 (b.toNat : Int))).run Tryz.prog W = .ok (.bool r) W := by
  have e : ((a.toNat : Int) != (b.toNat : Int)) = r := by
    rw [← h]
    by_cases hab : a = b
    · subst hab; simp
    · have : a.toNat ≠ b.toNat := fun hh => hab (UInt8.toNat_inj.1 hh)
      rw [bne_iff_ne (a := a) (b := b) |>.2 hab]
      simp; omega
  subst e; go_simp
theorem mul_int (W : World) (a b : Int) (h : -9223372036854775808 ≤ a * b ∧ a * b ≤ 9223372036854775807) : (binOp .mul 3 (.int .i64 a) (.int .i64 b)).run Tryz.prog W = .ok (.int .i64 (a * b)) W := by
  have e : IntKind.i64.wrap (a * b) = a * b := by rw [IntKind.wrap_i64]; omega
  go_simp
theorem add_int (W : World) (a b : Int) (h : -9223372036854775808 ≤ a + b ∧ a + b ≤ 9223372036854775807) : (binOp .add 3 (.int .i64 a) (.int .i64 b)).run Tryz.prog W = .ok (.int .i64 (a + b)) W := by
  have e : IntKind.i64.wrap (a + b) = a + b := by rw [IntKind.wrap_i64]; omega
  go_simp
theorem sub_int (W : World) (a b : Int) (h : -9223372036854775808 ≤ a - b ∧ a - b ≤ 9223372036854775807) : (binOp .sub 3 (.int .i64 a) (.int .i64 b)).run Tryz.prog W = .ok (.int .i64 (a - b)) W := by
  have e : IntKind.i64.wrap (a - b) = a - b := by rw [IntKind.wrap_i64]; omega
  go_simp
end Go.Proofs.YtehnhjnkbclnlaaGreatDoor

namespace Go.Proofs.YtehnhjnkbclnlaaGreatDoor.Plain
/-- of eight sectors: what is kept is full of Lk, what was written last is full of La -/
structure KR (d : Dv) (k : Nat) (Lk La : Nat → UInt8) : Prop where
  ok : d.Ok
  n : d.n = 8
  done : d.done ≤ k
  kept : ∀ i, i < 8 → d.kept i = full (Lk i)
  sec : ∀ i, i < 8 → d.sec i = full (La i)
theorem KR.new : KR (Dv.new 8) 0 (fun _ => 0) (fun _ => 0) := ⟨Dv.new_ok 8 (by omega) (by omega), rfl, Nat.le_refl _, fun _ _ => rfl, fun _ _ => rfl⟩
theorem KR.more {d : Dv} {k m : Nat} {Lk La : Nat → UInt8} (h : KR d k Lk La) (hm : k ≤ m) : KR d m Lk La := ⟨h.ok, h.n, Nat.le_trans h.done hm, h.kept, h.sec⟩
theorem sec_of {d d' : Dv} (h1 : d'.kept = d.kept) (h2 : d'.wr = d.wr) (i : Nat) : d'.sec i = d.sec i := by unfold Dv.sec; rw [h1, h2]
theorem KR.begin {d : Dv} {k : Nat} {Lk La : Nat → UInt8} (h : KR d k Lk La) : KR d.begin.1 (k + 1) Lk La := by
  obtain ⟨e1, e2, e3, -⟩ := d.begin_same
  exact ⟨d.begin_ok h.ok, e1.trans h.n, Nat.le_trans d.begin_done (by have := h.done; omega), fun i hi => by rw [e2]; exact h.kept i hi, fun i hi => by rw [sec_of e2 e3]; exact h.sec i hi⟩
theorem KR.flush {d : Dv} {k : Nat} {Lk La : Nat → UInt8} (h : KR d k Lk La) : (d.flush.2 = 0 ∧ KR d.flush.1 (k + 1) La La) ∨ (d.flush.2 ≠ 0 ∧ KR d.flush.1 (k + 1) Lk La) := by
  have hok := d.flush_ok h.ok
  have hn := d.flush_n
  have hd := d.flush_done
  have h0 := h.done
  unfold Dv.flush at *
  by_cases hb : d.begin.2 ≠ 0
  · rw [if_pos hb]
    exact .inr ⟨hb, h.begin⟩
  · rw [if_neg hb] at *
    exact .inl ⟨rfl, hok, hn.trans h.n, by omega, fun i hi => h.sec i hi, fun i hi => h.sec i hi⟩
theorem KR.cutAt {d : Dv} {k : Nat} {Lk La : Nat → UInt8} (h : KR d k Lk La) (a : Int) (ha : a ≤ 9223372036854775807) : KR (d.cutAt a) (k + 1) Lk La := by
  have hok := d.cutAt_ok h.ok a ha
  unfold Dv.cutAt at *
  split
  · rename_i h0
    rw [if_pos h0] at hok
    exact ⟨hok, h.n, Nat.le_succ_of_le h.done, h.kept, h.sec⟩
  · exact h.more (by omega)
theorem KR.write {d : Dv} {k : Nat} {Lk La : Nat → UInt8} (h : KR d k Lk La) (a : Int) (c : UInt8) : ((d.write a (full c)).2 = 0 ∧ ∃ i : Nat, a = i ∧ i < 8 ∧ KR (d.write a (full c)).1 (k + 1) Lk (upd La i c)) ∨ ((d.write a (full c)).2 ≠ 0 ∧ KR (d.write a (full c)).1 (k + 1) Lk La) := by
  have hok := d.write_ok h.ok a (full c)
  have hn := d.write_n a (full c)
  have hd := d.write_done a (full c)
  have h0 := h.done
  obtain ⟨e1, e2, e3, -⟩ := d.begin_same
  unfold Dv.write at *
  by_cases hh : d.has a = false ∨ (full c).length ≠ 64
  · rw [if_pos hh]
    exact .inr ⟨by simp, h.more (by omega)⟩
  · rw [if_neg hh] at *
    by_cases hb : d.begin.2 ≠ 0
    · rw [if_pos hb]
      exact .inr ⟨hb, h.begin⟩
    · rw [if_neg hb] at *
      have hi : 0 ≤ a ∧ a < d.n := (d.has_iff a).1 (by cases hq : d.has a <;> simp_all)
      rw [h.n] at hi
      obtain ⟨i, rfl⟩ := Int.eq_ofNat_of_zero_le hi.1
      refine .inl ⟨rfl, i, rfl, by omega, hok, hn.trans h.n, by omega, fun j hj => by show d.begin.1.kept j = _; rw [e2]; exact h.kept j hj, fun j hj => ?_⟩
      have := h.sec j hj
      unfold Dv.sec at this ⊢
      show ((upd d.wr (i : Int).toNat (some (full c))) j).getD (d.begin.1.kept j) = _
      rw [Int.toNat_natCast, e2]
      unfold upd
      split
      · rfl
      · exact this
/-- how many of the loose ones lie below -/
def Dv.cnt (d : Dv) (i : Nat) : Nat := ((List.range i).filter fun i => (d.wr i).isSome).length
theorem Dv.cnt_le (d : Dv) (i : Nat) : d.cnt i ≤ i := by
  have := List.length_filter_le (fun i => (d.wr i).isSome) (List.range i)
  rw [List.length_range] at this
  exact this
theorem Dv.cnt_all (d : Dv) : d.cnt d.n = d.loose.length := rfl
theorem Dv.cnt_succ (d : Dv) (i : Nat) : d.cnt (i + 1) = d.cnt i + if (d.wr i).isSome = true then 1 else 0 := by
  unfold Dv.cnt
  rw [List.range_succ, List.filter_append, List.length_append]
  congr 1
  rw [List.filter_cons]
  split <;> rfl
theorem Dv.cnt_at (d : Dv) (i : Nat) (hi : i < d.n) : d.loose[d.cnt i]? = some i ↔ (d.wr i).isSome = true := by
  obtain ⟨m, hm⟩ : ∃ m, d.n = i + (m + 1) := ⟨d.n - i - 1, by omega⟩
  unfold Dv.loose Dv.cnt
  rw [hm, List.range_add, List.filter_append, List.getElem?_append_right (Nat.le_refl _), Nat.sub_self, List.range_succ_eq_map, List.map_cons, List.filter_cons, Nat.add_zero]
  split
  · rename_i h
    simp [h]
  · rename_i h
    refine ⟨fun h2 => ?_, fun h2 => absurd h2 h⟩
    exfalso
    have h3 := List.mem_of_getElem? h2
    have h4 := (List.mem_filter.1 h3).1
    simp only [List.map_map, List.mem_map, Function.comp] at h4
    obtain ⟨j, _, hj⟩ := h4
    omega
theorem KR.loose {d : Dv} {k : Nat} {Lk La : Nat → UInt8} (h : KR d k Lk La) (keep : List Bool) (i : Nat) (hi : i < 8) (hs : (d.wr i).isSome = true) : (d.boot keep []).sec i = full (if keep.getD (d.cnt i) false = true then La i else Lk i) := by
  have hc := (d.cnt_at i (by rw [h.n]; exact hi)).2 hs
  have hl := (List.getElem?_eq_some_iff.1 hc).1
  show d.bk keep d.loose.length i = _
  rw [bk_spec]
  by_cases hk : keep.getD (d.cnt i) false = true
  · rw [if_pos ⟨_, hl, hc, hk⟩, if_pos hk]
    exact h.sec i hi
  · rw [if_neg, if_neg hk]
    · exact h.kept i hi
    · rintro ⟨j, h1, h2, h3⟩
      have := (List.getElem?_inj h1 d.loose_nodup).1 (h2.trans hc.symm)
      subst this
      exact hk h3
theorem KR.firm {d : Dv} {k : Nat} {Lk La : Nat → UInt8} (h : KR d k Lk La) (keep : List Bool) (i : Nat) (hi : i < 8) (hs : (d.wr i).isSome = false) : Lk i = La i ∧ (d.boot keep []).sec i = full (Lk i) := by
  have h1 : d.sec i = d.kept i := by
    unfold Dv.sec
    cases hw : d.wr i with
    | none => rfl
    | some s => rw [hw] at hs; cases hs
  refine ⟨full_inj (by rw [← h.kept i hi, ← h.sec i hi, h1]), ?_⟩
  show d.bk keep d.loose.length i = _
  rw [bk_spec, if_neg]
  · exact h.kept i hi
  · rintro ⟨j, _, h2, _⟩
    have := (d.loose_mem h.ok i).1 (List.mem_of_getElem? h2)
    rw [hs] at this
    cases this
theorem boot_loose (d : Dv) (keep : List Bool) (hurt : List Hu) : (d.boot keep hurt).loose = [] := by
  show ((List.range d.n).filter fun _ => false) = []
  simp
end Go.Proofs.YtehnhjnkbclnlaaGreatDoor.Plain

namespace Go.Proofs.YtehnhjnkbclnlaaGreatDoor
open Go.RowKit
set_option maxRecDepth 100000

/-- a row of bytes as a value -/
def row8 (La : Nat → UInt8) : List Value := [.int .u8 ((La 0).toNat : Int), .int .u8 ((La 1).toNat : Int), .int .u8 ((La 2).toNat : Int), .int .u8 ((La 3).toNat : Int), .int .u8 ((La 4).toNat : Int), .int .u8 ((La 5).toNat : Int), .int .u8 ((La 6).toNat : Int), .int .u8 ((La 7).toNat : Int)]
theorem row8_at (La : Nat → UInt8) (i : Nat) (hi : i < 8) : (row8 La)[i]? = some (.int .u8 ((La i).toNat : Int)) := by
  rcases lt8 hi with rfl | rfl | rfl | rfl | rfl | rfl | rfl | rfl <;> rfl
theorem late_bin {P : Program} {W : World} {a : Act} {o : Oper} {x y : Operand} {b : BinOp} {t yt : TypeId} {vx vy u : Value} {K : Act → World → Prop} {Q : Exit → Act → World → Prop} (ho : o.op = .binOp b t x y yt) (hx : a.eval x = vx) (hy : a.eval y = vy) (hg : eqGuard b t x y vx vy = pure ()) (hr : (binOp b t vx vy).run P W = .ok u W) (hK : K (a.put o.dst u) W) : o.wp P a W K Q := by
  unfold Oper.wp
  simp [execOp, ho, hx, hy, hg, hr, Result.andThen]
  exact hK
theorem eq_errno (W : World) (a b : Int) (r : Bool) (h : (a == b) = r) : (binOp .eql 39 (.int .i64 a) (.int .i64 b)).run Tryz.prog W = .ok (.bool r) W := by
  subst h; go_simp
theorem ne_errno (W : World) (a b : Int) (r : Bool) (h : (a != b) = r) : (binOp .neq 39 (.int .i64 a) (.int .i64 b)).run Tryz.prog W = .ok (.bool r) W := by
  subst h; go_simp
end Go.Proofs.YtehnhjnkbclnlaaGreatDoor
