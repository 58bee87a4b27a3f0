/-
  Layer 7's laws: what is kept and what was written last, of calls of all kinds. Nothing is assumed.
-/
import Derived.Test.YtldecmodhppjpaaLw9

namespace Go.Proofs.Ytldecmodhppjpaa.Plain
/-- of eight sectors: what is kept is full of Lk, what was written last is full of La -/
structure KR (d : Dv) (k : Nat) (Lk La : Nat → UInt8) : Prop where
  ok : d.Ok
  n : d.n = 8
  done : d.done ≤ k
  kept : ∀ i, i < 8 → d.kept i = full (Lk i)
  sec : ∀ i, i < 8 → d.sec i = full (La i)
theorem KR.new : KR (Dv.new 8) 0 (fun _ => 0) (fun _ => 0) := ⟨Dv.new_ok 8 (by omega) (by omega), rfl, Nat.le_refl _, fun _ _ => rfl, fun _ _ => rfl⟩
theorem KR.more {d : Dv} {k m : Nat} {Lk La : Nat → UInt8} (h : KR d k Lk La) (hm : k ≤ m) : KR d m Lk La := ⟨h.ok, h.n, Nat.le_trans h.done hm, h.kept, h.sec⟩
theorem sec_of {d d' : Dv} (h1 : d'.kept = d.kept) (h2 : d'.wr = d.wr) (i : Nat) : d'.sec i = d.sec i := by unfold Dv.sec; rw [h1, h2]
theorem KR.begin {d : Dv} {k : Nat} {Lk La : Nat → UInt8} (h : KR d k Lk La) : KR d.begin.1 (k + 1) Lk La := by
  obtain ⟨e1, e2, e3, -⟩ := d.begin_same
  exact ⟨d.begin_ok h.ok, e1.trans h.n, Nat.le_trans d.begin_done (by have := h.done; omega), fun i hi => by rw [e2]; exact h.kept i hi, fun i hi => by rw [sec_of e2 e3]; exact h.sec i hi⟩
theorem KR.flush {d : Dv} {k : Nat} {Lk La : Nat → UInt8} (h : KR d k Lk La) : (d.flush.2 = 0 ∧ KR d.flush.1 (k + 1) La La) ∨ (d.flush.2 ≠ 0 ∧ KR d.flush.1 (k + 1) Lk La) := by
  have hok := d.flush_ok h.ok
  have hn := d.flush_n
  have hd := d.flush_done
  have h0 := h.done
  unfold Dv.flush at *
  by_cases hb : d.begin.2 ≠ 0
  · rw [if_pos hb]
    exact .inr ⟨hb, h.begin⟩
  · rw [if_neg hb] at *
    exact .inl ⟨rfl, hok, hn.trans h.n, by omega, fun i hi => h.sec i hi, fun i hi => h.sec i hi⟩
theorem KR.cutAt {d : Dv} {k : Nat} {Lk La : Nat → UInt8} (h : KR d k Lk La) (a : Int) (ha : a ≤ 9223372036854775807) : KR (d.cutAt a) (k + 1) Lk La := by
  have hok := d.cutAt_ok h.ok a ha
  unfold Dv.cutAt at *
  split
  · rename_i h0
    rw [if_pos h0] at hok
    exact ⟨hok, h.n, Nat.le_succ_of_le h.done, h.kept, h.sec⟩
  · exact h.more (by omega)
theorem KR.write {d : Dv} {k : Nat} {Lk La : Nat → UInt8} (h : KR d k Lk La) (a : Int) (c : UInt8) : ((d.write a (full c)).2 = 0 ∧ ∃ i : Nat, a = i ∧ i < 8 ∧ KR (d.write a (full c)).1 (k + 1) Lk (upd La i c)) ∨ ((d.write a (full c)).2 ≠ 0 ∧ KR (d.write a (full c)).1 (k + 1) Lk La) := by
  have hok := d.write_ok h.ok a (full c)
  have hn := d.write_n a (full c)
  have hd := d.write_done a (full c)
  have h0 := h.done
  obtain ⟨e1, e2, e3, -⟩ := d.begin_same
  unfold Dv.write at *
  by_cases hh : d.has a = false ∨ (full c).length ≠ 64
  · rw [if_pos hh]
    exact .inr ⟨by simp, h.more (by omega)⟩
  · rw [if_neg hh] at *
    by_cases hb : d.begin.2 ≠ 0
    · rw [if_pos hb]
      exact .inr ⟨hb, h.begin⟩
    · rw [if_neg hb] at *
      have hi : 0 ≤ a ∧ a < d.n := (d.has_iff a).1 (by cases hq : d.has a <;> simp_all)
      rw [h.n] at hi
      obtain ⟨i, rfl⟩ := Int.eq_ofNat_of_zero_le hi.1
      refine .inl ⟨rfl, i, rfl, by omega, hok, hn.trans h.n, by omega, fun j hj => by show d.begin.1.kept j = _; rw [e2]; exact h.kept j hj, fun j hj => ?_⟩
      have := h.sec j hj
      unfold Dv.sec at this ⊢
      show ((upd d.wr (i : Int).toNat (some (full c))) j).getD (d.begin.1.kept j) = _
      rw [Int.toNat_natCast, e2]
      unfold upd
      split
      · rfl
      · exact this
/-- how many of the loose ones lie below -/
def Dv.cnt (d : Dv) (i : Nat) : Nat := ((List.range i).filter fun i => (d.wr i).isSome).length
theorem Dv.cnt_le (d : Dv) (i : Nat) : d.cnt i ≤ i := by
  have := List.length_filter_le (fun i => (d.wr i).isSome) (List.range i)
  rw [List.length_range] at this
  exact this
theorem Dv.cnt_all (d : Dv) : d.cnt d.n = d.loose.length := rfl
theorem Dv.cnt_succ (d : Dv) (i : Nat) : d.cnt (i + 1) = d.cnt i + if (d.wr i).isSome = true then 1 else 0 := by
  unfold Dv.cnt
  rw [List.range_succ, List.filter_append, List.length_append]
  congr 1
  rw [List.filter_cons]
  split <;> rfl
theorem Dv.cnt_at (d : Dv) (i : Nat) (hi : i < d.n) : d.loose[d.cnt i]? = some i ↔ (d.wr i).isSome = true := by
  obtain ⟨m, hm⟩ : ∃ m, d.n = i + (m + 1) := ⟨d.n - i - 1, by omega⟩
  unfold Dv.loose Dv.cnt
  rw [hm, List.range_add, List.filter_append, List.getElem?_append_right (Nat.le_refl _), Nat.sub_self, List.range_succ_eq_map, List.map_cons, List.filter_cons, Nat.add_zero]
  split
  · rename_i h
    simp [h]
  · rename_i h
    refine ⟨fun h2 => ?_, fun h2 => absurd h2 h⟩
    exfalso
    have h3 := List.mem_of_getElem? h2
    have h4 := (List.mem_filter.1 h3).1
    simp only [List.map_map, List.mem_map, Function.comp] at h4
    obtain ⟨j, _, hj⟩ := h4
    omega
theorem KR.loose {d : Dv} {k : Nat} {Lk La : Nat → UInt8} (h : KR d k Lk La) (keep : List Bool) (i : Nat) (hi : i < 8) (hs : (d.wr i).isSome = true) : (d.boot keep []).sec i = full (if keep.getD (d.cnt i) false = true then La i else Lk i) := by
  have hc := (d.cnt_at i (by rw [h.n]; exact hi)).2 hs
  have hl := (List.getElem?_eq_some_iff.1 hc).1
  show d.bk keep d.loose.length i = _
  rw [bk_spec]
  by_cases hk : keep.getD (d.cnt i) false = true
  · rw [if_pos ⟨_, hl, hc, hk⟩, if_pos hk]
    exact h.sec i hi
  · rw [if_neg, if_neg hk]
    · exact h.kept i hi
    · rintro ⟨j, h1, h2, h3⟩
      have := (List.getElem?_inj h1 d.loose_nodup).1 (h2.trans hc.symm)
      subst this
      exact hk h3
theorem KR.firm {d : Dv} {k : Nat} {Lk La : Nat → UInt8} (h : KR d k Lk La) (keep : List Bool) (i : Nat) (hi : i < 8) (hs : (d.wr i).isSome = false) : Lk i = La i ∧ (d.boot keep []).sec i = full (Lk i) := by
  have h1 : d.sec i = d.kept i := by
    unfold Dv.sec
    cases hw : d.wr i with
    | none => rfl
    | some s => rw [hw] at hs; cases hs
  refine ⟨full_inj (by rw [← h.kept i hi, ← h.sec i hi, h1]), ?_⟩
  show d.bk keep d.loose.length i = _
  rw [bk_spec, if_neg]
  · exact h.kept i hi
  · rintro ⟨j, _, h2, _⟩
    have := (d.loose_mem h.ok i).1 (List.mem_of_getElem? h2)
    rw [hs] at this
    cases this
theorem boot_loose (d : Dv) (keep : List Bool) (hurt : List Hu) : (d.boot keep hurt).loose = [] := by
  show ((List.range d.n).filter fun _ => false) = []
  simp
end Go.Proofs.Ytldecmodhppjpaa.Plain

namespace Go.Proofs.Ytldecmodhppjpaa
open Go.RowKit
set_option maxRecDepth 100000

/-- a row of bytes as a value -/
def row8 (La : Nat → UInt8) : List Value := [.int .u8 ((La 0).toNat : Int), .int .u8 ((La 1).toNat : Int), .int .u8 ((La 2).toNat : Int), .int .u8 ((La 3).toNat : Int), .int .u8 ((La 4).toNat : Int), .int .u8 ((La 5).toNat : Int), .int .u8 ((La 6).toNat : Int), .int .u8 ((La 7).toNat : Int)]
theorem row8_at (La : Nat → UInt8) (i : Nat) (hi : i < 8) : (row8 La)[i]? = some (.int .u8 ((La i).toNat : Int)) := by
  rcases lt8 hi with rfl | rfl | rfl | rfl | rfl | rfl | rfl | rfl <;> rfl
theorem Row8.eq {w : World} {q : Nat} {La : Nat → UInt8} (h : Row8 w q La) : Blk w q (row8 La).toArray 47 := by
  obtain ⟨cs, h1, h2, h3⟩ := h
  have e : cs = (row8 La).toArray := by
    apply Array.ext_getElem?
    intro i
    by_cases hi : i < 8
    · rw [h3 i hi, List.getElem?_toArray, row8_at La i hi]
    · rw [Array.getElem?_eq_none (by omega), Array.getElem?_eq_none (by show (row8 La).length ≤ i; show 8 ≤ i; omega)]
  rwa [e] at h1
theorem Row8.of {w : World} {q : Nat} {La : Nat → UInt8} (h : Blk w q (row8 La).toArray 47) : Row8 w q La :=
  ⟨_, h, rfl, fun i hi => by rw [List.getElem?_toArray, row8_at La i hi]⟩
theorem run_load8 (W : World) (q : Nat) (La : Nat → UInt8) (h : Row8 W q La) : (Instr.loadAt 47 (.pointer (some ⟨q, 0, none⟩))).run Try.prog W = .ok (.agg (row8 La).toArray) W :=
  run_loadAt_mid W q 0 _ (row8 La) _ (fun j v hv => by rw [Nat.zero_add, h.eq.cell]; simpa using hv) Try.underlying47 rfl (by kernel_rfl)
theorem run_store8 (W : World) (q : Nat) (Lk La : Nat → UInt8) (h : Row8 W q Lk) : ∃ W', (Instr.storeAt 47 (.pointer (some ⟨q, 0, none⟩)) (.agg (row8 La).toArray)).run Try.prog W = .ok () W' ∧ Row8 W' q La ∧ Kept [q] W W' := by
  have hb := h.eq
  have := run_storeAt_mid (P := Try.prog) W q 0 47 (row8 La).toArray (fun j hj => by
    have hj8 : j < 8 := hj
    rw [Nat.zero_add, hb.cell, List.getElem?_toArray, row8_at Lk j hj8]
    exact ⟨rfl, hb.frozen j⟩) (by kernel_rfl) (by
    rw [Array.all_eq_true']; intro u hu; simp only [row8, List.mem_toArray, List.mem_cons, List.not_mem_nil, or_false] at hu; rcases hu with rfl | rfl | rfl | rfl | rfl | rfl | rfl | rfl <;> rfl)
  refine ⟨_, this, ?_, (Kept.refl _ _).setCells (by simp) _ _⟩
  obtain ⟨cs, e1, e2, e3⟩ := (((((((h.set (i := 0) (by omega) (La 0)).set (i := 1) (by omega) (La 1)).set (i := 2) (by omega) (La 2)).set (i := 3) (by omega) (La 3)).set (i := 4) (by omega) (La 4)).set (i := 5) (by omega) (La 5)).set (i := 6) (by omega) (La 6)).set (i := 7) (by omega) (La 7)
  refine ⟨cs, e1, e2, fun i hi => ?_⟩
  rw [e3 i hi]
  rcases lt8 hi with rfl | rfl | rfl | rfl | rfl | rfl | rfl | rfl <;> rfl
theorem wpList_load8 {w : World} {ops : Array Oper} {rest : List Oper} {o : Oper} {a : Act} {Q : Exit → Act → World → Prop} (hg : o.guard = none) (x : Operand) (ho : o.op = .load 47 x) (q : Nat) (hx : a.eval x = .pointer (some ⟨q, 0, none⟩))
    (La : Nat → UInt8) (hr : Row8 w q La) (hK : wpList Try.prog ops Q rest (a.put o.dst (.agg (row8 La).toArray)) w) : wpList Try.prog ops Q (o :: rest) a w := by
  refine wpList_plain hg fun K hK' => ?_
  have hr := run_load8 w q La hr
  unfold Oper.wp
  simp [execOp, ho, hx, hr, Result.andThen]
  exact hK' _ _ hK
theorem wpList_store8 {w : World} {ops : Array Oper} {rest : List Oper} {o : Oper} {a : Act} {Q : Exit → Act → World → Prop} (hg : o.guard = none) (x y : Operand) (ho : o.op = .store 47 x y) (q : Nat) (hx : a.eval x = .pointer (some ⟨q, 0, none⟩))
    (Lk La : Nat → UInt8) (hy : a.eval y = .agg (row8 La).toArray) (h : Row8 w q Lk)
    (hK : ∀ w2, Row8 w2 q La → Kept [q] w w2 → wpList Try.prog ops Q rest (a.put o.dst undef) w2) : wpList Try.prog ops Q (o :: rest) a w := by
  refine wpList_plain hg fun K hK' => ?_
  obtain ⟨w2, hr, h1, h2⟩ := run_store8 w q Lk La h
  unfold Oper.wp
  simp [execOp, ho, hx, hy, hr, Result.andThen]
  exact hK' _ _ (hK _ h1 h2)
theorem late_bin {P : Program} {W : World} {a : Act} {o : Oper} {x y : Operand} {b : BinOp} {t yt : TypeId} {vx vy u : Value} {K : Act → World → Prop} {Q : Exit → Act → World → Prop} (ho : o.op = .binOp b t x y yt) (hx : a.eval x = vx) (hy : a.eval y = vy) (hg : eqGuard b t x y vx vy = pure ()) (hr : (binOp b t vx vy).run P W = .ok u W) (hK : K (a.put o.dst u) W) : o.wp P a W K Q := by
  unfold Oper.wp
  simp [execOp, ho, hx, hy, hg, hr, Result.andThen]
  exact hK
theorem eq_errno (W : World) (a b : Int) (r : Bool) (h : (a == b) = r) : (binOp .eql 34 (.int .i64 a) (.int .i64 b)).run Try.prog W = .ok (.bool r) W := by
  subst h; go_simp
theorem ne_errno (W : World) (a b : Int) (r : Bool) (h : (a != b) = r) : (binOp .neq 34 (.int .i64 a) (.int .i64 b)).run Try.prog W = .ok (.bool r) W := by
  subst h; go_simp
end Go.Proofs.Ytldecmodhppjpaa
