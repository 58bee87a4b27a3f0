/-
  Sectors (arrays of 64 bytes), whatever type they are of: as values, in a block of their own, or within one; what is stored whole. Nothing is assumed.
-/
import Derived.Test.YtgicjdlpkphfnaaGen
import Derived.Deep.MidRow
import Derived.Laws.Cover3

namespace Go.Proofs.Ytgicjdlpkphfnaa
open Go.RowKit
set_option maxRecDepth 100000

theorem cells_inj {a b : List UInt8} (h : cells a = cells b) : a = b := by
  unfold cells at h
  refine List.map_inj_right (fun x y e => ?_) |>.1 h
  simp only [Value.int.injEq, true_and] at e
  exact UInt8.toNat_inj.1 (by omega)
/-- a sector as a value -/
def secV (s : List UInt8) : Value := .agg (cells s).toArray
theorem secV_inj {a b : List UInt8} (h : secV a = secV b) : a = b := by
  unfold secV at h
  injection h with h
  exact cells_inj (by simpa using h)
theorem cells_one' (s : List UInt8) : (cells s).toArray.all (·.oneCell') = true := all_oneCell_toArray (cells_one s)
theorem rangeAt_block {w w' : World} {b o : Nat} {cs : List Value} (h : w.rangeAt b o cs) (e : w'.heap[b]? = w.heap[b]?) : w'.rangeAt b o cs := fun j v hv => (World.cell?_of_block (a := ⟨b, o + j, none⟩) e).trans (h j v hv)
theorem setCells_other (b : Nat) : ∀ (vs : List Value) (o : Nat) (w : World) (k : Nat), k ≠ b → (w.setCells b o vs).heap[k]? = w.heap[k]?
  | [], _, _, _, _ => rfl
  | v :: r, o, w, k, h => by
    rw [World.setCells, setCells_other b r (o + 1) _ k h]
    exact Below.heap_setCell w ⟨b, o, none⟩ v k h
theorem setCells_size (b : Nat) : ∀ (vs : List Value) (o : Nat) (w : World), (w.setCells b o vs).heap.size = w.heap.size
  | [], _, _ => rfl
  | v :: r, o, w => by rw [World.setCells, setCells_size b r (o + 1)]; simp
theorem setCells_rest (b : Nat) : ∀ (vs : List Value) (o : Nat) (w : World), (w.setCells b o vs).os = w.os ∧ (w.setCells b o vs).tape = w.tape ∧ (w.setCells b o vs).output = w.output
  | [], _, _ => ⟨rfl, rfl, rfl⟩
  | v :: r, o, w => by rw [World.setCells]; exact setCells_rest b r (o + 1) _
theorem Blk.setCells {g : Nat} {t : TypeId} : ∀ (vs : List Value) (o : Nat) {w : World} {cs : Array Value}, Blk w g cs t → ∃ cs', Blk (w.setCells g o vs) g cs' t ∧ cs'.size = cs.size
  | [], _, _, cs, h => ⟨cs, h, rfl⟩
  | v :: r, o, w, cs, h => by
    obtain ⟨cs', h1, h2⟩ := Blk.setCells r (o + 1) (h.set o v)
    exact ⟨cs', h1, by rw [h2]; simp⟩
theorem Kept.setCells {S : List Nat} {a b : World} (h : Kept S a b) {g : Nat} (hg : g ∈ S) (o : Nat) (vs : List Value) : Kept S a (b.setCells g o vs) :=
  h.trans ⟨(setCells_rest g vs o b).1, (setCells_rest g vs o b).2.1, (setCells_rest g vs o b).2.2, by rw [setCells_size]; exact Nat.le_refl _, fun i _ hn => setCells_other g vs o b i fun e => hn (e ▸ hg)⟩
theorem Kept.grown {S : List Nat} {a b c : World} (h : Kept S a b) {g : Nat} (k : b.grownBy c (some g)) (hg : g ∈ S) : Kept S a c :=
  h.trans ⟨k.os, k.tape, k.output, k.size, fun i hi hn => k.block i hi fun e => hn (by cases e; exact hg)⟩
theorem Kept.many {S : List Nat} {a b : World} (h : Kept S a b) (n : Nat) : Kept S a (b.drewN n) := ⟨h.os, h.tape, h.output, h.size, h.block⟩
theorem Kept.one {S : List Nat} {a b : World} (h : Kept S a b) : Kept S a b.drew := ⟨h.os, h.tape, h.output, h.size, h.block⟩

theorem Blk.whole {w : World} {b : Nat} {cs : Array Value} {t : TypeId} {s : List UInt8} (h : Blk w b cs t) (hc : cs.size = 64) (hs : s.length = 64) : Blk (w.setCells b 0 (cells s)) b (cells s).toArray t := by
  obtain ⟨cs', h1, h2⟩ := h.setCells (cells s) 0
  have hth : w.there b 0 (cells s).length := fun j hj => by
    rw [cells_length, hs] at hj
    refine ⟨?_, h.frozen _⟩
    rw [h.cell]
    simp
    omega
  have hr := World.rangeAt_setCells_same w b 0 (cells s) hth
  have e : cs' = (cells s).toArray := by
    apply Array.ext_getElem?
    intro j
    rcases Nat.lt_or_ge j 64 with hj | hj
    · have hj2 : j < (cells s).length := by rw [cells_length, hs]; exact hj
      have := hr j _ (List.getElem?_eq_getElem hj2)
      rw [h1.cell, Nat.zero_add] at this
      rw [this]
      simp [hj2]
    · rw [Array.getElem?_eq_none (by omega), Array.getElem?_eq_none (by simp [cells_length, hs]; exact hj)]
  rw [← e]
  exact h1

theorem undrew {a b : World} (h : Below a.drew.heap.size a.drew b) : Below a.heap.size a b := ⟨h.os, h.tape, h.output, h.size, h.block⟩
theorem soft_call3 {P : Program} {w : World} {F : Fact} {ρ : Operand → Value} {o : Oper} {x y z : Operand} {f : FuncId} {ats : Array TypeId} {vx vy vz : Value} {R : Ending → World → Prop}
    (hf : ∀ f, ρ (.func f) = .func (.func f) #[] #[]) (hx : ρ x = vx) (hy : ρ y = vy) (hz : ρ z = vz) (hc : Calls P f #[vx, vy, vz] w R) (ho : o.op = .call { callee := .value (.func f), args := #[x, y, z], argTypes := ats })
    (hfn : (P.funcs[f]?).map (fun fn => (fn.name == "runtime.NumGoroutine", fn.body.isNone)) = some (false, false)) (hR : ∀ e w', R e w' → ∃ v, e = .returned v ∧ F.φ v w' ∧ Below w.heap.size w w') : softUpon P w F ((execOp ρ o).run P w) := by
  have e : (execOp ρ o).run P w = .ok (.enter f #[vx, vy, vz]) w := by
    simp [execOp, ho, resolve, invoke, hf, hx, hy, hz, Deferred.ofValue, go_sem, enters hfn]
  rw [e]
  exact ⟨rfl, hc.mono hR⟩

/-- a sector of 0 alone -/
def zeros64 : List UInt8 := List.replicate 64 0
theorem zeros64_length : zeros64.length = 64 := by simp [zeros64]
/-- a type of 64 bytes -/
structure Sec64 (t : TypeId) : Prop where
  row : ∃ d, Try.prog.underlying t = some d ∧ d.isRow = true
  size : (Try.prog.info? t).map (·.size) = some 64
  zero : ∀ w, (zeroValue t).run Try.prog w = .ok (secV (zeros64)) w
section
variable {t : TypeId}
theorem Sec64.load (ht : Sec64 t) (w : World) (b o : Nat) (s : List UInt8) (hs : s.length = 64) (h : w.rangeAt b o (cells s)) : (Instr.loadAt t (.pointer (some ⟨b, o, none⟩))).run Try.prog w = .ok (secV s) w := by
  obtain ⟨d, h1, h2⟩ := ht.row
  exact run_loadAt_mid w b o _ (cells s) d h h1 h2 (by rw [ht.size, cells_length, hs])
theorem Sec64.store (ht : Sec64 t) (w : World) (b o : Nat) (s : List UInt8) (hs : s.length = 64) (h : w.there b o 64) : (Instr.storeAt t (.pointer (some ⟨b, o, none⟩)) (secV s)).run Try.prog w = .ok () (w.setCells b o (cells s)) := by
  have := run_storeAt_mid (P := Try.prog) w b o t (cells s).toArray (by simpa [cells_length, hs] using h) (by rw [ht.size]; simp [cells_length, hs]) (cells_one' s)
  simpa [secV] using this
theorem Blk.range {w : World} {g : Nat} {s : List UInt8} {u : TypeId} (h : Blk w g (cells s).toArray u) : w.rangeAt g 0 (cells s) := fun j v hv => by
  rw [h.cell, Nat.zero_add]
  simpa using hv
theorem Blk.there64 {w : World} {g : Nat} {cs : Array Value} {u : TypeId} (h : Blk w g cs u) (hc : cs.size = 64) : w.there g 0 64 := fun j hj => by
  refine ⟨?_, h.frozen _⟩
  rw [h.cell]
  simp
  omega
theorem cells_size (s : List UInt8) : (cells s).toArray.size = s.length := by simp [cells]

theorem wpList_sec_alloc {w : World} {ops : Array Oper} {rest : List Oper} {o : Oper} {a : Act} {Q : Exit → Act → World → Prop} (ht : Sec64 t) (hg : o.guard = none) (ho : o.op = .alloc t)
    (hK : ∀ w2, Blk w2 w.heap.size (cells (zeros64)).toArray t → Below w.heap.size w w2 → w2.heap.size = w.heap.size + 1 → wpList Try.prog ops Q rest (a.put o.dst (.pointer (some ⟨w.heap.size, 0, none⟩))) w2) : wpList Try.prog ops Q (o :: rest) a w := by
  refine wpList_plain hg fun K hK' => ?_
  have hr : (execOp a.eval o).run Try.prog w = .ok (.value (.pointer (some ⟨w.heap.size, 0, none⟩))) (w.alloc (.cells (cells (zeros64)).toArray t)) := by
    simp only [execOp, ho, Instr.alloc]
    simp [ht.zero w, secV, Value.cells, newVar, newRow, Result.andThen]
  unfold Oper.wp
  rw [hr]
  exact hK' _ _ (hK _ (Blk.new w _ _) ((Below.refl _ _).alloc (Nat.le_refl _) _) (by simp))
theorem wpList_sec_store {w : World} {ops : Array Oper} {rest : List Oper} {o : Oper} {a : Act} {Q : Exit → Act → World → Prop} (ht : Sec64 t) (hg : o.guard = none) (x y : Operand) (ho : o.op = .store t x y) (b : Nat) (hx : a.eval x = .pointer (some ⟨b, 0, none⟩))
    (s : List UInt8) (hs : s.length = 64) (hy : a.eval y = secV s) (cs : Array Value) (hc : cs.size = 64) {u : TypeId} (hb : Blk w b cs u)
    (hK : ∀ w2, Blk w2 b (cells s).toArray u → Kept [b] w w2 → w2.heap.size = w.heap.size → wpList Try.prog ops Q rest (a.put o.dst undef) w2) : wpList Try.prog ops Q (o :: rest) a w := by
  refine wpList_plain hg fun K hK' => ?_
  have hr := ht.store w b 0 s hs (hb.there64 hc)
  unfold Oper.wp
  simp [execOp, ho, hx, hy, hr, Result.andThen]
  exact hK' _ _ (hK _ (hb.whole hc hs) ((Kept.refl _ _).setCells (by simp) _ _) (setCells_size ..))
theorem wpList_sec_load {w : World} {ops : Array Oper} {rest : List Oper} {o : Oper} {a : Act} {Q : Exit → Act → World → Prop} (ht : Sec64 t) (hg : o.guard = none) (x : Operand) (ho : o.op = .load t x) (b k : Nat) (hx : a.eval x = .pointer (some ⟨b, k, none⟩))
    (s : List UInt8) (hs : s.length = 64) (h : w.rangeAt b k (cells s)) (hK : wpList Try.prog ops Q rest (a.put o.dst (secV s)) w) : wpList Try.prog ops Q (o :: rest) a w := by
  refine wpList_plain hg fun K hK' => ?_
  have hr := ht.load w b k s hs h
  unfold Oper.wp
  simp [execOp, ho, hx, hr, Result.andThen]
  exact hK' _ _ hK
end

theorem zeros_u8 (m : Nat) : Builtin.zeroCells #[.int .u8 0] m = (List.replicate m (.int .u8 0)).toArray := by
  apply Array.ext
  · simp [Builtin.zeroCells]
  · intro i h1 h2
    simp [Builtin.zeroCells, Nat.mod_one]
end Go.Proofs.Ytgicjdlpkphfnaa
