/-
  Sectors (arrays of 64 bytes), whatever type they are of: as values, in a block of their own, or within one; what is stored whole. Nothing is assumed.
-/
import Derived.Test.YtehnhjnkbclnlaaGreatDoorGen
import Derived.Deep.MidRow
import Derived.Laws.Cover3

namespace Go.Proofs.YtehnhjnkbclnlaaGreatDoor
open Go.RowKit
set_option maxRecDepth 100000

theorem cells_inj {a b : List UInt8} (h : cells a = cells b) : a = b := by
  unfold cells at h
  refine List.map_inj_right (fun x y e => ?_) |>.1 h
  simp only [Value.int.injEq, true_and] at e
  exact UInt8.toNat_inj.1 (by omega)
/-- a sector as a value -/
def secV (s : List UInt8) : Value := .agg (cells s).toArray
theorem secV_inj {a b : List UInt8} (h : secV a = secV b) : a = b := by
  unfold secV at h
  injection h with h
  exact cells_inj (by simpa using h)
theorem cells_one' (s : List UInt8) : (cells s).toArray.all (·.oneCell') = true := all_oneCell_toArray (cells_one s)
theorem rangeAt_block {w w' : World} {b o : Nat} {cs : List Value} (h : w.rangeAt b o cs) (e : w'.heap[b]? = w.heap[b]?) : w'.rangeAt b o cs := fun j v hv => (World.cell?_of_block (a := ⟨b, o + j, none⟩) e).trans (h j v hv)
theorem setCells_other (b : Nat) : ∀ (vs : List Value) (o : Nat) (w : World) (k : Nat), k ≠ b → (w.setCells b o vs).heap[k]? = w.heap[k]?
  | [], _, _, _, _ => rfl
  | v :: r, o, w, k, h => by
    rw [World.setCells, setCells_other b r (o + 1) _ k h]
    exact Below.heap_setCell w ⟨b, o, none⟩ v k h
theorem setCells_size (b : Nat) : ∀ (vs : List Value) (o : Nat) (w : World), (w.setCells b o vs).heap.size = w.heap.size
  | [], _, _ => rfl
  | v :: r, o, w => by rw [World.setCells, setCells_size b r (o + 1)]; simp
theorem setCells_rest (b : Nat) : ∀ (vs : List Value) (o : Nat) (w : World), (w.setCells b o vs).os = w.os ∧ (w.setCells b o vs).tape = w.tape ∧ (w.setCells b o vs).output = w.output
  | [], _, _ => ⟨rfl, rfl, rfl⟩
  | v :: r, o, w => by rw [World.setCells]; exact setCells_rest b r (o + 1) _
theorem Blk.setCells {g : Nat} {t : TypeId} : ∀ (vs : List Value) (o : Nat) {w : World} {cs : Array Value}, Blk w g cs t → ∃ cs', Blk (w.setCells g o vs) g cs' t ∧ cs'.size = cs.size
  | [], _, _, cs, h => ⟨cs, h, rfl⟩
  | v :: r, o, w, cs, h => by
    obtain ⟨cs', h1, h2⟩ := Blk.setCells r (o + 1) (h.set o v)
    exact ⟨cs', h1, by rw [h2]; simp⟩
theorem Kept.setCells {S : List Nat} {a b : World} (h : Kept S a b) {g : Nat} (hg : g ∈ S) (o : Nat) (vs : List Value) : Kept S a (b.setCells g o vs) :=
  h.trans ⟨(setCells_rest g vs o b).1, (setCells_rest g vs o b).2.1, (setCells_rest g vs o b).2.2, by rw [setCells_size]; exact Nat.le_refl _, fun i _ hn => setCells_other g vs o b i fun e => hn (e ▸ hg)⟩
theorem Kept.grown {S : List Nat} {a b c : World} (h : Kept S a b) {g : Nat} (k : b.grownBy c (some g)) (hg : g ∈ S) : Kept S a c :=
  h.trans ⟨k.os, k.tape, k.output, k.size, fun i hi hn => k.block i hi fun e => hn (by cases e; exact hg)⟩
theorem Kept.many {S : List Nat} {a b : World} (h : Kept S a b) (n : Nat) : Kept S a (b.drewN n) := ⟨h.os, h.tape, h.output, h.size, h.block⟩
theorem Kept.one {S : List Nat} {a b : World} (h : Kept S a b) : Kept S a b.drew := ⟨h.os, h.tape, h.output, h.size, h.block⟩

theorem Blk.whole {w : World} {b : Nat} {cs : Array Value} {t : TypeId} {s : List UInt8} (h : Blk w b cs t) (hc : cs.size = 64) (hs : s.length = 64) : Blk (w.setCells b 0 (cells s)) b (cells s).toArray t := by
  obtain ⟨cs', h1, h2⟩ := h.setCells (cells s) 0
  have hth : w.there b 0 (cells s).length := fun j hj => by
    rw [cells_length, hs] at hj
    refine ⟨?_, h.frozen _⟩
    rw [h.cell]
    simp
    omega
  have hr := World.rangeAt_setCells_same w b 0 (cells s) hth
  have e : cs' = (cells s).toArray := by
    apply Array.ext_getElem?
    intro j
    rcases Nat.lt_or_ge j 64 with hj | hj
    · have hj2 : j < (cells s).length := by rw [cells_length, hs]; exact hj
      have := hr j _ (List.getElem?_eq_getElem hj2)
      rw [h1.cell, Nat.zero_add] at this
      rw [this]
      simp [hj2]
    · rw [Array.getElem?_eq_none (by omega), Array.getElem?_eq_none (by simp [cells_length, hs]; exact hj)]
  rw [← e]
  exact h1

theorem undrew {a b : World} (h : Below a.drew.heap.size a.drew b) : Below a.heap.size a b := ⟨h.os, h.tape, h.output, h.size, h.block⟩
theorem soft_call3 {P : Program} {w : World} {F : Fact} {ρ : Operand → Value} {o : Oper} {x y z : Operand} {f : FuncId} {ats : Array TypeId} {vx vy vz : Value} {R : Ending → World → Prop}
    (hf : ∀ f, ρ (.func f) = .func (.func f) #[] #[]) (hx : ρ x = vx) (hy : ρ y = vy) (hz : ρ z = vz) (hc : Calls P f #[vx, vy, vz] w R) (ho : o.op = .call { callee := .value (.func f), args := #[x, y, z], argTypes := ats })
    (hfn : (P.funcs[f]?).map (fun fn => (fn.name == "runtime.NumGoroutine", fn.body.isNone)) = some (false, false)) (hR : ∀ e w', R e w' → ∃ v, e = .returned v ∧ F.φ v w' ∧ Below w.heap.size w w') : softUpon P w F ((execOp ρ o).run P w) := by
  have e : (execOp ρ o).run P w = .ok (.enter f #[vx, vy, vz]) w := by
    simp [execOp, ho, resolve, invoke, hf, hx, hy, hz, Deferred.ofValue, go_sem, enters hfn]
  rw [e]
  exact ⟨rfl, hc.mono hR⟩

/-- a sector of 0 alone -/
def zeros64 : List UInt8 := List.replicate 64 0
theorem zeros64_length : zeros64.length = 64 := by simp [zeros64]
/-- a type of 64 bytes -/
structure Sec64 (t : TypeId) : Prop where
  row : ∃ d, Tryz.prog.underlying t = some d ∧ d.isRow = true
  size : (Tryz.prog.info? t).map (·.size) = some 64
  zero : ∀ w, (zeroValue t).run Tryz.prog w = .ok (secV (zeros64)) w
section
variable {t : TypeId}
theorem Sec64.load (ht : Sec64 t) (w : World) (b o : Nat) (s : List UInt8) (hs : s.length = 64) (h : w.rangeAt b o (cells s)) : (Instr.loadAt t (.pointer (some ⟨b, o, none⟩))).run Tryz.prog w = .ok (secV s) w := by
  obtain ⟨d, h1, h2⟩ := ht.row
  exact run_loadAt_mid w b o _ (cells s) d h h1 h2 (by rw [ht.size, cells_length, hs])
theorem Sec64.store (ht : Sec64 t) (w : World) (b o : Nat) (s : List UInt8) (hs : s.length = 64) (h : w.there b o 64) : (Instr.storeAt t (.pointer (some ⟨b, o, none⟩)) (secV s)).run Tryz.prog w = .ok () (w.setCells b o (cells s)) := by
  have := run_storeAt_mid (P := Tryz.prog) w b o t (cells s).toArray (by simpa [cells_length, hs] using h) (by rw [ht.size]; simp [cells_length, hs]) (cells_one' s)
  simpa [secV] using this
theorem Blk.range {w : World} {g : Nat} {s : List UInt8} {u : TypeId} (h : Blk w g (cells s).toArray u) : w.rangeAt g 0 (cells s) := fun j v hv => by
  rw [h.cell, Nat.zero_add]
  simpa using hv
theorem Blk.there64 {w : World} {g : Nat} {cs : Array Value} {u : TypeId} (h : Blk w g cs u) (hc : cs.size = 64) : w.there g 0 64 := fun j hj => by
  refine ⟨?_, h.frozen _⟩
  rw [h.cell]
  simp
  omega
theorem cells_size (s : List UInt8) : (cells s).toArray.size = s.length := by simp [cells]

theorem wpList_sec_alloc {w : World} {ops : Array Oper} {rest : List Oper} {o : Oper} {a : Act} {Q : Exit → Act → World → Prop} (ht : Sec64 t) (hg : o.guard = none) (ho : o.op = .alloc t)
    (hK : ∀ w2, Blk w2 w.heap.size (cells (zeros64)).toArray t → Below w.heap.size w w2 → w2.heap.size = w.heap.size + 1 → wpList Tryz.prog ops Q rest (a.put o.dst (.pointer (some ⟨w.heap.size, 0, none⟩))) w2) : wpList Tryz.prog ops Q (o :: rest) a w := by
  refine wpList_plain hg fun K hK' => ?_
  have hr : (execOp a.eval o).run Tryz.prog w = .ok (.value (.pointer (some ⟨w.heap.size, 0, none⟩))) (w.alloc (.cells (cells (zeros64)).toArray t)) := by
    simp only [execOp, ho, Instr.alloc]
    simp [ht.zero w, secV, Value.cells, newVar, newRow, Result.andThen]
  unfold Oper.wp
  rw [hr]
  exact hK' _ _ (hK _ (Blk.new w _ _) ((Below.refl _ _).alloc (Nat.le_refl _) _) (by simp))
theorem wpList_sec_store {w : World} {ops : Array Oper} {rest : List Oper} {o : Oper} {a : Act} {Q : Exit → Act → World → Prop} (ht : Sec64 t) (hg : o.guard = none) (x y : Operand) (ho : o.op = .store t x y) (b : Nat) (hx : a.eval x = .pointer (some ⟨b, 0, none⟩))
    (s : List UInt8) (hs : s.length = 64) (hy : a.eval y = secV s) (cs : Array Value) (hc : cs.size = 64) {u : TypeId} (hb : Blk w b cs u)
    (hK : ∀ w2, Blk w2 b (cells s).toArray u → Kept [b] w w2 → w2.heap.size = w.heap.size → wpList Tryz.prog ops Q rest (a.put o.dst undef) w2) : wpList Tryz.prog ops Q (o :: rest) a w := by
  refine wpList_plain hg fun K hK' => ?_
  have hr := ht.store w b 0 s hs (hb.there64 hc)
  unfold Oper.wp
  simp [execOp, ho, hx, hy, hr, Result.andThen]
  exact hK' _ _ (hK _ (hb.whole hc hs) ((Kept.refl _ _).setCells (by simp) _ _) (setCells_size ..))
theorem wpList_sec_load {w : World} {ops : Array Oper} {rest : List Oper} {o : Oper} {a : Act} {Q : Exit → Act → World → Prop} (ht : Sec64 t) (hg : o.guard = none) (x : Operand) (ho : o.op = .load t x) (b k : Nat) (hx : a.eval x = .pointer (some ⟨b, k, none⟩))
    (s : List UInt8) (hs : s.length = 64) (h : w.rangeAt b k (cells s)) (hK : wpList Tryz.prog ops Q rest (a.put o.dst (secV s)) w) : wpList Tryz.prog ops Q (o :: rest) a w := by
  refine wpList_plain hg fun K hK' => ?_
  have hr := ht.load w b k s hs h
  unfold Oper.wp
  simp [execOp, ho, hx, hr, Result.andThen]
  exact hK' _ _ hK
end

theorem zeros_u8 (m : Nat) : Builtin.zeroCells #[.int .u8 0] m = (List.replicate m (.int .u8 0)).toArray := by
  apply Array.ext
  · simp [Builtin.zeroCells]
  · intro i h1 h2
    simp [Builtin.zeroCells, Nat.mod_one]
/-- append(v, make([]byte, m)...) onto bytes of one's own -/
theorem app_zeros (w : World) (B : Nat) (ty : TypeId) (v : Value) (n m : Nat) (xs : List Value) (hown : w.ownsRow B 5 1 v n xs) (hn : 0 < n) (hm : n + m ≤ 1099511627776) (hB : B ≤ w.heap.size) :
    ∃ v' w', (Builtin.append_ #[32, 3] ty #[v, .int .i64 (m : Int)]).run Tryz.prog w = .ok v' w' ∧ w'.ownsRow B 5 1 v' (n + m) (xs ++ List.replicate m (.int .u8 0)) ∧ w.grownBy w' v.ownBlock ∧ (v'.ownBlock = v.ownBlock ∨ v'.ownBlock = some w.heap.size) := by
  obtain ⟨i, hi, hz, hsize, hby⟩ := info_parts infoU8
  have ht := Tryz.underlying32
  have htn := Tryz.underlying3
  have hw : IntKind.i64.wrap (m : Int) = m := by rw [IntKind.wrap_i64]; omega
  have hneg : ¬ ((m : Int) < 0) := by omega
  have h48i : ¬ (281474976710656 < (m : Int)) := by omega
  have hlx : xs.length = n := by have := hown.1; omega
  rcases hown.2 with ⟨_, rfl⟩ | ⟨g, cap, cur, rfl, hbg, hg, hnc, hcm, hcs, htake⟩
  · omega
  · by_cases hm0 : m = 0
    · subst hm0
      refine ⟨.slice (some ⟨g, 0, none⟩) n cap, w, ?_, by simpa using hown, World.grownBy.refl w _, .inl rfl⟩
      have hw0 : IntKind.i64.wrap 0 = 0 := by rw [IntKind.wrap_i64]; omega
      simp [Builtin.append_, run_underlying ht, run_underlying htn, sizeOf, typeInfo, hi, hby, asInt, asIntOf, hw0, hnc, storeCells]
    · have h1 : ∀ u ∈ List.replicate m (Value.int .u8 0), u.oneCell' = true := fun u hu => by rw [List.eq_of_mem_replicate hu]; rfl
      by_cases hroom : n + m ≤ cap
      · have hst := run_storeCells_at Tryz.prog g n 5 (List.replicate m (.int .u8 0)) 0 cur w hg (by simp; omega) h1
        simp only [Nat.add_zero] at hst
        refine ⟨.slice (some ⟨g, 0, none⟩) (n + m) cap, w.setRow g (cur.toList.take n ++ List.replicate m (Value.int .u8 0) ++ cur.toList.drop (n + m)).toArray, ?_, ⟨by simp [hlx], .inr ⟨g, cap, _, rfl, hbg, setRow_heap w g cur _ _ _ hg, hroom, hcm, ?_, ?_⟩⟩, ⟨rfl, rfl, rfl, by simp, fun k _ hk => setRow_other w g k _ (fun e => hk (by simp [Value.ownBlock, e]))⟩, .inl rfl⟩
        · simp [Builtin.append_, run_underlying ht, run_underlying htn, sizeOf, typeInfo, zeroValue, hi, hz, hsize, hby, asInt, asIntOf, hw, hneg, h48i, hm0, hroom, Value.cells, zeros_u8, Addr.add_lit, hst]
        · simp; omega
        · rw [Nat.mul_one] at htake ⊢
          rw [htake, List.take_left' (by simp [hlx])]
      · have hge := grownCap_ge w (n + m) cap 5
        have hcm' : grownCap w (n + m) cap 5 ≤ maxLen := grownCap_le_maxLen w (n + m) cap _ (by unfold maxLen; omega)
        have hfo := run_firstCells_some (P := Tryz.prog) w.drew i.size n ⟨g, 0, none⟩ n cap xs (by rw [hsize]; omega) (by have := hown.cells (g := g) rfl; simpa using this)
        rw [hsize] at hfo
        have h63' : ¬ (9223372036854775807 < ((n : Int) + (m : Int))) := by omega
        have h48' : ¬ (281474976710656 < Builtin.nextslicecap (n + m) cap) := by have := growslice_fits (need := n + m) (old := cap) (bytes := 1) (by omega) (by omega); omega
        refine ⟨.slice (some ⟨w.heap.size, 0, none⟩) (n + m) (grownCap w (n + m) cap 5), w.drew.alloc (.cells (xs.toArray ++ (List.replicate m (Value.int .u8 0)).toArray ++ Builtin.zeroCells #[Value.int .u8 0] (grownCap w (n + m) cap 5 - (n + m))) 5), ?_, ⟨by simp [hlx], .inr ⟨w.heap.size, _, _, rfl, hB, heap_alloc_new w.drew _, hge, hcm', ?_, ?_⟩⟩, ⟨rfl, rfl, rfl, by simp, fun k hk _ => heap_alloc_old w.drew _ hk⟩, .inr rfl⟩
        · simp [Builtin.append_, run_underlying ht, run_underlying htn, sizeOf, typeInfo, zeroValue, hi, hz, hsize, hby, asInt, asIntOf, hw, hneg, h48i, hm0, hroom, h63', h48', Question.forced, hfo, newRow, grownCap, Value.cells, zeros_u8]
        · simp [size_zeroCells, hlx]; omega
        · simp only [Array.toList_append, Nat.mul_one]
          exact List.take_left' (by simp [hlx])
theorem wpList_zeros {w : World} {ops : Array Oper} {rest : List Oper} {o : Oper} {a : Act} {Q : Exit → Act → World → Prop} (hgd : o.guard = none) (s x : Operand)
    (ho : o.op = .call { callee := .builtin .append, args := #[s, x], argTypes := #[32, 3] }) (B : Nat) (v : Value) (n m : Nat) (xs : List Value) (hs : a.eval s = v) (hx : a.eval x = .int .i64 (m : Int))
    (hown : w.ownsRow B 5 1 v n xs) (hn : 0 < n) (hm : n + m ≤ 1099511627776) (hB : B ≤ w.heap.size)
    (h : ∀ v' w', w'.ownsRow B 5 1 v' (n + m) (xs ++ List.replicate m (.int .u8 0)) → w.grownBy w' v.ownBlock → (v'.ownBlock = v.ownBlock ∨ v'.ownBlock = some w.heap.size) → wpList Tryz.prog ops Q rest (a.put o.dst v') w') : wpList Tryz.prog ops Q (o :: rest) a w := by
  obtain ⟨v', w', hr, h2, h3, h4⟩ := app_zeros w B o.type v n m xs hown hn hm hB
  refine wpList_plain hgd fun K hK => ?_
  unfold Oper.wp execOp
  simp only [ho, resolve, invoke, builtin, Sem.run_bind, Sem.run_pure, Result.andThen_ok, List.map_toArray, List.map_cons, List.map_nil, hs, hx, hr]
  exact hK _ _ (h v' w' h2 h3 h4)
end Go.Proofs.YtehnhjnkbclnlaaGreatDoor
