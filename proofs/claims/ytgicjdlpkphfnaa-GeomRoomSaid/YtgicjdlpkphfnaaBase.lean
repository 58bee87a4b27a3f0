/-
  Words: Words for memory: a slice value that reads as a list of cells, wherever it lies, nil let in; kept over what later calls do. Nothing is assumed.
  Mem: Memory once more, over this seat's program: bytes that a call makes, as laws use them. Nothing is assumed.
  VApp: append(v, b...) onto memory of one's own, whatever slice b is (nil, empty or not): the bytes stand behind one another, in memory of one's own. Assumed: no more than 2^46 bytes.
  Soft: A statement whose order the language leaves open, with calls that make memory in it: each operation is shown by itself, from what it reads alone, in whatever world that has only grown; then every order serves. Nothing is assumed.
  SoftV: The steps of a statement whose order is open, by kind: calls of one or two arguments, conversions of bytes to text. Nothing is assumed.
  Close: From a walk to a law's statement, for every law of plain data that answers a bool: where the call returns true and nothing that was there has turned, the law's row holds; and how arguments are opened. Nothing is assumed.
-/
import Derived.Below
import Derived.Laws.OwnMore
import Derived.Deep.AppendLies
import Derived.Deep.Draws
import Derived.Laws.BytesArg
import Derived.Test.YtgicjdlpkphfnaaChecked
import Derived.WalkKit
import Derived.Handy
import Derived.Lib.Hide
import Derived.Maps.AppendAt
import Derived.Laws.CopyOwn
import Derived.Lib.AppendStr
import Derived.Orders
import Derived.Test.YtgicjdlpkphfnaaRows
import Derived.ProofKit
import Derived.OpenShut
import Derived.Carry
import Derived.SizedLaws

namespace Go.Proofs.Ytgicjdlpkphfnaa
open Go.RowKit

theorem addr_block (a : Addr) (n : Nat) : (a.add n).block = a.block := by unfold Addr.add; split <;> rfl
theorem addr_add (a : Addr) (i j : Nat) : (a.add i).add j = a.add (i + j) := by
  unfold Addr.add
  by_cases hi : i = 0 <;> by_cases hj : j = 0 <;> simp [hi, hj, Nat.add_assoc]

/-- the cells xs lie at A, one behind the other, in memory that is there -/
def Lies (w : World) (A : Option Addr) (xs : List Value) : Prop :=
  xs = [] ∨ ∃ ad, A = some ad ∧ ad.block < w.heap.size ∧ ∀ j u, xs[j]? = some u → w.cell? (ad.add j) = some u

section
variable {w w' : World} {A : Option Addr} {xs : List Value}
theorem Lies.nil : Lies w A [] := .inl rfl
theorem Lies.keep (h : Lies w A xs) (hs : w.heap.size ≤ w'.heap.size) (hk : ∀ p : Addr, p.block < w.heap.size → w'.cell? p = w.cell? p) : Lies w' A xs := by
  rcases h with h | ⟨ad, e, hb, hc⟩
  · exact .inl h
  · exact .inr ⟨ad, e, by omega, fun j u hu => (hk _ (by rw [addr_block]; exact hb)).trans (hc j u hu)⟩
theorem Lies.below (h : Lies w A xs) (hb : Below w.heap.size w w') : Lies w' A xs := h.keep hb.size fun _ hp => hb.cell hp
theorem Lies.at_ (h : Lies w A xs) {k : Nat} (hk : k < xs.length) : ∃ ad, A = some ad ∧ ad.block < w.heap.size ∧ w.cell? (ad.add k) = some xs[k] := by
  rcases h with h | ⟨ad, e, hb, hc⟩
  · subst h; simp at hk
  · exact ⟨ad, e, hb, hc k _ (List.getElem?_eq_getElem hk)⟩
theorem Lies.take (h : Lies w A xs) (k : Nat) : Lies w A (xs.take k) := by
  rcases h with h | ⟨ad, e, hb, hc⟩
  · subst h; exact .inl (by simp)
  · refine .inr ⟨ad, e, hb, fun j u hu => hc j u ?_⟩
    rw [List.getElem?_take] at hu
    split at hu
    · exact hu
    · cases hu
theorem Lies.drop (h : Lies w A xs) {k cap : Nat} (hk : xs.length ≤ cap) : Lies w (if cap = k then A else A.map (·.add k)) (xs.drop k) := by
  rcases h with h | ⟨ad, e, hb, hc⟩
  · subst h; exact .inl (by simp)
  · by_cases hl : xs.length ≤ k
    · exact .inl (List.drop_of_length_le hl)
    · rw [if_neg (by omega), e]
      refine .inr ⟨ad.add k, rfl, by rw [addr_block]; exact hb, fun j u hu => ?_⟩
      rw [addr_add]
      exact hc _ u (by rw [← hu, List.getElem?_drop])
theorem Lies.own {base : Nat} {e : TypeId} {n c : Nat} (h : w.ownsRow base e 1 (.slice A n c) n xs) : Lies w A xs := by
  rcases Nat.eq_zero_or_pos n with h0 | h0
  · exact .inl (List.eq_nil_of_length_eq_zero (by rw [h.1, h0]))
  · obtain ⟨g, cap, hv, _, hlt⟩ := h.form h0
    have hA : A = some ⟨g, 0, none⟩ := by injection hv
    subst hA
    exact .inr ⟨_, rfl, hlt, h.cells (g := g) rfl⟩
end

/-- bytes as cells -/
def cells (bs : List UInt8) : List Value := bs.map fun c => .int .u8 (c.toNat : Int)
theorem cells_length (bs : List UInt8) : (cells bs).length = bs.length := by simp [cells]
theorem cells_append (a b : List UInt8) : cells (a ++ b) = cells a ++ cells b := by simp [cells]
theorem cells_take (a : List UInt8) (k : Nat) : (cells a).take k = cells (a.take k) := by simp [cells]
theorem cells_drop (a : List UInt8) (k : Nat) : (cells a).drop k = cells (a.drop k) := by simp [cells]
theorem cells_at (a : List UInt8) (k : Nat) (h : k < a.length) : (cells a)[k]'(by rw [cells_length]; exact h) = .int .u8 (a[k].toNat : Int) := by simp [cells]
theorem cells_one (bs : List UInt8) : ∀ u ∈ cells bs, u.oneCell' = true := by
  intro u hu
  obtain ⟨c, _, rfl⟩ := List.mem_map.1 hu
  rfl
/-- a text of bytes -/
def str (bs : List UInt8) : ByteArray := ⟨bs.toArray⟩
theorem str_size (bs : List UInt8) : (str bs).size = bs.length := by simp [str, ByteArray.size]
theorem str_inj {a b : List UInt8} (h : str a = str b) : a = b := by
  unfold str at h
  injection h with h
  have := congrArg Array.toList h
  simpa using this

theorem strOfNums_cells (bs : List UInt8) : strOfNums (bs.map fun c => (c.toNat : Int)) = str bs := by
  unfold strOfNums str
  simp only [List.map_map]
  congr 2
  conv => rhs; rw [← List.map_id bs]
  apply List.map_congr_left
  intro c _
  simp [Function.comp]

/-- string(b), of any slice of bytes -/
theorem conv_str {P : Program} {w : World} {A : Option Addr} {c : Nat} {bs : List UInt8} (h : Lies w A (cells bs)) (src e : TypeId) (hs : P.underlying src = some (.slice e)) (he : P.underlying e = some (.int .u8)) (dst : TypeId) (hd : P.underlying dst = some .string) :
    (convert src dst (.slice A bs.length c)).run P w = .ok (.string (str bs)) w := by
  rw [run_convert_bytes_string w src dst e A bs.length c hs he hd]
  rcases A with _ | ad
  · have : bs = [] := by
      rcases h with h | ⟨ad, h, _⟩
      · simpa [cells] using h
      · cases h
    subst this
    simp [Conv.bytesToString, str]; rfl
  · have hl : (loadCells ad bs.length).run P w = .ok ((bs.map fun c => (c.toNat : Int)).map (Value.int .u8)).toArray w := by
      have := run_loadCells_list (P := P) w ad ((bs.map fun c => (c.toNat : Int)).map (Value.int .u8)) (fun j v hj => by
        rcases h with h | ⟨ad', h, _, hc⟩
        · have : bs = [] := by simpa [cells] using h
          subst this
          simp at hj
        · injection h with h
          subst h
          apply hc j v
          rw [← hj]
          simp [cells]
          rfl)
      simpa using this
    rw [run_bytesToString w ad bs.length c _ hl, foldl_push_bytes]
    have := strOfNums_cells bs
    unfold strOfNums at this
    simp only [ByteArray.empty, ByteArray.emptyWithCapacity]
    rw [← this]
    simp
    rfl
/-- string(b[j:j+x]): behind a cut that keeps the address where nothing is left -/
theorem conv_cut {P : Program} {w : World} {A : Option Addr} {cap j x : Nat} {bs : List UInt8} (h : Lies w A (cells bs)) (hl : bs.length ≤ cap) (hx : j + x ≤ bs.length) (src e : TypeId) (hs : P.underlying src = some (.slice e)) (he : P.underlying e = some (.int .u8)) (dst : TypeId) (hd : P.underlying dst = some .string) :
    (convert src dst (.slice (if cap = j then A else A.map (·.add j)) x (cap - j))).run P w = .ok (.string (str ((bs.drop j).take x))) w := by
  have h1 := ((h.drop (k := j) (cap := cap) (by rw [cells_length]; exact hl)).take x)
  rw [cells_drop, cells_take] at h1
  have hn : ((bs.drop j).take x).length = x := by rw [List.length_take, List.length_drop]; omega
  have := conv_str (P := P) (c := cap - j) h1 src e hs he dst hd
  rw [hn] at this
  exact this
theorem Lies.new (w : World) (cs : Array Value) (t : TypeId) : Lies (w.alloc (.cells cs t)) (some ⟨w.heap.size, 0, none⟩) cs.toList :=
  .inr ⟨_, rfl, by simp, World.news_of_block (heap_alloc_new w _)⟩
/-- string(v), v of memory of one's own -/
theorem own_str {P : Program} {w : World} {base n : Nat} {e : TypeId} {v : Value} {bs : List UInt8} (h : w.ownsRow base e 1 v n (cells bs)) (src : TypeId) (hs : P.underlying src = some (.slice e)) (he : P.underlying e = some (.int .u8)) (dst : TypeId) (hd : P.underlying dst = some .string) :
    (convert src dst v).run P w = .ok (.string (str bs)) w := by
  have hn : bs.length = n := by have := h.1; rw [cells_length] at this; omega
  subst hn
  rcases h.2 with ⟨rfl, h0⟩ | ⟨g, cap, cur, rfl, _⟩
  · have h1 : Lies w none (cells bs) := by
      have : bs = [] := List.eq_nil_of_length_eq_zero h0
      subst this
      exact Lies.nil
    have := conv_str (P := P) (c := 0) h1 src e hs he dst hd
    rw [h0] at this
    exact this
  · exact conv_str (P := P) (Lies.own h) src e hs he dst hd
/-- the length of memory of one's own -/
theorem own_form {w : World} {base n : Nat} {e : TypeId} {v : Value} {xs : List Value} (h : w.ownsRow base e 1 v n xs) : ∃ A cap, v = .slice A n cap ∧ n ≤ cap ∧ cap ≤ maxLen ∧ xs.length = n ∧ Lies w A xs := by
  have hl : xs.length = n := by have := h.1; omega
  rcases h.2 with ⟨rfl, h0⟩ | ⟨g, cap, cur, rfl, _, _, h3, h4, _⟩
  · subst h0
    have : xs = [] := List.eq_nil_of_length_eq_zero hl
    subst this
    exact ⟨none, 0, rfl, by omega, by unfold maxLen; omega, rfl, Lies.nil⟩
  · exact ⟨_, cap, rfl, h3, h4, hl, Lies.own h⟩
end Go.Proofs.Ytgicjdlpkphfnaa

namespace Go.Proofs.Ytgicjdlpkphfnaa
open Go.RowKit

theorem ret_int {k : IntKind} {a b : Int} (h : a = b) : Ending.returned (.int k a) = .returned (.int k b) := by rw [h]
theorem infoU8 : (Try.prog.info? 5).map (fun i => (i.zero, i.size, i.bytes)) = some (some (.int .u8 0), 1, 1) := by kernel_rfl
theorem sizeU8 : (Try.prog.info? 5).map (·.size) = some 1 := by kernel_rfl

/-- what a call that makes bytes hands back: memory of its own, that holds just these; nothing that was there has turned -/
def Made (w : World) (bs : List UInt8) (e : Ending) (w' : World) : Prop := ∃ v, e = .returned v ∧ w'.ownsRow w.heap.size 5 1 v bs.length (cells bs) ∧ Below w.heap.size w w'

theorem below_many {B : Nat} {a w : World} (h : Below B a w) (n : Nat) : Below B a (w.drewN n) := ⟨h.os, h.tape, h.output, h.size, h.block⟩
theorem Lies.many {w : World} {A : Option Addr} {xs : List Value} (h : Lies w A xs) (n : Nat) : Lies (w.drewN n) A xs := h
theorem Lies.drew1 {w : World} {A : Option Addr} {xs : List Value} (h : Lies w A xs) : Lies w.drew A xs := h
theorem strCells_cells (s : List UInt8) : Lib.strCells (str s) = cells s := by
  unfold Lib.strCells cells str
  simp
end Go.Proofs.Ytgicjdlpkphfnaa

namespace Go.Proofs.Ytgicjdlpkphfnaa
open Go.RowKit
set_option maxRecDepth 100000

theorem app_any {P : Program} (w : World) (base : Nat) (t ty e : TypeId) (i : TypeInfo) (z : Value) (ht : P.underlying t = some (.slice e)) (hi : P.info? e = some i) (hz : i.zero = some z) (hsize : i.size = 1) (hby : i.bytes = 1) (hzs : z.cells.size = 1)
    (v : Value) (n : Nat) (xs : List Value) (hown : w.ownsRow base e 1 v n xs) (A : Option Addr) (m c : Nat) (news : List Value) (hl : news.length = m) (hA : Lies w A news) (h1 : ∀ u ∈ news, u.oneCell' = true)
    (hb : n + m ≤ 70368744177664) (hbase : base ≤ w.heap.size) :
    ∃ v' w', (Builtin.append_ #[t, t] ty #[v, .slice A m c]).run P w = .ok v' w' ∧ w'.ownsRow base e 1 v' (n + m) (xs ++ news) ∧ w.grownBy w' v.ownBlock ∧ (v'.ownBlock = v.ownBlock ∨ v'.ownBlock = some w.heap.size) := by
  rcases A with _ | ad
  · have hn : news = [] := by
      rcases hA with h | ⟨ad, h, _⟩
      · exact h
      · cases h
    subst hn
    obtain rfl : m = 0 := by simpa using hl.symm
    refine ⟨v, w, ?_, by simpa using hown, World.grownBy.refl w _, .inl rfl⟩
    rcases hown.2 with ⟨rfl, rfl⟩ | ⟨g, cap, cur, rfl, _, _, hnc, _⟩
    · simp [Builtin.append_, run_underlying ht, sizeOf, typeInfo, hi, Builtin.lenOf, Builtin.firstCells]
    · simp [Builtin.append_, run_underlying ht, sizeOf, typeInfo, hi, Builtin.lenOf, Builtin.firstCells, hnc, storeCells]
  · have hc : ∀ j u, news[j]? = some u → w.cell? (ad.add j) = some u := by
      rcases hA with h | ⟨ad', h, _, hc⟩
      · subst h; intro j u hu; simp at hu
      · injection h with h; subst h; exact hc
    obtain ⟨v', w', hr, h2, h3, _, h5⟩ := run_append_own_at (P := P) w base t ty e i z 1 1 ht hi hz hsize hby hzs (by omega) v n xs hown ad m c news (by omega) hc h1 (by unfold maxLen; omega) (by omega) hbase
    exact ⟨v', w', hr, h2, h3, h5⟩

theorem wpList_app {P : Program} {w : World} {ops : Array Oper} {rest : List Oper} {o : Oper} {a : Act} {Q : Exit → Act → World → Prop} (hgd : o.guard = none) (s x : Operand) (t : TypeId)
    (ho : o.op = .call { callee := .builtin .append, args := #[s, x], argTypes := #[t, t] })
    (base : Nat) (e : TypeId) (i : TypeInfo) (z : Value) (ht : P.underlying t = some (.slice e)) (hi : P.info? e = some i) (hz : i.zero = some z) (hsize : i.size = 1) (hby : i.bytes = 1) (hzs : z.cells.size = 1)
    (v : Value) (n : Nat) (xs : List Value) (hs : a.eval s = v) (hown : w.ownsRow base e 1 v n xs) (A : Option Addr) (m c : Nat) (news : List Value) (hx : a.eval x = .slice A m c) (hl : news.length = m) (hA : Lies w A news) (h1 : ∀ u ∈ news, u.oneCell' = true)
    (hb : n + m ≤ 70368744177664) (hbase : base ≤ w.heap.size)
    (h : ∀ v' w', w'.ownsRow base e 1 v' (n + m) (xs ++ news) → w.grownBy w' v.ownBlock → (v'.ownBlock = v.ownBlock ∨ v'.ownBlock = some w.heap.size) → wpList P ops Q rest (a.put o.dst v') w') : wpList P ops Q (o :: rest) a w := by
  refine wpList_plain hgd fun K hK => ?_
  obtain ⟨v', w', hr, h2, h3, h4⟩ := app_any (P := P) w base t o.type e i z ht hi hz hsize hby hzs v n xs hown A m c news hl hA h1 hb hbase
  unfold Oper.wp execOp
  simp only [ho, resolve, invoke, builtin, Sem.run_bind, Sem.run_pure, Result.andThen_ok, List.map_toArray, List.map_cons, List.map_nil, hs, hx, hr]
  exact hK _ _ (h v' w' h2 h3 h4)
/-- the same, under a guard that holds -/
theorem wpList_appG {P : Program} {w : World} {ops : Array Oper} {rest : List Oper} {o : Oper} {a : Act} {Q : Exit → Act → World → Prop} (hgd : Region.wanted o (yielded ops a.tmps) = true) (s x : Operand) (t : TypeId)
    (ho : o.op = .call { callee := .builtin .append, args := #[s, x], argTypes := #[t, t] })
    (base : Nat) (e : TypeId) (i : TypeInfo) (z : Value) (ht : P.underlying t = some (.slice e)) (hi : P.info? e = some i) (hz : i.zero = some z) (hsize : i.size = 1) (hby : i.bytes = 1) (hzs : z.cells.size = 1)
    (v : Value) (n : Nat) (xs : List Value) (hs : a.eval s = v) (hown : w.ownsRow base e 1 v n xs) (A : Option Addr) (m c : Nat) (news : List Value) (hx : a.eval x = .slice A m c) (hl : news.length = m) (hA : Lies w A news) (h1 : ∀ u ∈ news, u.oneCell' = true)
    (hb : n + m ≤ 70368744177664) (hbase : base ≤ w.heap.size)
    (h : ∀ v' w', w'.ownsRow base e 1 v' (n + m) (xs ++ news) → w.grownBy w' v.ownBlock → (v'.ownBlock = v.ownBlock ∨ v'.ownBlock = some w.heap.size) → wpList P ops Q rest (a.put o.dst v') w') : wpList P ops Q (o :: rest) a w := by
  refine BigFrame.wpList_want hgd fun K hK => ?_
  obtain ⟨v', w', hr, h2, h3, h4⟩ := app_any (P := P) w base t o.type e i z ht hi hz hsize hby hzs v n xs hown A m c news hl hA h1 hb hbase
  unfold Oper.wp execOp
  simp only [ho, resolve, invoke, builtin, Sem.run_bind, Sem.run_pure, Result.andThen_ok, List.map_toArray, List.map_cons, List.map_nil, hs, hx, hr]
  exact hK _ _ (h v' w' h2 h3 h4)
end Go.Proofs.Ytgicjdlpkphfnaa

namespace Go.Proofs.Ytgicjdlpkphfnaa
open Go.RowKit

/-- what is known of a value, kept while memory only grows -/
structure Fact where
  φ : Value → World → Prop
  keep : ∀ v w w', φ v w → Below w.heap.size w w' → φ v w'
def Fact.is (c : Value) : Fact := ⟨fun v _ => v = c, fun _ _ _ h _ => h⟩
instance : Inhabited Fact := ⟨⟨fun _ _ => True, fun _ _ _ _ _ => trivial⟩⟩

/-- what one operation comes to -/
def softUpon (P : Program) (w : World) (F : Fact) : Result Next → Prop
  | .ok (.value u) w' => F.φ u w' ∧ Below w.heap.size w w'
  | .ok (.enter f args) w' => w' = w ∧ Calls P f args w (fun e w'' => ∃ v, e = .returned v ∧ F.φ v w'' ∧ Below w.heap.size w w'')
  | _ => False

/-- which operation writes a slot: 'ds' has, of each operation, the slot that it writes and the slots that it reads -/
def seat (ds : List (Nat × List Nat)) (t : Nat) : Option Nat := ds.findIdx? fun p => p.1 == t
def Knows (ds : List (Nat × List Nat)) (Fs : List Fact) (a0 : Act) (t : Nat) (v : Value) (w : World) : Prop :=
  match seat ds t with
  | some j => (Fs.getD j default).φ v w
  | none => v = a0.tmps.getD t undef
def Reads (ds : List (Nat × List Nat)) (Fs : List Fact) (a0 : Act) (ρ : Operand → Value) (w : World) : List Nat → Prop
  | [] => True
  | t :: r => Knows ds Fs a0 t (ρ (.tmp t)) w ∧ Reads ds Fs a0 ρ w r
/-- under its guard, if it has one (a guard that was itself not asked for stands undef) -/
def Under (ops : Array Oper) (ρ : Operand → Value) (o : Oper) (yes no : Prop) : Prop :=
  match o.guard with
  | none => yes
  | some (g, b) => ∃ t, (ops[g]?).bind (·.dst) = some t ∧ ((ρ (.tmp t) = .bool b ∧ yes) ∨ (ρ (.tmp t) = .bool (!b) ∧ no) ∨ (ρ (.tmp t) = undef ∧ no))
def Step (P : Program) (ops : Array Oper) (ds : List (Nat × List Nat)) (Fs : List Fact) (a0 : Act) (W0 : World) (o : Oper) (rd : List Nat) (F : Fact) : Prop :=
  ∀ (ρ : Operand → Value) (w : World), Below W0.heap.size W0 w → (∀ v, ρ (.const v) = v) → (∀ f, ρ (.func f) = .func (.func f) #[] #[]) → Reads ds Fs a0 ρ w rd →
    Under ops ρ o (softUpon P w F ((execOp ρ o).run P w)) (F.φ undef w)
def Steps (P : Program) (ops : Array Oper) (ds : List (Nat × List Nat)) (Fs : List Fact) (a0 : Act) (W0 : World) : List Oper → List (Nat × List Nat) → List Fact → Prop
  | o :: os, d :: dr, F :: fr => Step P ops ds Fs a0 W0 o d.2 F ∧ Steps P ops ds Fs a0 W0 os dr fr
  | _, _, _ => True

/-- the closed look at a region: slots, reads, edges -/
def okOp (ops : Array Oper) (ds : List (Nat × List Nat)) (n i : Nat) (o : Oper) (d : Nat × List Nat) : Bool :=
  o.dst == some d.1 && decide (d.1 < n) && seat ds d.1 == some i && (o.looksAt ops).all (fun t => d.2.contains t) &&
  d.2.all (fun t => match seat ds t with | none => true | some j => o.after.any fun e => Region.binds .any e && e.on == j) &&
  o.after.all (fun e => !Region.binds .any e || decide (e.on < i))
def okFrom (ops : Array Oper) (ds : List (Nat × List Nat)) (n : Nat) : Nat → List Oper → List (Nat × List Nat) → Bool
  | i, o :: os, d :: dr => okOp ops ds n i o d && okFrom ops ds n (i + 1) os dr
  | _, [], [] => true
  | _, _, _ => false

theorem okFrom_spec {ops : Array Oper} {ds : List (Nat × List Nat)} {n : Nat} : ∀ {k : Nat} {l : List Oper} {dl : List (Nat × List Nat)}, okFrom ops ds n k l dl = true →
    l.length = dl.length ∧ ∀ i o, l[i]? = some o → ∃ d, dl[i]? = some d ∧ okOp ops ds n (k + i) o d = true
  | _, [], [], _ => ⟨rfl, fun i o h => by simp at h⟩
  | k, o :: os, d :: dr, h => by
    simp only [okFrom, Bool.and_eq_true] at h
    obtain ⟨h1, h2⟩ := okFrom_spec h.2
    refine ⟨by simp [h1], fun i o' ho => ?_⟩
    rcases i with _ | i
    · simp only [List.getElem?_cons_zero, Option.some.injEq] at ho
      subst ho
      exact ⟨d, by simp, h.1⟩
    · simp only [List.getElem?_cons_succ] at ho ⊢
      obtain ⟨d', hd, hk⟩ := h2 i o' ho
      exact ⟨d', hd, by rw [show k + (i + 1) = k + 1 + i by omega]; exact hk⟩
  | _, [], _ :: _, h => by simp [okFrom] at h
  | _, _ :: _, [], h => by simp [okFrom] at h

theorem Steps_spec {P : Program} {ops : Array Oper} {ds : List (Nat × List Nat)} {Fs : List Fact} {a0 : Act} {W0 : World} : ∀ {l : List Oper} {dl : List (Nat × List Nat)} {fl : List Fact}, Steps P ops ds Fs a0 W0 l dl fl → l.length = dl.length → l.length = fl.length →
    ∀ i o d, l[i]? = some o → dl[i]? = some d → Step P ops ds Fs a0 W0 o d.2 (fl.getD i default)
  | [], _, _, _, _, _, i, o, d, ho, _ => by simp at ho
  | o :: os, d :: dr, F :: fr, h, h1, h2, i, o', d', ho, hd => by
    rcases i with _ | i
    · simp only [List.getElem?_cons_zero, Option.some.injEq] at ho hd
      subst ho hd
      exact h.1
    · simp only [List.getElem?_cons_succ] at ho hd
      have := Steps_spec h.2 (by simpa using h1) (by simpa using h2) i o' d' ho hd
      simpa using this
  | _ :: _, [], _, _, h1, _, _, _, _, _, _ => by simp at h1
  | _ :: _, _ :: _, [], _, _, h2, _, _, _, _, _ => by simp at h2

section
variable {P : Program} {ops : Array Oper} {ds : List (Nat × List Nat)} {Fs : List Fact} {a0 : Act} {W0 : World} {n : Nat} {Q : Exit → Act → World → Prop}

def Inv (ds : List (Nat × List Nat)) (Fs : List Fact) (a0 : Act) (W0 : World) (n : Nat) (listed : Array Bool) (a : Act) (w : World) : Prop :=
  Below W0.heap.size W0 w ∧ a.defers = a0.defers ∧ a.tmps.size = n ∧
  ∀ t, match seat ds t with
    | some j => listed.getD j false = true → (Fs.getD j default).φ (a.tmps.getD t undef) w
    | none => a.tmps.getD t undef = a0.tmps.getD t undef

theorem Inv.put {listed : Array Bool} {a : Act} {w w' : World} {i t : Nat} {v : Value} (h : Inv ds Fs a0 W0 n listed a w) (ht : t < n) (hi : seat ds t = some i) (hinj : ∀ s, seat ds s = some i → s = t)
    (hb : Below w.heap.size w w') (hv : (Fs.getD i default).φ v w') : Inv ds Fs a0 W0 n (listed.setIfInBounds i true) (a.put (some t) v) w' := by
  obtain ⟨h1, h2, h3, h4⟩ := h
  refine ⟨h1.trans (hb.mono h1.size), by simpa [Act.put] using h2, by simpa [Act.put] using h3, fun s => ?_⟩
  have h5 := h4 s
  by_cases hs : s = t
  · subst hs
    simp only [hi]
    intro _
    have : (a.put (some s) v).tmps.getD s undef = v := by
      have hlt : s < a.tmps.size := by omega
      simp [Act.put, Array.getD_eq_getD_getElem?, hlt]
    rw [this]; exact hv
  · have hg : (a.put (some t) v).tmps.getD s undef = a.tmps.getD s undef := by
      simp [Act.put, Array.getD_eq_getD_getElem?, Array.getElem?_setIfInBounds_ne (Ne.symm hs)]
    rw [hg]
    cases hq : seat ds s with
    | none => simp only [hq] at h5 ⊢; exact h5
    | some j =>
      simp only [hq] at h5 ⊢
      intro hl
      have hji : i ≠ j := fun e => hs (hinj s (by rw [hq, e]))
      rw [getD_set_ne false hji] at hl
      exact (Fs.getD j default).keep _ _ _ (h5 hl) hb

theorem reads_of {listed : Array Bool} {a : Act} {w : World} (h : Inv ds Fs a0 W0 n listed a w) : ∀ (l : List Nat), (∀ t ∈ l, ∀ j, seat ds t = some j → listed.getD j false = true) → Reads ds Fs a0 a.eval w l
  | [], _ => trivial
  | t :: r, hl => by
    refine ⟨?_, reads_of h r fun s hs => hl s (List.mem_cons_of_mem _ hs)⟩
    have h4 := h.2.2.2 t
    unfold Knows
    cases hq : seat ds t with
    | none => simp only [hq] at h4 ⊢; exact h4
    | some j => simp only [hq] at h4 ⊢; exact h4 (hl t (List.mem_cons_self ..) j hq)

theorem filter_lt {p q : Nat → Bool} : ∀ {l : List Nat} {x : Nat}, (∀ y, q y = true → p y = true) → x ∈ l → p x = true → q x = false → (l.filter q).length < (l.filter p).length
  | y :: l, x, h, hx, hp, hq => by
    have hle : ∀ l : List Nat, (l.filter q).length ≤ (l.filter p).length := fun l => by
      induction l with
      | nil => simp
      | cons z l ih =>
        by_cases hz : q z = true
        · simp [hz, h z hz]; exact ih
        · have hz' : q z = false := by simpa using hz
          by_cases hpz : p z = true
          · simp [hz', hpz]; omega
          · simp [hz', hpz]; exact ih
    rcases List.mem_cons.1 hx with e | hx'
    · subst e
      have := hle l
      simp [hp, hq]; omega
    · have ih := filter_lt (l := l) h hx' hp hq
      by_cases hz : q y = true
      · simp [hz, h y hz]; exact ih
      · have hz' : q y = false := by simpa using hz
        by_cases hpz : p y = true
        · simp [hz', hpz]; omega
        · simp [hz', hpz]; exact ih
  | [], x, _, hx, _, _ => by cases hx

def left (ops : Array Oper) (listed : Array Bool) : Nat := ((List.range ops.size).filter fun i => !listed.getD i true).length

theorem wpAny_soft (hok : ∀ i o, ops[i]? = some o → ∃ d, okOp ops ds n i o d = true ∧ Step P ops ds Fs a0 W0 o d.2 (Fs.getD i default))
    (hinj : ∀ i s t, seat ds s = some i → seat ds t = some i → s = t)
    (hQ : ∀ listed a w, (∀ i, i < ops.size → listed.getD i true = true) → listed.size = ops.size → Inv ds Fs a0 W0 n listed a w → Q .normal a w) :
    ∀ (fuel : Nat) (listed : Array Bool) (a : Act) (w : World), listed.size = ops.size → left ops listed ≤ fuel → Inv ds Fs a0 W0 n listed a w → wpAny P .any ops Q fuel listed a w := by
  have hall : ∀ (listed : Array Bool), listed.size = ops.size → Region.ready .any ops listed = [] → ∀ i, i < ops.size → listed.getD i true = true := by
    intro listed hs hr i
    induction i using Nat.strongRecOn with
    | ind i ih =>
      intro hi
      cases hl : listed.getD i true with
      | true => rfl
      | false =>
        exfalso
        have hm : i ∈ Region.ready .any ops listed := by
          refine mem_ready.2 ⟨hl, ops[i], by simp [hi], fun e he hb => ?_⟩
          obtain ⟨d, hd, _⟩ := hok i ops[i] (by simp [hi])
          simp only [okOp, Bool.and_eq_true] at hd
          have h1 := Array.all_eq_true_iff_forall_mem.1 hd.2 e he
          simp only [hb, Bool.not_true, Bool.false_or, decide_eq_true_eq] at h1
          have h2 := ih e.on h1 (by omega)
          have hlt : e.on < listed.size := by omega
          simpa [Array.getD_eq_getD_getElem?, hlt] using h2
        rw [hr] at hm
        cases hm
  intro fuel
  induction fuel with
  | zero =>
    intro listed a w hs hl hI
    have hr : Region.ready .any ops listed = [] := by
      cases hq : Region.ready .any ops listed with
      | nil => rfl
      | cons i r =>
        exfalso
        have hm : i ∈ Region.ready .any ops listed := by rw [hq]; exact List.mem_cons_self ..
        obtain ⟨h0, o, ho, _⟩ := mem_ready.1 hm
        have hi : i < ops.size := by
          rcases Nat.lt_or_ge i ops.size with h | h
          · exact h
          · rw [Array.getElem?_eq_none h] at ho; cases ho
        have : i ∈ (List.range ops.size).filter fun i => !listed.getD i true := List.mem_filter.2 ⟨List.mem_range.2 hi, by rw [h0]; rfl⟩
        have hz : left ops listed = 0 := by omega
        unfold left at hz
        rw [List.eq_nil_of_length_eq_zero hz] at this
        cases this
    exact ⟨hr, hQ listed a w (hall listed hs hr) hs hI⟩
  | succ fuel ih =>
    intro listed a w hs hl hI
    refine ⟨fun hr => hQ listed a w (hall listed hs hr) hs hI, fun i hi => ?_⟩
    obtain ⟨h0, o, ho, hdeps⟩ := mem_ready.1 hi
    obtain ⟨d, hd, hstep⟩ := hok i o ho
    simp only [okOp, Bool.and_eq_true, beq_iff_eq, decide_eq_true_eq] at hd
    obtain ⟨⟨⟨⟨⟨hdst, hlt⟩, hseat⟩, hlooks⟩, hdep⟩, _⟩ := hd
    have hisz : i < ops.size := by
      rcases Nat.lt_or_ge i ops.size with h | h
      · exact h
      · rw [Array.getElem?_eq_none h] at ho; cases ho
    have hrd : Reads ds Fs a0 a.eval w d.2 := reads_of hI d.2 fun t ht j hj => by
      have h1 := List.all_eq_true.1 hdep t ht
      simp only [hj] at h1
      obtain ⟨q, hq, hb⟩ := Array.any_eq_true.1 h1
      simp only [Bool.and_eq_true, beq_iff_eq] at hb
      rw [← hb.2]
      exact hdeps _ (Array.getElem_mem hq) hb.1
    have hgo := hstep a.eval w hI.1 (fun _ => rfl) (fun _ => rfl) hrd
    have next : ∀ v w', Below w.heap.size w w' → (Fs.getD i default).φ v w' → wpAny P .any ops Q fuel (listed.setIfInBounds i true) (a.put o.dst v) w' := fun v w' hb hv => by
      refine ih _ _ _ (by simpa using hs) ?_ ?_
      · have := filter_lt (p := fun i => !listed.getD i true) (q := fun j => !(listed.setIfInBounds i true).getD j true) (l := List.range ops.size) (x := i)
          (fun y hy => by
            by_cases hiy : i = y
            · subst hiy; rw [h0]; rfl
            · rw [getD_set_ne true hiy] at hy; exact hy)
          (List.mem_range.2 hisz) (by rw [h0]; rfl) (by
            have : i < listed.size := by omega
            simp [Array.getD_eq_getD_getElem?, this])
        unfold left at hl ⊢
        omega
      · rw [hdst]
        exact hI.put hlt hseat (fun s hs' => hinj i s d.1 hs' hseat) hb hv
    unfold wpOp
    simp only [ho]
    have run : softUpon P w (Fs.getD i default) ((execOp a.eval o).run P w) → o.wp P a w (wpAny P .any ops Q fuel (listed.setIfInBounds i true)) Q := fun h => by
      unfold Oper.wp
      generalize (execOp a.eval o).run P w = r at h
      cases r with
      | ok nx w' =>
        cases nx <;> simp only [softUpon] at h <;> simp only [Oper.upon]
        case value u => exact next u w' h.2 h.1
        case enter f args =>
          obtain ⟨rfl, hc⟩ := h
          exact hc.mono fun e w'' ⟨v, he, hv, hb⟩ => by subst he; exact next v w'' hb hv
      | halt x w' => simp only [softUpon] at h
    unfold Under at hgo
    cases hg : o.guard with
    | none =>
      simp only [hg] at hgo
      have hw : Region.wanted o (yielded ops a.tmps) = true := by simp [Region.wanted, hg]
      simp only [hw, if_true]
      exact .inl (run hgo)
    | some gb =>
      obtain ⟨g, b⟩ := gb
      simp only [hg] at hgo
      obtain ⟨t, ht, hcase⟩ := hgo
      have htn : ∀ c, a.eval (.tmp t) = .bool c → yielded ops a.tmps g = some c := fun c hc => by
        have hc' : a.tmps.getD t undef = .bool c := hc
        rw [Array.getD_eq_getD_getElem?] at hc'
        unfold yielded
        rw [ht]
        simp only [Option.bind_some]
        cases hq : a.tmps[t]? with
        | none => rw [hq] at hc'; simp [undef] at hc'
        | some x => rw [hq] at hc'; simp at hc'; subst hc'; rfl
      rcases hcase with ⟨hc, hy⟩ | ⟨hc, hno⟩ | ⟨hc, hno⟩
      · have hw : Region.wanted o (yielded ops a.tmps) = true := by simp [Region.wanted, hg, htn _ hc]
        simp only [hw, if_true]
        exact .inl (run hy)
      · have hw : Region.wanted o (yielded ops a.tmps) = false := by simp [Region.wanted, hg, htn _ hc]
        simp only [hw]
        exact next undef w (Below.refl _ _) hno
      · have hy0 : yielded ops a.tmps g = none := by
          have hc' : a.tmps.getD t undef = undef := hc
          rw [Array.getD_eq_getD_getElem?] at hc'
          unfold yielded
          rw [ht]
          simp only [Option.bind_some]
          cases hq : a.tmps[t]? with
          | none => rfl
          | some x => rw [hq] at hc'; simp at hc'; subst hc'; rfl
        have hw : Region.wanted o (yielded ops a.tmps) = false := by simp [Region.wanted, hg, hy0]
        simp only [hw]
        exact next undef w (Below.refl _ _) hno

/-- THE RULE, with how many slots there are. -/
theorem wp_softS {id : Nat} {l : List Oper} {w : World} (hm : P.follows .mixedOrders = true) (n : Nat) (ds : List (Nat × List Nat)) (Fs : List Fact)
    (hB : okFrom l.toArray ds n 0 l ds = true) (hn : a0.tmps.size = n) (hlen : l.length = Fs.length)
    (hS : Steps P l.toArray ds Fs a0 w.drew l ds Fs)
    (hQ : ∀ a w', Below w.drew.heap.size w.drew w' → a.defers = a0.defers → a.tmps.size = n → (∀ t, Knows ds Fs a0 t (a.tmps.getD t undef) w') → Q .normal a w') :
    (Code.region id l.toArray true).wp P Q a0 w := by
  obtain ⟨hll, hall⟩ := okFrom_spec hB
  have hinj' : ∀ i s t, seat ds s = some i → seat ds t = some i → s = t := fun i s t hs ht => by
    unfold seat at hs ht
    obtain ⟨h1, h2, _⟩ := List.findIdx?_eq_some_iff_getElem.1 hs
    obtain ⟨_, h3, _⟩ := List.findIdx?_eq_some_iff_getElem.1 ht
    simp only [beq_iff_eq] at h2 h3
    rw [← h2, ← h3]
  refine wp_region_any hm (wpAny_soft (P := P) (ops := l.toArray) (ds := ds) (Fs := Fs) (a0 := a0) (W0 := w.drew) (n := n) (fun i o ho => ?_) hinj' (fun listed a w' hal hsz hI => ?_) _ _ _ _ (by simp) ?_ ?_)
  · have ho' : l[i]? = some o := by simpa using ho
    obtain ⟨d, hd, hk⟩ := hall i o ho'
    rw [Nat.zero_add] at hk
    exact ⟨d, hk, Steps_spec hS hll hlen i o d ho' hd⟩
  · refine hQ a w' hI.1 hI.2.1 hI.2.2.1 fun t => ?_
    have h4 := hI.2.2.2 t
    unfold Knows
    cases hq : seat ds t with
    | none => simp only [hq] at h4 ⊢; exact h4
    | some j =>
      simp only [hq] at h4 ⊢
      obtain ⟨hj, _⟩ := List.findIdx?_eq_some_iff_getElem.1 (show ds.findIdx? (fun p => p.1 == t) = some j from hq)
      have hj2 : j < l.toArray.size := by simp; omega
      have h5 := hal j hj2
      have h6 : j < listed.size := by omega
      exact h4 (by simpa [Array.getD_eq_getD_getElem?, h6] using h5)
  · unfold left
    have := List.length_filter_le (fun i => !(Array.replicate l.toArray.size false).getD i true) (List.range l.toArray.size)
    simpa using this
  · refine ⟨Below.refl _ _, rfl, hn, fun t => ?_⟩
    cases hq : seat ds t with
    | none => rfl
    | some j =>
      simp only
      intro h
      exfalso
      rw [Array.getD_eq_getD_getElem?, Array.getElem?_replicate] at h
      split at h <;> simp at h

/-- THE RULE. -/
theorem wp_soft {id : Nat} {l : List Oper} {w : World} (hm : P.follows .mixedOrders = true) (n : Nat) (ds : List (Nat × List Nat)) (Fs : List Fact)
    (hB : okFrom l.toArray ds n 0 l ds = true) (hn : a0.tmps.size = n) (hlen : l.length = Fs.length)
    (hS : Steps P l.toArray ds Fs a0 w.drew l ds Fs)
    (hQ : ∀ a w', Below w.drew.heap.size w.drew w' → a.defers = a0.defers → (∀ t, Knows ds Fs a0 t (a.tmps.getD t undef) w') → Q .normal a w') :
    (Code.region id l.toArray true).wp P Q a0 w :=
  wp_softS hm n ds Fs hB hn hlen hS fun a w' h1 h2 _ h3 => hQ a w' h1 h2 h3

/-- the frame behind such a region: what was there, with the region's slots put -/
theorem act_puts {a : Act} {w' : World} {n : Nat} (hd : a.defers = a0.defers) (hs : a.tmps.size = n) (hn : a0.tmps.size = n) (hk : ∀ t, Knows ds Fs a0 t (a.tmps.getD t undef) w') :
    a = (ds.map (·.1)).foldl (fun b t => b.put (some t) (a.tmps.getD t undef)) a0 := by
  have key : ∀ (ts : List Nat) (b : Act), b.tmps.size = n → b.defers = a.defers → (∀ t, t < n → t ∉ ts → b.tmps.getD t undef = a.tmps.getD t undef) → ts.foldl (fun b t => b.put (some t) (a.tmps.getD t undef)) b = a := by
    intro ts
    induction ts with
    | nil =>
      intro b hb hbd h
      obtain ⟨bt, bd⟩ := b
      obtain ⟨at_, ad⟩ := a
      simp only at hb hbd hs h
      subst hbd
      have e : bt = at_ := Array.ext (by omega) fun i h1 h2 => by
        have := h i (by omega) (by simp)
        simpa [Array.getD_eq_getD_getElem?, h1, h2] using this
      subst e
      rfl
    | cons t ts ih =>
      intro b hb hbd h
      refine ih _ (by simpa [Act.put] using hb) (by simpa [Act.put] using hbd) fun s hsn hs' => ?_
      by_cases e : s = t
      · subst e
        have hlt : s < b.tmps.size := by omega
        simp [Act.put, Array.getD_eq_getD_getElem?, hlt]
      · have h1 := h s hsn (by simp [e, hs'])
        rw [← h1]
        simp [Act.put, Array.getD_eq_getD_getElem?, Array.getElem?_setIfInBounds_ne (Ne.symm e)]
  refine (key (ds.map (·.1)) a0 hn hd.symm fun t _ ht => ?_).symm
  have h := hk t
  unfold Knows at h
  have hq : seat ds t = none := by
    unfold seat
    rw [List.findIdx?_eq_none_iff]
    intro p hp
    simp only [beq_eq_false_iff_ne]
    intro e
    exact ht (List.mem_map.2 ⟨p, hp, e⟩)
  rw [hq] at h
  exact h.symm
end
end Go.Proofs.Ytgicjdlpkphfnaa

namespace Go.Proofs.Ytgicjdlpkphfnaa
open Go.RowKit
set_option maxRecDepth 100000

theorem own_keep {w w' : World} {B n : Nat} {v : Value} {e : TypeId} {xs : List Value} (h : w.ownsRow B e 1 v n xs) (hb : Below w.heap.size w w') : w'.ownsRow B e 1 v n xs :=
  h.kept (row := none) ⟨hb.os, hb.tape, hb.output, hb.size, fun k hk _ => hb.block k hk⟩ (by cases hv : v.ownBlock <;> simp)
/-- memory of one's own that holds just these bytes -/
def Fact.own (T : List UInt8) : Fact := ⟨fun v w => ∃ B n, w.ownsRow B 5 1 v n (cells T), fun _ _ _ ⟨B, n, h⟩ hb => ⟨B, n, own_keep h hb⟩⟩
/-- a slice that reads as these bytes -/
def Fact.lies (T : List UInt8) (n : Nat) : Fact := ⟨fun v w => ∃ A c, v = .slice A n c ∧ Lies w A (cells T), fun _ _ _ ⟨A, c, e, h⟩ hb => ⟨A, c, e, h.below hb⟩⟩

/-- a function with a body is entered -/
theorem enters {P : Program} {f : FuncId} (h : (P.funcs[f]?).map (fun fn => (fn.name == "runtime.NumGoroutine", fn.body.isNone)) = some (false, false)) (args : Array Value) (w : World) : (callFunc f args).run P w = .ok (.enter f args) w := by
  obtain ⟨fn, hf, he⟩ := Option.map_eq_some_iff.1 h
  simp only [Prod.mk.injEq] at he
  have h1 : fn.name ≠ "runtime.NumGoroutine" := by simpa using he.1
  simp [callFunc, hf, h1]
  intro hb
  rw [hb] at he
  simp at he

theorem soft_call1 {P : Program} {w : World} {F : Fact} {ρ : Operand → Value} {o : Oper} {x : Operand} {f : FuncId} {ats : Array TypeId} {vx : Value} {R : Ending → World → Prop}
    (hf : ∀ f, ρ (.func f) = .func (.func f) #[] #[]) (hx : ρ x = vx) (hc : Calls P f #[vx] w R) (ho : o.op = .call { callee := .value (.func f), args := #[x], argTypes := ats })
    (hfn : (P.funcs[f]?).map (fun fn => (fn.name == "runtime.NumGoroutine", fn.body.isNone)) = some (false, false)) (hR : ∀ e w', R e w' → ∃ v, e = .returned v ∧ F.φ v w' ∧ Below w.heap.size w w') : softUpon P w F ((execOp ρ o).run P w) := by
  have e : (execOp ρ o).run P w = .ok (.enter f #[vx]) w := by
    simp [execOp, ho, resolve, invoke, hf, hx, Deferred.ofValue, go_sem, enters hfn]
  rw [e]
  exact ⟨rfl, hc.mono hR⟩
theorem soft_call2 {P : Program} {w : World} {F : Fact} {ρ : Operand → Value} {o : Oper} {x y : Operand} {f : FuncId} {ats : Array TypeId} {vx vy : Value} {R : Ending → World → Prop}
    (hf : ∀ f, ρ (.func f) = .func (.func f) #[] #[]) (hx : ρ x = vx) (hy : ρ y = vy) (hc : Calls P f #[vx, vy] w R) (ho : o.op = .call { callee := .value (.func f), args := #[x, y], argTypes := ats })
    (hfn : (P.funcs[f]?).map (fun fn => (fn.name == "runtime.NumGoroutine", fn.body.isNone)) = some (false, false)) (hR : ∀ e w', R e w' → ∃ v, e = .returned v ∧ F.φ v w' ∧ Below w.heap.size w w') : softUpon P w F ((execOp ρ o).run P w) := by
  have e : (execOp ρ o).run P w = .ok (.enter f #[vx, vy]) w := by
    simp [execOp, ho, resolve, invoke, hf, hx, hy, Deferred.ofValue, go_sem, enters hfn]
  rw [e]
  exact ⟨rfl, hc.mono hR⟩
theorem under_none {ops : Array Oper} {ρ : Operand → Value} {o : Oper} {yes no : Prop} (h : o.guard = none) (hy : yes) : Under ops ρ o yes no := by unfold Under; rw [h]; exact hy
theorem soft_conv {P : Program} {w : World} {ρ : Operand → Value} {o : Oper} {x : Operand} {s d : TypeId} {vx u : Value} (hx : ρ x = vx) (hr : (convert s d vx).run P w = .ok u w) (ho : o.op = .convert s d x) : softUpon P w (Fact.is u) ((execOp ρ o).run P w) := by
  have e : (execOp ρ o).run P w = .ok (.value u) w := by
    simp [execOp, ho, hx, hr]
  rw [e]
  exact ⟨rfl, Below.refl _ _⟩
theorem soft_slice {P : Program} {w : World} {ρ : Operand → Value} {o : Oper} {x y : Operand} {t : TypeId} {vx vy u : Value} (hx : ρ x = vx) (hy : ρ y = vy) (hr : (Instr.sliceAt t vx none (some vy) none).run P w = .ok u w) (ho : o.op = .slice t x none (some y) none) : softUpon P w (Fact.is u) ((execOp ρ o).run P w) := by
  have e : (execOp ρ o).run P w = .ok (.value u) w := by
    simp [execOp, ho, hx, hy, hr]
  rw [e]
  exact ⟨rfl, Below.refl _ _⟩
/-- an operation on two values -/
theorem soft_bin {P : Program} {w : World} {ρ : Operand → Value} {o : Oper} {x y : Operand} {b : BinOp} {t yt : TypeId} {vx vy u : Value} (hx : ρ x = vx) (hy : ρ y = vy) (ho : o.op = .binOp b t x y yt) (hg : eqGuard b t x y vx vy = pure ()) (hr : (binOp b t vx vy).run P w = .ok u w) : softUpon P w (Fact.is u) ((execOp ρ o).run P w) := by
  have e : (execOp ρ o).run P w = .ok (.value u) w := by
    simp [execOp, ho, hx, hy, hg, hr]
  rw [e]
  exact ⟨rfl, Below.refl _ _⟩
/-- a contract that makes bytes -/
theorem made_own {w : World} {T : List UInt8} : ∀ e w', Made w T e w' → ∃ v, e = .returned v ∧ (Fact.own T).φ v w' ∧ Below w.heap.size w w' := fun _ _ ⟨v, he, ho, hb⟩ => ⟨v, he, ⟨_, _, ho⟩, hb⟩
/-- a contract that leaves the world alone -/
theorem same_is {w : World} {c : Value} : ∀ (e : Ending) (w' : World), (e = .returned c ∧ w = w') → ∃ v, e = .returned v ∧ (Fact.is c).φ v w' ∧ Below w.heap.size w w' := fun _ _ ⟨he, hw⟩ => ⟨c, he, rfl, hw ▸ Below.refl _ _⟩
theorem below_is {w : World} {c : Value} : ∀ (e : Ending) (w' : World), (e = .returned c ∧ Below w.heap.size w w') → ∃ v, e = .returned v ∧ (Fact.is c).φ v w' ∧ Below w.heap.size w w' := fun _ _ ⟨he, hb⟩ => ⟨c, he, rfl, hb⟩
end Go.Proofs.Ytgicjdlpkphfnaa

namespace Go.Proofs.Ytgicjdlpkphfnaa
open Go.ChangeShapes Go.WideShapes Go.ChangeAt Go.RowKit
set_option maxRecDepth 100000
open Go.ChangeMaps (open_string)

theorem own : ownKnob Try.prog.godebug = none := by kernel_rfl
theorem laidOut : laidOutB Try.prog = true := by kernel_rfl

theorem trodAll_stays {H : Type} {enc : TypeId × Value → H} {P : Program} (hl : laidOutB P = true) {W W' : World} (hb : Below W.heap.size W W') :
    ∀ {ts : List TypeId} {vs : List Value} {ds : List (DataW H)} {ps : List MemPlace}, (∀ t ∈ ts, P.readableRec t = true ∧ t < P.types.size) → (∀ x ∈ ps, x.block < W.heap.size) →
      DataW.TrodAll enc P W 0 (fun _ => true) true ts vs ds ps → DataW.TrodAll enc P W' 0 (fun b => decide (b < W.heap.size)) true ts vs ds ps
  | [], vs, ds, ps, _, _, h => by
    obtain ⟨rfl, rfl, rfl⟩ := trodAll_nil h
    exact trodAll_mk0
  | t :: ts, vs, ds, ps, hr, hlt, h => by
    obtain ⟨v, vs', d, ds', p, q, rfl, rfl, rfl, h0, h1⟩ := trodAll_cons h
    have ht := hr t (by simp)
    exact trodAll_cons_mk (Below.trod hl ht.1 ht.2 h0 hb fun x hx => hlt x (by simp [hx])) (trodAll_stays hl hb (fun t' h' => hr t' (by simp [h'])) (fun x hx => hlt x (by simp [hx])) h1)

theorem trodAll_len {H : Type} {enc : TypeId × Value → H} {P : Program} {W : World} {b : Nat} {sp : Nat → Bool} {hd : Bool} :
    ∀ {ts : List TypeId} {vs : List Value} {ds : List (DataW H)} {ps : List MemPlace}, DataW.TrodAll enc P W b sp hd ts vs ds ps → ds.length = ts.length
  | [], vs, ds, ps, h => by obtain ⟨_, rfl, _⟩ := trodAll_nil h; rfl
  | t :: ts, vs, ds, ps, h => by
    obtain ⟨v, vs', d, ds', p, q, rfl, rfl, rfl, h0, h1⟩ := trodAll_cons h
    simp [trodAll_len h1]

/-- THE LAST STEP of every law. -/
theorem law_post {H : Type} {enc : TypeId × Value → H} {P : Program} {f : Func} {s : ChangeSpec} {tb : TypeId} {W W' : World} {args : Array Value} {ds gs : List (DataW H)} {before : List MemPlace}
    (hl : laidOutB P = true) (hv : s.vars = []) (hr : f.resultTypes = #[tb]) (ht : P.underlying tb = some .bool) (hp0 : f.params.toList.all (fun t => P.readableRec t && decide (t < P.types.size)) = true)
    (hfn : ∀ xs : List (DataW H), xs.length = f.params.toList.length → s.fn H xs = { results := [.lit (.bool true)], args := xs })
    (hW : DataW.Whole enc P f.params.toList s.vars false W args.toList ds gs before) (hb : Below W.heap.size W W') :
    s.post enc P f false true false false W args (.bool true) W' := by
  have hp : ∀ t ∈ f.params.toList, P.readableRec t = true ∧ t < P.types.size := fun t ht => by
    have := List.all_eq_true.1 hp0 t ht
    simpa using this
  have hlt : ∀ p ∈ before, p.block < W.heap.size := fun p hp => hW.lt p hp
  have hW' := hW
  obtain ⟨p, q, hA, hV, rfl, _, _⟩ := hW
  rw [hv] at hV
  obtain ⟨rfl, rfl⟩ := trodVars_none hV
  have hlen : ds.length = f.params.toList.length := trodAll_len hA
  have hs := hfn ds hlen
  rw [← List.append_nil ds] at hs
  refine ⟨ds, [], p ++ [], [], p, [], hW', ?_, ?_, ?_, ?_, fun h => by cases h⟩
  · rw [hs, hr]
    exact trodAll_cons_mk (shut_bool ht _) trodAll_mk0
  · rw [hs, List.append_nil]
    exact trodAll_stays hl hb hp (fun x hx => hlt x (by simp [hx])) hA
  · rw [hs, hv]; rfl
  · exact hb.frame _

theorem bytesOfU8 : Try.prog.bytesOf 5 = 1 := by kernel_rfl
theorem open_text {H : Type} {enc : TypeId × Value → H} {W : World} {r : Reach} {b0 : Nat} {v : Value} {d : DataW H} {ps : List MemPlace} (hval : Value.okWide Try.prog W r b0 9 v) (h : DataW.Trod enc Try.prog W 0 (fun _ => true) true 9 v d ps) :
    ∃ s : List UInt8, v = .string (str s) ∧ s.length ≤ maxLen := by
  obtain ⟨s, rfl, _, _, hs⟩ := open_string Try.underlying9 hval h
  have e : s.data.toList.length = s.size := by rw [Array.length_toList]; rfl
  exact ⟨s.data.toList, rfl, by rw [e]; exact hs⟩
end Go.Proofs.Ytgicjdlpkphfnaa
