/-
  Words for memory: a slice value that reads as a list of cells, wherever it lies, nil let in; kept over what later calls do. Nothing is assumed.
-/
import Derived.Below
import Derived.Laws.OwnMore
import Derived.Deep.AppendLies
import Derived.Deep.Draws
import Derived.Laws.BytesArg
namespace Go.Proofs.YtiipcnldedjkdaaDoor
open Go.RowKit

theorem addr_block (a : Addr) (n : Nat) : (a.add n).block = a.block := by unfold Addr.add; split <;> rfl
theorem addr_add (a : Addr) (i j : Nat) : (a.add i).add j = a.add (i + j) := by
  unfold Addr.add
  by_cases hi : i = 0 <;> by_cases hj : j = 0 <;> simp [hi, hj, Nat.add_assoc]

/-- the cells xs lie at A, one behind the other, in memory that is there -/
def Lies (w : World) (A : Option Addr) (xs : List Value) : Prop :=
  xs = [] ∨ ∃ ad, A = some ad ∧ ad.block < w.heap.size ∧ ∀ j u, xs[j]? = some u → w.cell? (ad.add j) = some u

section
variable {w w' : World} {A : Option Addr} {xs : List Value}
theorem Lies.nil : Lies w A [] := .inl rfl
theorem Lies.keep (h : Lies w A xs) (hs : w.heap.size ≤ w'.heap.size) (hk : ∀ p : Addr, p.block < w.heap.size → w'.cell? p = w.cell? p) : Lies w' A xs := by
  rcases h with h | ⟨ad, e, hb, hc⟩
  · exact .inl h
  · exact .inr ⟨ad, e, by omega, fun j u hu => (hk _ (by rw [addr_block]; exact hb)).trans (hc j u hu)⟩
theorem Lies.below (h : Lies w A xs) (hb : Below w.heap.size w w') : Lies w' A xs := h.keep hb.size fun _ hp => hb.cell hp
theorem Lies.at_ (h : Lies w A xs) {k : Nat} (hk : k < xs.length) : ∃ ad, A = some ad ∧ ad.block < w.heap.size ∧ w.cell? (ad.add k) = some xs[k] := by
  rcases h with h | ⟨ad, e, hb, hc⟩
  · subst h; simp at hk
  · exact ⟨ad, e, hb, hc k _ (List.getElem?_eq_getElem hk)⟩
theorem Lies.take (h : Lies w A xs) (k : Nat) : Lies w A (xs.take k) := by
  rcases h with h | ⟨ad, e, hb, hc⟩
  · subst h; exact .inl (by simp)
  · refine .inr ⟨ad, e, hb, fun j u hu => hc j u ?_⟩
    rw [List.getElem?_take] at hu
    split at hu
    · exact hu
    · cases hu
theorem Lies.drop (h : Lies w A xs) {k cap : Nat} (hk : xs.length ≤ cap) : Lies w (if cap = k then A else A.map (·.add k)) (xs.drop k) := by
  rcases h with h | ⟨ad, e, hb, hc⟩
  · subst h; exact .inl (by simp)
  · by_cases hl : xs.length ≤ k
    · exact .inl (List.drop_of_length_le hl)
    · rw [if_neg (by omega), e]
      refine .inr ⟨ad.add k, rfl, by rw [addr_block]; exact hb, fun j u hu => ?_⟩
      rw [addr_add]
      exact hc _ u (by rw [← hu, List.getElem?_drop])
theorem Lies.own {base : Nat} {e : TypeId} {n c : Nat} (h : w.ownsRow base e 1 (.slice A n c) n xs) : Lies w A xs := by
  rcases Nat.eq_zero_or_pos n with h0 | h0
  · exact .inl (List.eq_nil_of_length_eq_zero (by rw [h.1, h0]))
  · obtain ⟨g, cap, hv, _, hlt⟩ := h.form h0
    have hA : A = some ⟨g, 0, none⟩ := by injection hv
    subst hA
    exact .inr ⟨_, rfl, hlt, h.cells (g := g) rfl⟩
end

/-- bytes as cells -/
def cells (bs : List UInt8) : List Value := bs.map fun c => .int .u8 (c.toNat : Int)
theorem cells_length (bs : List UInt8) : (cells bs).length = bs.length := by simp [cells]
theorem cells_append (a b : List UInt8) : cells (a ++ b) = cells a ++ cells b := by simp [cells]
theorem cells_take (a : List UInt8) (k : Nat) : (cells a).take k = cells (a.take k) := by simp [cells]
theorem cells_drop (a : List UInt8) (k : Nat) : (cells a).drop k = cells (a.drop k) := by simp [cells]
theorem cells_at (a : List UInt8) (k : Nat) (h : k < a.length) : (cells a)[k]'(by rw [cells_length]; exact h) = .int .u8 (a[k].toNat : Int) := by simp [cells]
theorem cells_one (bs : List UInt8) : ∀ u ∈ cells bs, u.oneCell' = true := by
  intro u hu
  obtain ⟨c, _, rfl⟩ := List.mem_map.1 hu
  rfl
/-- a text of bytes -/
def str (bs : List UInt8) : ByteArray := ⟨bs.toArray⟩
theorem str_size (bs : List UInt8) : (str bs).size = bs.length := by simp [str, ByteArray.size]
theorem str_inj {a b : List UInt8} (h : str a = str b) : a = b := by
  unfold str at h
  injection h with h
  have := congrArg Array.toList h
  simpa using this

theorem strOfNums_cells (bs : List UInt8) : strOfNums (bs.map fun c => (c.toNat : Int)) = str bs := by
  unfold strOfNums str
  simp only [List.map_map]
  congr 2
  conv => rhs; rw [← List.map_id bs]
  apply List.map_congr_left
  intro c _
  simp [Function.comp]

/-- string(b), of any slice of bytes -/
theorem conv_str {P : Program} {w : World} {A : Option Addr} {c : Nat} {bs : List UInt8} (h : Lies w A (cells bs)) (src e : TypeId) (hs : P.underlying src = some (.slice e)) (he : P.underlying e = some (.int .u8)) (dst : TypeId) (hd : P.underlying dst = some .string) :
    (convert src dst (.slice A bs.length c)).run P w = .ok (.string (str bs)) w := by
  rw [run_convert_bytes_string w src dst e A bs.length c hs he hd]
  rcases A with _ | ad
  · have : bs = [] := by
      rcases h with h | ⟨ad, h, _⟩
      · simpa [cells] using h
      · cases h
    subst this
    simp [Conv.bytesToString, str]; rfl
  · have hl : (loadCells ad bs.length).run P w = .ok ((bs.map fun c => (c.toNat : Int)).map (Value.int .u8)).toArray w := by
      have := run_loadCells_list (P := P) w ad ((bs.map fun c => (c.toNat : Int)).map (Value.int .u8)) (fun j v hj => by
        rcases h with h | ⟨ad', h, _, hc⟩
        · have : bs = [] := by simpa [cells] using h
          subst this
          simp at hj
        · injection h with h
          subst h
          apply hc j v
          rw [← hj]
          simp [cells]
          rfl)
      simpa using this
    rw [run_bytesToString w ad bs.length c _ hl, foldl_push_bytes]
    have := strOfNums_cells bs
    unfold strOfNums at this
    simp only [ByteArray.empty, ByteArray.emptyWithCapacity]
    rw [← this]
    simp
    rfl
/-- string(b[j:j+x]): behind a cut that keeps the address where nothing is left -/
theorem conv_cut {P : Program} {w : World} {A : Option Addr} {cap j x : Nat} {bs : List UInt8} (h : Lies w A (cells bs)) (hl : bs.length ≤ cap) (hx : j + x ≤ bs.length) (src e : TypeId) (hs : P.underlying src = some (.slice e)) (he : P.underlying e = some (.int .u8)) (dst : TypeId) (hd : P.underlying dst = some .string) :
    (convert src dst (.slice (if cap = j then A else A.map (·.add j)) x (cap - j))).run P w = .ok (.string (str ((bs.drop j).take x))) w := by
  have h1 := ((h.drop (k := j) (cap := cap) (by rw [cells_length]; exact hl)).take x)
  rw [cells_drop, cells_take] at h1
  have hn : ((bs.drop j).take x).length = x := by rw [List.length_take, List.length_drop]; omega
  have := conv_str (P := P) (c := cap - j) h1 src e hs he dst hd
  rw [hn] at this
  exact this
theorem Lies.new (w : World) (cs : Array Value) (t : TypeId) : Lies (w.alloc (.cells cs t)) (some ⟨w.heap.size, 0, none⟩) cs.toList :=
  .inr ⟨_, rfl, by simp, World.news_of_block (heap_alloc_new w _)⟩
/-- string(v), v of memory of one's own -/
theorem own_str {P : Program} {w : World} {base n : Nat} {e : TypeId} {v : Value} {bs : List UInt8} (h : w.ownsRow base e 1 v n (cells bs)) (src : TypeId) (hs : P.underlying src = some (.slice e)) (he : P.underlying e = some (.int .u8)) (dst : TypeId) (hd : P.underlying dst = some .string) :
    (convert src dst v).run P w = .ok (.string (str bs)) w := by
  have hn : bs.length = n := by have := h.1; rw [cells_length] at this; omega
  subst hn
  rcases h.2 with ⟨rfl, h0⟩ | ⟨g, cap, cur, rfl, _⟩
  · have h1 : Lies w none (cells bs) := by
      have : bs = [] := List.eq_nil_of_length_eq_zero h0
      subst this
      exact Lies.nil
    have := conv_str (P := P) (c := 0) h1 src e hs he dst hd
    rw [h0] at this
    exact this
  · exact conv_str (P := P) (Lies.own h) src e hs he dst hd
/-- the length of memory of one's own -/
theorem own_form {w : World} {base n : Nat} {e : TypeId} {v : Value} {xs : List Value} (h : w.ownsRow base e 1 v n xs) : ∃ A cap, v = .slice A n cap ∧ n ≤ cap ∧ cap ≤ maxLen ∧ xs.length = n ∧ Lies w A xs := by
  have hl : xs.length = n := by have := h.1; omega
  rcases h.2 with ⟨rfl, h0⟩ | ⟨g, cap, cur, rfl, _, _, h3, h4, _⟩
  · subst h0
    have : xs = [] := List.eq_nil_of_length_eq_zero hl
    subst this
    exact ⟨none, 0, rfl, by omega, by unfold maxLen; omega, rfl, Lies.nil⟩
  · exact ⟨_, cap, rfl, h3, h4, hl, Lies.own h⟩
end Go.Proofs.YtiipcnldedjkdaaDoor
