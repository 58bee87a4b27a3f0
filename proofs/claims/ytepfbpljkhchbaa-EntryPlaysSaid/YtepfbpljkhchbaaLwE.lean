/-
  Layer 14: what the laws share: the index after some Puts; a call's entry, read in its row; an index beside rows that grow. Nothing is assumed.
-/
import Derived.Test.YtepfbpljkhchbaaHd14
import Derived.Test.YtepfbpljkhchbaaGrE
import Derived.BigQuiet

namespace Go.Proofs.Ytepfbpljkhchbaa
open Go.RowKit Go.Maps En
set_option maxRecDepth 100000

/-- the index after all these Puts -/
def puts14 (l : List Opq) : List E := l.foldl (fun m o => En.put m o.t.e) []
theorem puts14_snoc (l : List Opq) (o : Opq) : puts14 (l ++ [o]) = En.put (puts14 l) o.t.e := by simp [puts14]
theorem puts14_take (l : List Opq) (k : Nat) (hk : k < l.length) : puts14 (l.take (k + 1)) = En.put (puts14 (l.take k)) l[k].t.e := by
  rw [List.take_succ_eq_append_getElem hk, puts14_snoc]
theorem puts14_ok (l : List Opq) : Ok (puts14 l) := by
  unfold puts14
  have : ∀ (l : List Opq) (m : List E), Ok m → Ok (l.foldl (fun m o => En.put m o.t.e) m) := fun l => by
    induction l with
    | nil => exact fun m h => h
    | cons o r ih => exact fun m h => ih _ (h.put o.t.e)
  exact this l [] Ok.nil
theorem put_len_le (m : List E) (h : Uq m) (e : E) : (En.put m e).length ≤ m.length + 1 := by have := len_put h e; omega
theorem puts14_len (l : List Opq) : (puts14 l).length ≤ l.length := by
  unfold puts14
  have : ∀ (l : List Opq) (m : List E), Ok m → (l.foldl (fun m o => En.put m o.t.e) m).length ≤ m.length + l.length := fun l => by
    induction l with
    | nil => exact fun m _ => Nat.le_refl _
    | cons o r ih =>
      intro m h
      have h1 := ih _ (h.put o.t.e)
      have h2 := put_len_le m h.uq o.t.e
      rw [List.foldl_cons, List.length_cons]
      omega
  have h := this l [] Ok.nil
  simpa using h

/-- a call's entry, read whole in the row of calls -/
theorem run_loadOp (w : World) (q : Addr) (o : Opq) (h : ∀ j c, (opCells o)[j]? = some c → w.cell? (q.add j) = some c) : (Instr.loadAt 35 (.pointer (some ⟨q.block, q.off + 1, none⟩))).run Try.prog w = .ok (.agg (enA o.t.e (.slice o.t.A o.t.e.sv.length o.t.cap))) w := by
  have key : ∀ j c, 0 < j → (opCells o)[j]? = some c → w.cell? ⟨q.block, q.off + j, none⟩ = some c := fun j c hj hc => cell_key h rfl hj hc
  have c0 := key 1 _ (by omega) rfl
  have c1 : w.cell? ⟨q.block, q.off + 1 + 1, none⟩ = _ := key 2 _ (by omega) rfl
  have c2 : w.cell? ⟨q.block, q.off + 1 + 2, none⟩ = _ := key 3 _ (by omega) rfl
  have c3 : w.cell? ⟨q.block, q.off + 1 + 3, none⟩ = _ := key 4 _ (by omega) rfl
  have c4 : w.cell? ⟨q.block, q.off + 1 + 4, none⟩ = _ := key 5 _ (by omega) rfl
  have c5 : w.cell? ⟨q.block, q.off + 1 + 5, none⟩ = _ := key 6 _ (by omega) rfl
  have c6 : w.cell? ⟨q.block, q.off + 1 + 6, none⟩ = _ := key 7 _ (by omega) rfl
  have c7 : w.cell? ⟨q.block, q.off + 1 + 7, none⟩ = _ := key 8 _ (by omega) rfl
  have c8 : w.cell? ⟨q.block, q.off + 1 + 8, none⟩ = _ := key 9 _ (by omega) rfl
  have c9 : w.cell? ⟨q.block, q.off + 1 + 9, none⟩ = _ := key 10 _ (by omega) rfl
  have c10 : w.cell? ⟨q.block, q.off + 1 + 10, none⟩ = _ := key 11 _ (by omega) rfl
  have c11 : w.cell? ⟨q.block, q.off + 1 + 11, none⟩ = _ := key 12 _ (by omega) rfl
  have c12 : w.cell? ⟨q.block, q.off + 1 + 12, none⟩ = _ := key 13 _ (by omega) rfl
  clear key h
  unfold enA
  go_simp
/-- a call's entry's cells, and all of its cells, as the walk spells them -/
theorem op_ent {w : World} {q : Addr} {o : Opq} (h : ∀ j c, (opCells o)[j]? = some c → w.cell? (q.add j) = some c) : w.cell? ⟨q.block, q.off + 1, none⟩ = some (.int .i64 o.t.e.id) ∧ w.cell? ⟨q.block, q.off + 1 + 1, none⟩ = some (.int .i64 o.t.e.cl) ∧ w.cell? ⟨q.block, q.off + 1 + 2, none⟩ = some (.int .i64 o.t.e.tick) ∧ w.cell? ⟨q.block, q.off + 1 + 3, none⟩ = some (.int .i64 o.t.e.cost) ∧ w.cell? ⟨q.block, q.off + 1 + 4, none⟩ = some (.bool o.t.e.pin) ∧ w.cell? ⟨q.block, q.off + 1 + 5, none⟩ = some (.int .i64 o.t.e.bid) ∧ w.cell? ⟨q.block, q.off + 1 + 6, none⟩ = some (.int .i64 o.t.e.lo) ∧ w.cell? ⟨q.block, q.off + 1 + 7, none⟩ = some (.int .i64 o.t.e.hi) ∧ w.cell? ⟨q.block, q.off + 1 + 8, none⟩ = some (.int .i64 o.t.e.many) ∧ w.cell? ⟨q.block, q.off + 1 + 9, none⟩ = some (.slice o.t.A o.t.e.sv.length o.t.cap) ∧ w.cell? ⟨q.block, q.off + 1 + 10, none⟩ = some (.int .i64 o.t.e.seq) ∧ w.cell? ⟨q.block, q.off + 1 + 11, none⟩ = some (.int .i64 o.t.e.pl) ∧ w.cell? ⟨q.block, q.off + 1 + 12, none⟩ = some (.int .i64 o.t.e.sz) := by
  have key : ∀ j c, 0 < j → (opCells o)[j]? = some c → w.cell? ⟨q.block, q.off + j, none⟩ = some c := fun j c hj hc => cell_key h rfl hj hc
  exact ⟨key 1 _ (by omega) rfl, key 2 _ (by omega) rfl, key 3 _ (by omega) rfl, key 4 _ (by omega) rfl, key 5 _ (by omega) rfl, key 6 _ (by omega) rfl, key 7 _ (by omega) rfl, key 8 _ (by omega) rfl, key 9 _ (by omega) rfl, key 10 _ (by omega) rfl, key 11 _ (by omega) rfl, key 12 _ (by omega) rfl, key 13 _ (by omega) rfl⟩
theorem op_all {w : World} {q : Addr} {o : Opq} (h : ∀ j c, (opCells o)[j]? = some c → w.cell? (q.add j) = some c) : w.cell? q = some (.int .i64 o.what) ∧ w.cell? ⟨q.block, q.off + 1, none⟩ = some (.int .i64 o.t.e.id) ∧ w.cell? ⟨q.block, q.off + 2, none⟩ = some (.int .i64 o.t.e.cl) ∧ w.cell? ⟨q.block, q.off + 3, none⟩ = some (.int .i64 o.t.e.tick) ∧ w.cell? ⟨q.block, q.off + 4, none⟩ = some (.int .i64 o.t.e.cost) ∧ w.cell? ⟨q.block, q.off + 5, none⟩ = some (.bool o.t.e.pin) ∧ w.cell? ⟨q.block, q.off + 6, none⟩ = some (.int .i64 o.t.e.bid) ∧ w.cell? ⟨q.block, q.off + 7, none⟩ = some (.int .i64 o.t.e.lo) ∧ w.cell? ⟨q.block, q.off + 8, none⟩ = some (.int .i64 o.t.e.hi) ∧ w.cell? ⟨q.block, q.off + 9, none⟩ = some (.int .i64 o.t.e.many) ∧ w.cell? ⟨q.block, q.off + 10, none⟩ = some (.slice o.t.A o.t.e.sv.length o.t.cap) ∧ w.cell? ⟨q.block, q.off + 11, none⟩ = some (.int .i64 o.t.e.seq) ∧ w.cell? ⟨q.block, q.off + 12, none⟩ = some (.int .i64 o.t.e.pl) ∧ w.cell? ⟨q.block, q.off + 13, none⟩ = some (.int .i64 o.t.e.sz) ∧ w.cell? ⟨q.block, q.off + 14, none⟩ = some (.int .i64 o.id) ∧ w.cell? ⟨q.block, q.off + 15, none⟩ = some (.bool o.is) ∧ w.cell? ⟨q.block, q.off + 16, none⟩ = some (.int .i64 o.cl) ∧ w.cell? ⟨q.block, q.off + 17, none⟩ = some (.int .i64 o.sq) ∧ w.cell? ⟨q.block, q.off + 18, none⟩ = some (.int .i64 o.pl) ∧ w.cell? ⟨q.block, q.off + 19, none⟩ = some (.int .i64 o.sz) := by
  have key : ∀ j c, 0 < j → (opCells o)[j]? = some c → w.cell? ⟨q.block, q.off + j, none⟩ = some c := fun j c hj hc => cell_key h rfl hj hc
  have h0 : w.cell? q = some (.int .i64 o.what) := by have := h 0 _ rfl; simpa [Addr.add] using this
  exact ⟨h0, key 1 _ (by omega) rfl, key 2 _ (by omega) rfl, key 3 _ (by omega) rfl, key 4 _ (by omega) rfl, key 5 _ (by omega) rfl, key 6 _ (by omega) rfl, key 7 _ (by omega) rfl, key 8 _ (by omega) rfl, key 9 _ (by omega) rfl, key 10 _ (by omega) rfl, key 11 _ (by omega) rfl, key 12 _ (by omega) rfl, key 13 _ (by omega) rfl, key 14 _ (by omega) rfl, key 15 _ (by omega) rfl, key 16 _ (by omega) rfl, key 17 _ (by omega) rfl, key 18 _ (by omega) rfl, key 19 _ (by omega) rfl⟩
theorem ent_all {w : World} {q : Addr} {t : Ent} (h : ∀ j c, (entCs t)[j]? = some c → w.cell? (q.add j) = some c) : w.cell? q = some (.int .i64 t.e.id) ∧ w.cell? ⟨q.block, q.off + 1, none⟩ = some (.int .i64 t.e.cl) ∧ w.cell? ⟨q.block, q.off + 2, none⟩ = some (.int .i64 t.e.tick) ∧ w.cell? ⟨q.block, q.off + 3, none⟩ = some (.int .i64 t.e.cost) ∧ w.cell? ⟨q.block, q.off + 4, none⟩ = some (.bool t.e.pin) ∧ w.cell? ⟨q.block, q.off + 5, none⟩ = some (.int .i64 t.e.bid) ∧ w.cell? ⟨q.block, q.off + 6, none⟩ = some (.int .i64 t.e.lo) ∧ w.cell? ⟨q.block, q.off + 7, none⟩ = some (.int .i64 t.e.hi) ∧ w.cell? ⟨q.block, q.off + 8, none⟩ = some (.int .i64 t.e.many) ∧ w.cell? ⟨q.block, q.off + 9, none⟩ = some (.slice t.A t.e.sv.length t.cap) ∧ w.cell? ⟨q.block, q.off + 10, none⟩ = some (.int .i64 t.e.seq) ∧ w.cell? ⟨q.block, q.off + 11, none⟩ = some (.int .i64 t.e.pl) ∧ w.cell? ⟨q.block, q.off + 12, none⟩ = some (.int .i64 t.e.sz) := by
  have key : ∀ j c, 0 < j → (entCs t)[j]? = some c → w.cell? ⟨q.block, q.off + j, none⟩ = some c := fun j c hj hc => cell_key h rfl hj hc
  have h0 : w.cell? q = some (.int .i64 t.e.id) := by have := h 0 _ rfl; simpa [Addr.add] using this
  exact ⟨h0, key 1 _ (by omega) rfl, key 2 _ (by omega) rfl, key 3 _ (by omega) rfl, key 4 _ (by omega) rfl, key 5 _ (by omega) rfl, key 6 _ (by omega) rfl, key 7 _ (by omega) rfl, key 8 _ (by omega) rfl, key 9 _ (by omega) rfl, key 10 _ (by omega) rfl, key 11 _ (by omega) rfl, key 12 _ (by omega) rfl⟩
theorem own_block_lt {w : World} {base size n : Nat} {v : Value} {e : TypeId} {xs : List Value} (h : w.ownsRow base e size v n xs) : ∀ r ∈ v.ownBlock.toList, r < w.heap.size ∧ base ≤ r := by
  intro r hr
  rcases h.2 with ⟨rfl, -⟩ | ⟨g, cap, cur, rfl, hb, hg, -⟩
  · cases hr
  · simp only [Value.ownBlock, Option.toList_some, List.mem_singleton] at hr
    subst hr
    exact ⟨(Array.getElem?_eq_some_iff.1 hg).1, hb⟩
theorem row_form {w : World} {base size n : Nat} {v : Value} {e : TypeId} {xs : List Value} (h : w.ownsRow base e size v n xs) : ∃ A cap, v = .slice A n cap ∧ n ≤ cap ∧ cap ≤ maxLen ∧ (n = 0 ∨ Lies w A xs) ∧ (∀ ad, A = some ad → base ≤ ad.block) ∧ (v.ownBlock = A.map (·.block)) := by
  rcases h.2 with ⟨rfl, h0⟩ | ⟨g, cap, cur, rfl, hb, hg, h1, h2, h3⟩
  · subst h0
    exact ⟨none, 0, rfl, Nat.le_refl _, Nat.zero_le _, .inl rfl, fun _ e => (by cases e), rfl⟩
  · exact ⟨_, cap, rfl, h1, h2, .inr (.inr ⟨_, rfl, (h.lt g rfl).2, h.cells (g := g) rfl⟩), fun ad e => (by cases e; exact hb), rfl⟩
theorem nil_of_len {α : Type} {l : List α} (h : l.length = 0) : l = [] := List.eq_nil_of_length_eq_zero h
theorem row_lies {w : World} {base : Nat} {v : Value} {e : TypeId} {l : List Int} (h : w.ownsRow base e 1 v l.length (nums l)) : ∃ A cap, v = .slice A l.length cap ∧ l.length ≤ cap ∧ cap ≤ maxLen ∧ Lies w A (nums l) := by
  obtain ⟨A, cap, h1, h2, h3, h4, -⟩ := row_form h
  refine ⟨A, cap, h1, h2, h3, ?_⟩
  rcases h4 with h4 | h4
  · rw [nil_of_len h4]; exact .inl rfl
  · exact h4
theorem lies_row {w : World} {base m caps : Nat} {A : Option Addr} {e : TypeId} {L : List Int} (hm : L.length = m) (h : w.ownsRow base e 1 (.slice A m caps) m (nums L)) : Lies w A (nums L) := by
  subst hm
  obtain ⟨A', c', e', -, -, h'⟩ := row_lies h
  cases e'
  exact h'
theorem own_off14 {w w' : World} {base size n : Nat} {e : TypeId} {v : Value} {xs : List Value} {S : List Nat} (h : w.ownsRow base e size v n xs) (k : Kept S w w') (hS : ∀ s ∈ S, s ∉ v.ownBlock.toList) : w'.ownsRow base e size v n xs := by
  refine ⟨h.1, h.2.imp id ?_⟩
  rintro ⟨g, cap, cur, rfl, h2, h3, h4⟩
  exact ⟨g, cap, cur, rfl, h2, (k.block g (Array.getElem?_eq_some_iff.1 h3).1 (fun hm => hS g hm (by simp [Value.ownBlock]))).trans h3, h4⟩
/-- beside an index, something is added to a row of one's own -/
theorem IsIdx.row_app {v v3 : Value} {W w3 : World} {x b : Nat} {p : Int → Nat} {m : List E} (h : IsIdx v.ownBlock.toList W x b p m) (hg : W.grownBy w3 v.ownBlock) (hb : v3.ownBlock = v.ownBlock ∨ v3.ownBlock = some W.heap.size) : IsIdx v3.ownBlock.toList w3 x b p m := by
  have h1 := h.more (R' := v.ownBlock.toList ++ v3.ownBlock.toList) (fun r hr => by
    rcases List.mem_append.1 hr with hr | hr
    · exact .inl hr
    · rcases hb with hb | hb
      · rw [hb] at hr; exact .inl hr
      · rw [hb] at hr
        simp only [Option.toList_some, List.mem_singleton] at hr
        exact .inr (by omega))
  have h2 := h1.keep (grown_kept hg) (fun s hs => .inl (List.mem_append_left _ hs))
  exact h2.more (fun r hr => .inl (List.mem_append_right _ hr))
theorem upd_some (m : List E) (i : Int) (f : E → E) (hf : ∀ x, (f x).id = x.id) (j : Int) : (En.get (En.upd m i f) j).isSome = (En.get m j).isSome := by
  rw [get_upd m i j f hf]
  split
  · cases En.get m j <;> rfl
  · rfl
end Go.Proofs.Ytepfbpljkhchbaa
