/-
  L9S: Layer 9: steps of the laws' open orders: tables that are loaded, sectors that are handed out, texts that are compared. Nothing is assumed.
  L9R: Layer 9: rows of extents of one's own, in a block of their own: read, and stored into. Nothing is assumed.
-/
import Derived.Test.YtgicjdlpkphfnaaOpT

namespace Go.Proofs.Ytgicjdlpkphfnaa
open Go.RowKit
set_option maxRecDepth 100000

theorem eqs9 (W : World) (s : ByteArray) : (binOp .eql 9 (.string s) (.string s)).run Try.prog W = .ok (.bool true) W := by
  go_simp
theorem eqb9 (W : World) (r : Bool) : (binOp .eql 4 (.bool r) (.bool r)).run Try.prog W = .ok (.bool true) W := by
  go_simp
theorem eqt9 (W : World) (a b : List UInt8) (R : Bool) (h : decide (a = b) = R) : (binOp .eql 9 (.string (str a)) (.string (str b))).run Try.prog W = .ok (.bool R) W := by
  rw [← h, ← beq_str]
  generalize str a = x
  generalize str b = y
  go_simp
theorem net9 (W : World) (a b : List UInt8) (h : a ≠ b) : (binOp .neq 9 (.string (str a)) (.string (str b))).run Try.prog W = .ok (.bool true) W := by
  have e := beq_str a b
  rw [decide_eq_false h] at e
  generalize str a = x at *
  generalize str b = y at *
  go_simp
theorem lies_is {w : World} {T : List UInt8} {n : Nat} : ∀ (e : Ending) (w' : World), (∃ A c, e = .returned (.slice A n c) ∧ Lies w' A (cells T) ∧ Below w.heap.size w w') → ∃ v, e = .returned v ∧ (Fact.lies T n).φ v w' ∧ Below w.heap.size w w' := fun _ _ ⟨A, c, he, h, hb⟩ => ⟨_, he, ⟨A, c, rfl, h⟩, hb⟩
/-- a slice of places that was handed back -/
def Fact.places (l : List Nat) (n : Nat) : Fact := ⟨fun v w => ∃ A c, v = .slice A n c ∧ n ≤ c ∧ Lies w A (nums9 l), fun _ _ _ ⟨A, c, e, h0, h⟩ hb => ⟨A, c, e, h0, h.below hb⟩⟩
theorem places_is {w : World} {l : List Nat} {n : Nat} : ∀ (e : Ending) (w' : World), (∃ A c, e = .returned (.slice A n c) ∧ n ≤ c ∧ Lies w' A (nums9 l) ∧ Below w.heap.size w w') → ∃ v, e = .returned v ∧ (Fact.places l n).φ v w' ∧ Below w.heap.size w w' := fun _ _ ⟨A, c, he, h0, h, hb⟩ => ⟨_, he, ⟨A, c, rfl, h0, h⟩, hb⟩
theorem load_tab (W : World) (b : Nat) (g o : Int) (A : Option Addr) (n c : Nat) (h : Blk W b #[.int .i64 g, .int .i64 o, .slice A n c] 31) : (Instr.loadAt 31 (.pointer (some ⟨b, 0, none⟩))).run Try.prog W = .ok (tabV g o A n c) W := by
  obtain ⟨h0, h1, h2⟩ := h.three
  go_simp
theorem zeroT_build {w : World} {ρ : Operand → Value} {o : Oper} (ho : o.op = .build 31 #[]) : softUpon Try.prog w (Fact.is (tabV 0 0 none 0 0)) ((execOp ρ o).run Try.prog w) := by
  have e : (execOp ρ o).run Try.prog w = .ok (.value (tabV 0 0 none 0 0)) w := by
    simp [execOp, ho]
    go_simp
  rw [e]
  exact ⟨rfl, Below.refl _ _⟩
theorem soft9_index {P : Program} {w : World} {ρ : Operand → Value} {o : Oper} {x y : Operand} {t : TypeId} {vx vy u : Value} (hx : ρ x = vx) (hy : ρ y = vy) (hr : (Instr.indexAt t vx vy).run P w = .ok u w) (ho : o.op = .indexAddr t x y) : softUpon P w (Fact.is u) ((execOp ρ o).run P w) := by
  have e : (execOp ρ o).run P w = .ok (.value u) w := by
    simp [execOp, ho, hx, hy, hr]
  rw [e]
  exact ⟨rfl, Below.refl _ _⟩
end Go.Proofs.Ytgicjdlpkphfnaa

namespace Go.Proofs.Ytgicjdlpkphfnaa
open Go.RowKit
set_option maxRecDepth 100000

def Row9 (w : World) (ga n : Nat) (xs : List Tb.Ext) : Prop := xs.length = n ∧ ∃ cur : List Value, Blk w ga cur.toArray 44 ∧ cur.take (n * 2) = flatX xs
theorem Row9.of {w : World} {B n : Nat} {v : Value} {xs : List Tb.Ext} (h : w.ownsRow B 44 2 v n (flatX xs)) (h0 : 0 < n) : ∃ ga c, v = .slice (some ⟨ga, 0, none⟩) n c ∧ B ≤ ga ∧ n ≤ c ∧ Row9 w ga n xs := by
  have hl : xs.length = n := by have := h.1; rw [flatX_length] at this; omega
  rcases h.2 with ⟨-, h1⟩ | ⟨g, cap, cur, rfl, hB, hg, hnc, -, -, htk⟩
  · omega
  · exact ⟨g, cap, rfl, hB, hnc, hl, cur.toList, hg, htk⟩
theorem Row9.lt {w : World} {ga n : Nat} {xs : List Tb.Ext} (h : Row9 w ga n xs) : ga < w.heap.size := by
  obtain ⟨-, cur, hb, -⟩ := h
  exact hb.lt
theorem Row9.lies {w : World} {ga n : Nat} {xs : List Tb.Ext} (h : Row9 w ga n xs) : Lies w (some ⟨ga, 0, none⟩) (flatX xs) := by
  obtain ⟨hl, cur, hb, ht⟩ := h
  refine .inr ⟨_, rfl, hb.lt, fun j u hu => ?_⟩
  rw [Addr.add_mid, Nat.zero_add, hb.cell]
  rw [← ht, List.getElem?_take] at hu
  split at hu
  · simpa using hu
  · cases hu
theorem Row9.kept {w w' : World} {ga n : Nat} {xs : List Tb.Ext} {S : List Nat} (h : Row9 w ga n xs) (k : Kept S w w') (hn : ga ∉ S) : Row9 w' ga n xs := by
  obtain ⟨hl, cur, hb, ht⟩ := h
  exact ⟨hl, cur, k.blk hb hn, ht⟩
theorem Row9.below {w w' : World} {ga n : Nat} {xs : List Tb.Ext} (h : Row9 w ga n xs) (k : Below w.heap.size w w') : Row9 w' ga n xs := h.kept (Kept.of k []) (by simp)
theorem Row9.step {w : World} {ga n : Nat} {xs : List Tb.Ext} (h : Row9 w ga n xs) (k : Nat) (hk : k < n) (q l : Int) :
    (∃ x, w.cell? ⟨ga, k * 2, none⟩ = some x) ∧ w.frozen? ⟨ga, k * 2, none⟩ = false ∧ (∃ x, (w.setCell ⟨ga, k * 2, none⟩ (.int .i64 q)).cell? ⟨ga, k * 2 + 1, none⟩ = some x) ∧ (w.setCell ⟨ga, k * 2, none⟩ (.int .i64 q)).frozen? ⟨ga, k * 2 + 1, none⟩ = false ∧
      Row9 ((w.setCell ⟨ga, k * 2, none⟩ (.int .i64 q)).setCell ⟨ga, k * 2 + 1, none⟩ (.int .i64 l)) ga n (xs.set k ⟨q, l⟩) := by
  obtain ⟨hl, cur, hb, ht⟩ := h
  have hcl : n * 2 ≤ cur.length := by
    have := congrArg List.length ht
    rw [flatX_length, List.length_take] at this
    omega
  have hb1 := hb.set (k * 2) (.int .i64 q)
  have hb2 := hb1.set (k * 2 + 1) (.int .i64 l)
  rw [List.setIfInBounds_toArray] at hb1 hb2
  rw [List.setIfInBounds_toArray] at hb2
  refine ⟨hb.here _ (by simp; omega), hb.frozen _, hb1.here _ (by simp; omega), hb1.frozen _, by rw [List.length_set]; exact hl, _, hb2, ?_⟩
  rw [List.take_set, List.take_set, ht, flatX_set _ _ _ _ (by omega)]
theorem lit_own (w : World) : (w.alloc (.cells #[] 44)).ownsRow w.heap.size 44 2 (.slice (some ⟨w.heap.size, 0, none⟩) 0 0) 0 [] := by
  have := World.ownsRow_lit (base := w.heap.size) (e := 44) (size := 2) w #[] 0 (Nat.le_refl _) (by unfold maxLen; omega) rfl
  simpa using this
theorem Lies.kept9 {w w' : World} {ad : Addr} {xs : List Value} {S : List Nat} (h : Lies w (some ad) xs) (k : Kept S w w') (hn : ad.block ∉ S) : Lies w' (some ad) xs := by
  rcases h with h | ⟨ad', e, hb, hc⟩
  · exact .inl h
  · injection e with e
    subst e
    exact .inr ⟨ad, rfl, Nat.lt_of_lt_of_le hb k.size, fun j u hu => (World.cell?_of_block (w := w) (w' := w') (a := ad.add j) (by rw [addr_block]; exact k.block _ hb hn)).trans (hc j u hu)⟩
end Go.Proofs.Ytgicjdlpkphfnaa
