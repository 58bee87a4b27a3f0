/-
  Layer 9: rows of extents of one's own, in a block of their own: read, and stored into. Nothing is assumed.
-/
import Derived.Test.YtbjaieopjkbijaaDoorL9S

namespace Go.Proofs.YtbjaieopjkbijaaDoor
open Go.RowKit
set_option maxRecDepth 100000

def Row9 (w : World) (ga n : Nat) (xs : List Tb.Ext) : Prop := xs.length = n ∧ ∃ cur : List Value, Blk w ga cur.toArray 39 ∧ cur.take (n * 2) = flatX xs
theorem Row9.of {w : World} {B n : Nat} {v : Value} {xs : List Tb.Ext} (h : w.ownsRow B 39 2 v n (flatX xs)) (h0 : 0 < n) : ∃ ga c, v = .slice (some ⟨ga, 0, none⟩) n c ∧ B ≤ ga ∧ n ≤ c ∧ Row9 w ga n xs := by
  have hl : xs.length = n := by have := h.1; rw [flatX_length] at this; omega
  rcases h.2 with ⟨-, h1⟩ | ⟨g, cap, cur, rfl, hB, hg, hnc, -, -, htk⟩
  · omega
  · exact ⟨g, cap, rfl, hB, hnc, hl, cur.toList, hg, htk⟩
theorem Row9.lt {w : World} {ga n : Nat} {xs : List Tb.Ext} (h : Row9 w ga n xs) : ga < w.heap.size := by
  obtain ⟨-, cur, hb, -⟩ := h
  exact hb.lt
theorem Row9.lies {w : World} {ga n : Nat} {xs : List Tb.Ext} (h : Row9 w ga n xs) : Lies w (some ⟨ga, 0, none⟩) (flatX xs) := by
  obtain ⟨hl, cur, hb, ht⟩ := h
  refine .inr ⟨_, rfl, hb.lt, fun j u hu => ?_⟩
  rw [Addr.add_mid, Nat.zero_add, hb.cell]
  rw [← ht, List.getElem?_take] at hu
  split at hu
  · simpa using hu
  · cases hu
theorem Row9.kept {w w' : World} {ga n : Nat} {xs : List Tb.Ext} {S : List Nat} (h : Row9 w ga n xs) (k : Kept S w w') (hn : ga ∉ S) : Row9 w' ga n xs := by
  obtain ⟨hl, cur, hb, ht⟩ := h
  exact ⟨hl, cur, k.blk hb hn, ht⟩
theorem Row9.below {w w' : World} {ga n : Nat} {xs : List Tb.Ext} (h : Row9 w ga n xs) (k : Below w.heap.size w w') : Row9 w' ga n xs := h.kept (Kept.of k []) (by simp)
theorem Row9.step {w : World} {ga n : Nat} {xs : List Tb.Ext} (h : Row9 w ga n xs) (k : Nat) (hk : k < n) (q l : Int) :
    (∃ x, w.cell? ⟨ga, k * 2, none⟩ = some x) ∧ w.frozen? ⟨ga, k * 2, none⟩ = false ∧ (∃ x, (w.setCell ⟨ga, k * 2, none⟩ (.int .i64 q)).cell? ⟨ga, k * 2 + 1, none⟩ = some x) ∧ (w.setCell ⟨ga, k * 2, none⟩ (.int .i64 q)).frozen? ⟨ga, k * 2 + 1, none⟩ = false ∧
      Row9 ((w.setCell ⟨ga, k * 2, none⟩ (.int .i64 q)).setCell ⟨ga, k * 2 + 1, none⟩ (.int .i64 l)) ga n (xs.set k ⟨q, l⟩) := by
  obtain ⟨hl, cur, hb, ht⟩ := h
  have hcl : n * 2 ≤ cur.length := by
    have := congrArg List.length ht
    rw [flatX_length, List.length_take] at this
    omega
  have hb1 := hb.set (k * 2) (.int .i64 q)
  have hb2 := hb1.set (k * 2 + 1) (.int .i64 l)
  rw [List.setIfInBounds_toArray] at hb1 hb2
  rw [List.setIfInBounds_toArray] at hb2
  refine ⟨hb.here _ (by simp; omega), hb.frozen _, hb1.here _ (by simp; omega), hb1.frozen _, by rw [List.length_set]; exact hl, _, hb2, ?_⟩
  rw [List.take_set, List.take_set, ht, flatX_set _ _ _ _ (by omega)]
theorem lit_own (w : World) : (w.alloc (.cells #[] 39)).ownsRow w.heap.size 39 2 (.slice (some ⟨w.heap.size, 0, none⟩) 0 0) 0 [] := by
  have := World.ownsRow_lit (base := w.heap.size) (e := 39) (size := 2) w #[] 0 (Nat.le_refl _) (by unfold maxLen; omega) rfl
  simpa using this
theorem Lies.kept9 {w w' : World} {ad : Addr} {xs : List Value} {S : List Nat} (h : Lies w (some ad) xs) (k : Kept S w w') (hn : ad.block ∉ S) : Lies w' (some ad) xs := by
  rcases h with h | ⟨ad', e, hb, hc⟩
  · exact .inl h
  · injection e with e
    subst e
    exact .inr ⟨ad, rfl, Nat.lt_of_lt_of_le hb k.size, fun j u hu => (World.cell?_of_block (w := w) (w' := w') (a := ad.add j) (by rw [addr_block]; exact k.block _ hb hn)).trans (hc j u hu)⟩
end Go.Proofs.YtbjaieopjkbijaaDoor
