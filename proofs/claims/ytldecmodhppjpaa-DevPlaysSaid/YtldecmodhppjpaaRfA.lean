/-
  Layer 7's given answer: its device in memory, and what asks or changes its box alone. Nothing is assumed.
-/
import Derived.Test.YtldecmodhppjpaaLwK

namespace Go.Proofs.Ytldecmodhppjpaa
open Go.RowKit
set_option maxRecDepth 100000

/-- a row of anything, by place -/
def RowN (w : World) (b : Nat) (t : TypeId) (n : Nat) (V : Nat → Value) : Prop := ∃ cs, Blk w b cs t ∧ cs.size = n ∧ ∀ i, i < n → cs[i]? = some (V i)
section
variable {w : World} {b : Nat} {t : TypeId} {n : Nat} {V : Nat → Value}
theorem RowN.cell (h : RowN w b t n V) {i : Nat} (hi : i < n) : w.cell? ⟨b, i, none⟩ = some (V i) := by
  obtain ⟨cs, h1, h2, h3⟩ := h
  rw [h1.cell]; exact h3 i hi
theorem RowN.frozen (h : RowN w b t n V) (i : Nat) : w.frozen? ⟨b, i, none⟩ = false := by
  obtain ⟨cs, h1, h2, h3⟩ := h
  exact h1.frozen i
theorem RowN.lt (h : RowN w b t n V) : b < w.heap.size := by
  obtain ⟨cs, h1, h2, h3⟩ := h
  exact h1.lt
theorem RowN.kept {w' : World} {S : List Nat} (h : RowN w b t n V) (k : Kept S w w') (hq : b ∉ S) : RowN w' b t n V := by
  obtain ⟨cs, h1, h2, h3⟩ := h
  exact ⟨cs, k.blk h1 hq, h2, h3⟩
theorem RowN.set (h : RowN w b t n V) {i : Nat} (hi : i < n) (v : Value) : RowN (w.setCell ⟨b, i, none⟩ v) b t n (Plain.upd V i v) := by
  obtain ⟨cs, h1, h2, h3⟩ := h
  refine ⟨_, h1.set i _, by simpa using h2, fun j hj => ?_⟩
  unfold Plain.upd
  by_cases e : j = i
  · subst e
    rw [if_pos rfl]
    simp [h2, hi]
  · rw [if_neg e, Array.getElem?_setIfInBounds_ne (Ne.symm e)]
    exact h3 j hj
theorem RowN.congr {V' : Nat → Value} (h : RowN w b t n V) (e : ∀ i, i < n → V i = V' i) : RowN w b t n V' := by
  obtain ⟨cs, h1, h2, h3⟩ := h
  exact ⟨cs, h1, h2, fun i hi => by rw [h3 i hi, e i hi]⟩
end

/-- the given answer's device: its three rows and its box, for the same machine -/
structure IsRef (w : World) (bk bw bl g : Nat) (d : Plain.Dv) : Prop where
  ok : d.Ok
  box : Blk w g #[.slice (some ⟨bk, 0, none⟩) d.n d.n, .slice (some ⟨bw, 0, none⟩) d.n d.n, .slice (some ⟨bl, 0, none⟩) d.n d.n, .bool d.down, .int .i64 (d.done : Int), .int .i64 (d.left : Int), .bool d.cut] 63
  kept : RowN w bk 9 d.n (fun i => .string (str (d.kept i)))
  wr : ∃ Wf : Nat → ByteArray, RowN w bw 9 d.n (fun i => .string (Wf i)) ∧ ∀ i s, d.wr i = some s → Wf i = str s
  loose : RowN w bl 4 d.n (fun i => .bool (d.wr i).isSome)
  apart : bk ≠ bw ∧ bk ≠ bl ∧ bw ≠ bl ∧ bk ≠ g ∧ bw ≠ g ∧ bl ≠ g
theorem IsRef.keep {w w' : World} {bk bw bl g : Nat} {d : Plain.Dv} {S : List Nat} (h : IsRef w bk bw bl g d) (k : Kept S w w') (h0 : bk ∉ S) (h1 : bw ∉ S) (h2 : bl ∉ S) (h3 : g ∉ S) : IsRef w' bk bw bl g d :=
  ⟨h.ok, k.blk h.box h3, h.kept.kept k h0, by obtain ⟨Wf, a, b⟩ := h.wr; exact ⟨Wf, a.kept k h1, b⟩, h.loose.kept k h2, h.apart⟩
theorem IsRef.below {w w' : World} {bk bw bl g : Nat} {d : Plain.Dv} (h : IsRef w bk bw bl g d) (k : Below w.heap.size w w') : IsRef w' bk bw bl g d := h.keep (Kept.of k []) (by simp) (by simp) (by simp) (by simp)
theorem IsRef.lts {w : World} {bk bw bl g : Nat} {d : Plain.Dv} (h : IsRef w bk bw bl g d) : bk < w.heap.size ∧ bw < w.heap.size ∧ bl < w.heap.size ∧ g < w.heap.size := by
  obtain ⟨Wf, a, b⟩ := h.wr
  exact ⟨h.kept.lt, a.lt, h.loose.lt, h.box.lt⟩
/-- the box written -/
theorem IsRef.boxed {w w' : World} {bk bw bl g : Nat} {d d' : Plain.Dv} (h : IsRef w bk bw bl g d) (k : Kept [g] w w') (hn : d'.n = d.n) (hk : d'.kept = d.kept) (hw : d'.wr = d.wr) (ho : d'.Ok)
    (hb : Blk w' g #[.slice (some ⟨bk, 0, none⟩) d'.n d'.n, .slice (some ⟨bw, 0, none⟩) d'.n d'.n, .slice (some ⟨bl, 0, none⟩) d'.n d'.n, .bool d'.down, .int .i64 (d'.done : Int), .int .i64 (d'.left : Int), .bool d'.cut] 63) : IsRef w' bk bw bl g d' := by
  obtain ⟨a1, a2, a3, a4, a5, a6⟩ := h.apart
  refine ⟨ho, hb, ?_, ?_, ?_, h.apart⟩
  · rw [hn, hk]; exact h.kept.kept k (by simpa using a4)
  · rw [hn, hw]
    obtain ⟨Wf, a, b⟩ := h.wr
    exact ⟨Wf, a.kept k (by simpa using a5), b⟩
  · rw [hn, hw]; exact h.loose.kept k (by simpa using a6)

section
variable {w : World} {bk bw bl g : Nat} {d : Plain.Dv}
theorem rsize_any (h : IsRef w bk bw bl g d) : Calls Try.prog 32 #[.pointer (some ⟨g, 0, none⟩)] w fun e w' => e = .returned (.int .i64 (d.n : Int)) ∧ w = w' := by
  have c0 : w.cell? ⟨g, 0, none⟩ = some (.slice (some ⟨bk, 0, none⟩) d.n d.n) := h.box.cell 0
  go_enter Try.func32, Try.ntmps32
  go_wp2
  go_returns
  exact ⟨rfl, rfl⟩
theorem rdone_any (h : IsRef w bk bw bl g d) : Calls Try.prog 30 #[.pointer (some ⟨g, 0, none⟩)] w fun e w' => e = .returned (.int .i64 (d.done : Int)) ∧ w = w' := by
  have c0 : w.cell? ⟨g, 4, none⟩ = some (.int .i64 (d.done : Int)) := h.box.cell 4
  go_enter Try.func30, Try.ntmps30
  go_wp2
  go_returns
  exact ⟨rfl, rfl⟩
theorem rdown_any (h : IsRef w bk bw bl g d) : Calls Try.prog 28 #[.pointer (some ⟨g, 0, none⟩)] w fun e w' => e = .returned (.bool d.down) ∧ w = w' := by
  have c0 : w.cell? ⟨g, 3, none⟩ = some (.bool d.down) := h.box.cell 3
  go_enter Try.func28, Try.ntmps28
  go_wp2
  go_returns
  exact ⟨rfl, rfl⟩
theorem ris_is (i : Int) (b : Bool) (hb : d.has i = b) (h : IsRef w bk bw bl g d) : Calls Try.prog 35 #[.pointer (some ⟨g, 0, none⟩), .int .i64 i] w fun e w' => e = .returned (.bool b) ∧ w = w' := by
  have c0 : w.cell? ⟨g, 0, none⟩ = some (.slice (some ⟨bk, 0, none⟩) d.n d.n) := h.box.cell 0
  rcases b with _ | _
  · have hn : ¬ (0 ≤ i ∧ i < d.n) := fun e => by rw [(d.has_iff i).2 e] at hb; cases hb
    clear hb
    by_cases h0 : 0 ≤ i
    · have t0 : decide (0 ≤ i) = true := by simpa using h0
      have t1 : decide (i < (d.n : Int)) = false := by simp; omega
      go_enter Try.func35, Try.ntmps35
      go_wp2
      go_returns
      exact ⟨rfl, rfl⟩
    · have t0 : decide (0 ≤ i) = false := by simpa using h0
      go_enter Try.func35, Try.ntmps35
      go_wp2
      go_returns
      exact ⟨rfl, rfl⟩
  · obtain ⟨h0, h1⟩ := (d.has_iff i).1 hb
    clear hb
    have t0 : decide (0 ≤ i) = true := by simpa using h0
    have t1 : decide (i < (d.n : Int)) = true := by simpa using h1
    go_enter Try.func35, Try.ntmps35
    go_wp2
    go_returns
    exact ⟨rfl, rfl⟩

set_option maxHeartbeats 1000000 in
theorem rthing_any (h : IsRef w bk bw bl g d) (hd : d.done < 4611686018427387904) :
    Calls Try.prog 36 #[.pointer (some ⟨g, 0, none⟩)] w fun e w' => e = .returned (.int .i64 (d.begin.2 : Int)) ∧ IsRef w' bk bw bl g d.begin.1 ∧ Kept [g] w w' := by
  have c2 : w.cell? ⟨g, 3, none⟩ = some (.bool d.down) := h.box.cell 3
  have c3 : w.cell? ⟨g, 6, none⟩ = some (.bool d.cut) := h.box.cell 6
  have c4 : w.cell? ⟨g, 5, none⟩ = some (.int .i64 (d.left : Int)) := h.box.cell 5
  have c5 : w.cell? ⟨g, 4, none⟩ = some (.int .i64 (d.done : Int)) := h.box.cell 4
  have f2 := h.box.frozen 3
  have f4 := h.box.frozen 5
  have f5 := h.box.frozen 4
  have hB := h.box
  have hok := d.begin_ok h.ok
  obtain ⟨e1, e2, e3, -⟩ := d.begin_same
  have hleft := h.ok.left
  have HD := Lib.hid h
  have HE := Lib.hid (show d.begin = if d.down = true then (d, 71) else if d.cut = true ∧ d.left = 0 then ({ d with down := true }, 71) else ({ d with left := if d.cut = true then d.left - 1 else d.left, done := d.done + 1 }, 0) from rfl)
  have HR := Lib.hid (show ∀ w', Kept [g] w w' → Blk w' g #[.slice (some ⟨bk, 0, none⟩) d.n d.n, .slice (some ⟨bw, 0, none⟩) d.n d.n, .slice (some ⟨bl, 0, none⟩) d.n d.n, .bool d.begin.1.down, .int .i64 (d.begin.1.done : Int), .int .i64 (d.begin.1.left : Int), .bool d.begin.1.cut] 63 → IsRef w' bk bw bl g d.begin.1 from fun w' k hb => by
    refine h.boxed k e1 e2 e3 hok ?_
    rw [e1]; exact hb)
  clear hok e1 e2 e3 h
  obtain ⟨n, K, wr, dn, ct, lf, dne⟩ := d
  simp only at c2 c3 c4 c5 hB hleft hd
  rcases dn with _ | _
  · rcases ct with _ | _
    · -- not to be cut
      have hs5 := Lib.hid (hB.set 4 (.int .i64 ((dne : Int) + 1)))
      have hE := HE.out
      have HE2 := Lib.hid (show (Plain.Dv.begin ⟨n, K, wr, false, false, lf, dne⟩) = (⟨n, K, wr, false, false, lf, dne + 1⟩, 0) by rw [hE]; simp)
      clear hE
      go_enter Try.func36, Try.ntmps36
      go_wp2
      go_returns
      have k1 : Kept [g] w (w.setCell ⟨g, 4, none⟩ (.int .i64 ((dne : Int) + 1))) := (Kept.refl _ _).setCell (by simp) _
      refine ⟨by rw [HE2.out]; rfl, HR.out _ k1 ?_, k1⟩
      rw [HE2.out]
      simpa using hs5.out
    · by_cases h0 : lf = 0
      · subst h0
        have hs2 := Lib.hid (hB.set 3 (.bool true))
        have hE := HE.out
        have HE2 := Lib.hid (show (Plain.Dv.begin ⟨n, K, wr, false, true, 0, dne⟩) = (⟨n, K, wr, true, true, 0, dne⟩, 71) by rw [hE]; simp)
        clear hE
        go_enter Try.func36, Try.ntmps36
        go_wp2
        go_returns
        have k1 : Kept [g] w (w.setCell ⟨g, 3, none⟩ (.bool true)) := (Kept.refl _ _).setCell (by simp) _
        refine ⟨by rw [HE2.out]; rfl, HR.out _ k1 ?_, k1⟩
        rw [HE2.out]
        simpa using hs2.out
      · have hs4 := Lib.hid ((hB.set 5 (.int .i64 ((lf : Int) - 1))).set 4 (.int .i64 ((dne : Int) + 1)))
        have t0 : ((lf : Int) == 0) = false := beq_eq_false_iff_ne.2 (by omega)
        have hE := HE.out
        have HE2 := Lib.hid (show (Plain.Dv.begin ⟨n, K, wr, false, true, lf, dne⟩) = (⟨n, K, wr, false, true, lf - 1, dne + 1⟩, 0) by rw [hE]; simp [h0])
        have h1 : (1 : Int) ≤ (lf : Int) := by omega
        clear hE
        go_enter Try.func36, Try.ntmps36
        go_wp2
        go_returns
        have k1 : Kept [g] w ((w.setCell ⟨g, 5, none⟩ (.int .i64 ((lf : Int) - 1))).setCell ⟨g, 4, none⟩ (.int .i64 ((dne : Int) + 1))) := ((Kept.refl _ _).setCell (by simp) _).setCell (by simp) _
        refine ⟨by rw [HE2.out]; rfl, HR.out _ k1 ?_, k1⟩
        rw [HE2.out]
        have : ((lf - 1 : Nat) : Int) = (lf : Int) - 1 := by omega
        simpa [this] using hs4.out
  · have hE := HE.out
    have HE2 := Lib.hid (show (Plain.Dv.begin ⟨n, K, wr, true, ct, lf, dne⟩) = (⟨n, K, wr, true, ct, lf, dne⟩, 71) by rw [hE]; simp)
    clear hE
    have HB := Lib.hid hB
    go_enter Try.func36, Try.ntmps36
    go_wp2
    go_returns
    refine ⟨by rw [HE2.out]; rfl, HR.out _ (Kept.refl _ _) ?_, Kept.refl _ _⟩
    rw [HE2.out]
    exact HB.out

set_option maxHeartbeats 1000000 in
theorem rcut_any (after : Int) (ha : after ≤ 9223372036854775807) (h : IsRef w bk bw bl g d) :
    Calls Try.prog 20 #[.pointer (some ⟨g, 0, none⟩), .int .i64 after] w fun e w' => e = .returned (.tuple #[]) ∧ IsRef w' bk bw bl g (d.cutAt after) ∧ Kept [g] w w' := by
  have c3 : w.cell? ⟨g, 6, none⟩ = some (.bool d.cut) := h.box.cell 6
  have c4 : w.cell? ⟨g, 5, none⟩ = some (.int .i64 (d.left : Int)) := h.box.cell 5
  have f3 := h.box.frozen 6
  have f4 := h.box.frozen 5
  have hok := d.cutAt_ok h.ok after ha
  by_cases h0 : 0 ≤ after
  · have t0 : decide (0 ≤ after) = true := by simpa using h0
    have hE : d.cutAt after = { d with cut := true, left := after.toNat } := by unfold Plain.Dv.cutAt; rw [if_pos h0]
    have hs := (h.box.set 5 (.int .i64 after)).set 6 (.bool true)
    have k1 : Kept [g] w ((w.setCell ⟨g, 5, none⟩ (.int .i64 after)).setCell ⟨g, 6, none⟩ (.bool true)) := ((Kept.refl _ _).setCell (by simp) _).setCell (by simp) _
    have hR : IsRef ((w.setCell ⟨g, 5, none⟩ (.int .i64 after)).setCell ⟨g, 6, none⟩ (.bool true)) bk bw bl g (d.cutAt after) := by
      refine h.boxed k1 (by rw [hE]) (by rw [hE]) (by rw [hE]) hok ?_
      rw [hE]
      have : ((after.toNat : Nat) : Int) = after := by omega
      simpa [this] using hs
    have HR := Lib.hid hR
    have HK := Lib.hid k1
    clear hR k1 hE hs hok h
    go_enter Try.func20, Try.ntmps20
    go_wp2
    go_returns
    exact ⟨rfl, HR.out, HK.out⟩
  · have t0 : decide (0 ≤ after) = false := by simpa using h0
    have hE : d.cutAt after = d := by unfold Plain.Dv.cutAt; rw [if_neg h0]
    rw [hE]
    clear hE hok
    have HR := Lib.hid h
    clear h
    go_enter Try.func20, Try.ntmps20
    go_wp2
    go_returns
    exact ⟨rfl, HR.out, Kept.refl _ _⟩
end
end Go.Proofs.Ytldecmodhppjpaa
