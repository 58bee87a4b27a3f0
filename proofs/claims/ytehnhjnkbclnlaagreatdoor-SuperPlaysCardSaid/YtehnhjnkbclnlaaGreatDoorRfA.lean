/-
  RfA: Layer 7's given answer: its device in memory, and what asks or changes its box alone. Nothing is assumed.
  RfR: Layer 7's given answer: Read, and bytes out of a text. Nothing is assumed.
  RfW: Layer 7's given answer: Write. Nothing is assumed.
  RfF: Layer 7's given answer: Flush. Nothing is assumed.
  RfL: Layer 7's given answer: Loose. Nothing is assumed.
-/
import Derived.Test.YtehnhjnkbclnlaaGreatDoorLw7
import Derived.Laws.IdiomStrings

namespace Go.Proofs.YtehnhjnkbclnlaaGreatDoor
open Go.RowKit
set_option maxRecDepth 100000

/-- a row of anything, by place -/
def RowN (w : World) (b : Nat) (t : TypeId) (n : Nat) (V : Nat → Value) : Prop := ∃ cs, Blk w b cs t ∧ cs.size = n ∧ ∀ i, i < n → cs[i]? = some (V i)
section
variable {w : World} {b : Nat} {t : TypeId} {n : Nat} {V : Nat → Value}
theorem RowN.cell (h : RowN w b t n V) {i : Nat} (hi : i < n) : w.cell? ⟨b, i, none⟩ = some (V i) := by
  obtain ⟨cs, h1, h2, h3⟩ := h
  rw [h1.cell]; exact h3 i hi
theorem RowN.frozen (h : RowN w b t n V) (i : Nat) : w.frozen? ⟨b, i, none⟩ = false := by
  obtain ⟨cs, h1, h2, h3⟩ := h
  exact h1.frozen i
theorem RowN.lt (h : RowN w b t n V) : b < w.heap.size := by
  obtain ⟨cs, h1, h2, h3⟩ := h
  exact h1.lt
theorem RowN.kept {w' : World} {S : List Nat} (h : RowN w b t n V) (k : Kept S w w') (hq : b ∉ S) : RowN w' b t n V := by
  obtain ⟨cs, h1, h2, h3⟩ := h
  exact ⟨cs, k.blk h1 hq, h2, h3⟩
theorem RowN.set (h : RowN w b t n V) {i : Nat} (hi : i < n) (v : Value) : RowN (w.setCell ⟨b, i, none⟩ v) b t n (Plain.upd V i v) := by
  obtain ⟨cs, h1, h2, h3⟩ := h
  refine ⟨_, h1.set i _, by simpa using h2, fun j hj => ?_⟩
  unfold Plain.upd
  by_cases e : j = i
  · subst e
    rw [if_pos rfl]
    simp [h2, hi]
  · rw [if_neg e, Array.getElem?_setIfInBounds_ne (Ne.symm e)]
    exact h3 j hj
theorem RowN.congr {V' : Nat → Value} (h : RowN w b t n V) (e : ∀ i, i < n → V i = V' i) : RowN w b t n V' := by
  obtain ⟨cs, h1, h2, h3⟩ := h
  exact ⟨cs, h1, h2, fun i hi => by rw [h3 i hi, e i hi]⟩
end

/-- the given answer's device: its three rows and its box, for the same machine -/
structure IsRef (w : World) (bk bw bl g : Nat) (d : Plain.Dv) : Prop where
  ok : d.Ok
  box : Blk w g #[.slice (some ⟨bk, 0, none⟩) d.n d.n, .slice (some ⟨bw, 0, none⟩) d.n d.n, .slice (some ⟨bl, 0, none⟩) d.n d.n, .bool d.down, .int .i64 (d.done : Int), .int .i64 (d.left : Int), .bool d.cut] 63
  kept : RowN w bk 9 d.n (fun i => .string (str (d.kept i)))
  wr : ∃ Wf : Nat → ByteArray, RowN w bw 9 d.n (fun i => .string (Wf i)) ∧ ∀ i s, d.wr i = some s → Wf i = str s
  loose : RowN w bl 4 d.n (fun i => .bool (d.wr i).isSome)
  apart : bk ≠ bw ∧ bk ≠ bl ∧ bw ≠ bl ∧ bk ≠ g ∧ bw ≠ g ∧ bl ≠ g
theorem IsRef.keep {w w' : World} {bk bw bl g : Nat} {d : Plain.Dv} {S : List Nat} (h : IsRef w bk bw bl g d) (k : Kept S w w') (h0 : bk ∉ S) (h1 : bw ∉ S) (h2 : bl ∉ S) (h3 : g ∉ S) : IsRef w' bk bw bl g d :=
  ⟨h.ok, k.blk h.box h3, h.kept.kept k h0, by obtain ⟨Wf, a, b⟩ := h.wr; exact ⟨Wf, a.kept k h1, b⟩, h.loose.kept k h2, h.apart⟩
theorem IsRef.below {w w' : World} {bk bw bl g : Nat} {d : Plain.Dv} (h : IsRef w bk bw bl g d) (k : Below w.heap.size w w') : IsRef w' bk bw bl g d := h.keep (Kept.of k []) (by simp) (by simp) (by simp) (by simp)
theorem IsRef.lts {w : World} {bk bw bl g : Nat} {d : Plain.Dv} (h : IsRef w bk bw bl g d) : bk < w.heap.size ∧ bw < w.heap.size ∧ bl < w.heap.size ∧ g < w.heap.size := by
  obtain ⟨Wf, a, b⟩ := h.wr
  exact ⟨h.kept.lt, a.lt, h.loose.lt, h.box.lt⟩
/-- the box written -/
theorem IsRef.boxed {w w' : World} {bk bw bl g : Nat} {d d' : Plain.Dv} (h : IsRef w bk bw bl g d) (k : Kept [g] w w') (hn : d'.n = d.n) (hk : d'.kept = d.kept) (hw : d'.wr = d.wr) (ho : d'.Ok)
    (hb : Blk w' g #[.slice (some ⟨bk, 0, none⟩) d'.n d'.n, .slice (some ⟨bw, 0, none⟩) d'.n d'.n, .slice (some ⟨bl, 0, none⟩) d'.n d'.n, .bool d'.down, .int .i64 (d'.done : Int), .int .i64 (d'.left : Int), .bool d'.cut] 63) : IsRef w' bk bw bl g d' := by
  obtain ⟨a1, a2, a3, a4, a5, a6⟩ := h.apart
  refine ⟨ho, hb, ?_, ?_, ?_, h.apart⟩
  · rw [hn, hk]; exact h.kept.kept k (by simpa using a4)
  · rw [hn, hw]
    obtain ⟨Wf, a, b⟩ := h.wr
    exact ⟨Wf, a.kept k (by simpa using a5), b⟩
  · rw [hn, hw]; exact h.loose.kept k (by simpa using a6)

section
variable {w : World} {bk bw bl g : Nat} {d : Plain.Dv}
theorem rdone_any (h : IsRef w bk bw bl g d) : Calls Tryz.prog 20 #[.pointer (some ⟨g, 0, none⟩)] w fun e w' => e = .returned (.int .i64 (d.done : Int)) ∧ w = w' := by
  have c0 : w.cell? ⟨g, 4, none⟩ = some (.int .i64 (d.done : Int)) := h.box.cell 4
  go_enter Tryz.func20, Tryz.ntmps20
  go_wp2
  go_returns
  exact ⟨rfl, rfl⟩
theorem ris_is (i : Int) (b : Bool) (hb : d.has i = b) (h : IsRef w bk bw bl g d) : Calls Tryz.prog 40 #[.pointer (some ⟨g, 0, none⟩), .int .i64 i] w fun e w' => e = .returned (.bool b) ∧ w = w' := by
  have c0 : w.cell? ⟨g, 0, none⟩ = some (.slice (some ⟨bk, 0, none⟩) d.n d.n) := h.box.cell 0
  rcases b with _ | _
  · have hn : ¬ (0 ≤ i ∧ i < d.n) := fun e => by rw [(d.has_iff i).2 e] at hb; cases hb
    clear hb
    by_cases h0 : 0 ≤ i
    · have t0 : decide (0 ≤ i) = true := by simpa using h0
      have t1 : decide (i < (d.n : Int)) = false := by simp; omega
      go_enter Tryz.func40, Tryz.ntmps40
      go_wp2
      go_returns
      exact ⟨rfl, rfl⟩
    · have t0 : decide (0 ≤ i) = false := by simpa using h0
      go_enter Tryz.func40, Tryz.ntmps40
      go_wp2
      go_returns
      exact ⟨rfl, rfl⟩
  · obtain ⟨h0, h1⟩ := (d.has_iff i).1 hb
    clear hb
    have t0 : decide (0 ≤ i) = true := by simpa using h0
    have t1 : decide (i < (d.n : Int)) = true := by simpa using h1
    go_enter Tryz.func40, Tryz.ntmps40
    go_wp2
    go_returns
    exact ⟨rfl, rfl⟩

set_option maxHeartbeats 1000000 in
theorem rthing_any (h : IsRef w bk bw bl g d) (hd : d.done < 4611686018427387904) :
    Calls Tryz.prog 41 #[.pointer (some ⟨g, 0, none⟩)] w fun e w' => e = .returned (.int .i64 (d.begin.2 : Int)) ∧ IsRef w' bk bw bl g d.begin.1 ∧ Kept [g] w w' := by
  have c2 : w.cell? ⟨g, 3, none⟩ = some (.bool d.down) := h.box.cell 3
  have c3 : w.cell? ⟨g, 6, none⟩ = some (.bool d.cut) := h.box.cell 6
  have c4 : w.cell? ⟨g, 5, none⟩ = some (.int .i64 (d.left : Int)) := h.box.cell 5
  have c5 : w.cell? ⟨g, 4, none⟩ = some (.int .i64 (d.done : Int)) := h.box.cell 4
  have f2 := h.box.frozen 3
  have f4 := h.box.frozen 5
  have f5 := h.box.frozen 4
  have hB := h.box
  have hok := d.begin_ok h.ok
  obtain ⟨e1, e2, e3, -⟩ := d.begin_same
  have hleft := h.ok.left
  have HD := Lib.hid h
  have HE := Lib.hid (show d.begin = if d.down = true then (d, 71) else if d.cut = true ∧ d.left = 0 then ({ d with down := true }, 71) else ({ d with left := if d.cut = true then d.left - 1 else d.left, done := d.done + 1 }, 0) from rfl)
  have HR := Lib.hid (show ∀ w', Kept [g] w w' → Blk w' g #[.slice (some ⟨bk, 0, none⟩) d.n d.n, .slice (some ⟨bw, 0, none⟩) d.n d.n, .slice (some ⟨bl, 0, none⟩) d.n d.n, .bool d.begin.1.down, .int .i64 (d.begin.1.done : Int), .int .i64 (d.begin.1.left : Int), .bool d.begin.1.cut] 63 → IsRef w' bk bw bl g d.begin.1 from fun w' k hb => by
    refine h.boxed k e1 e2 e3 hok ?_
    rw [e1]; exact hb)
  clear hok e1 e2 e3 h
  obtain ⟨n, K, wr, dn, ct, lf, dne⟩ := d
  simp only at c2 c3 c4 c5 hB hleft hd
  rcases dn with _ | _
  · rcases ct with _ | _
    · -- not to be cut
      have hs5 := Lib.hid (hB.set 4 (.int .i64 ((dne : Int) + 1)))
      have hE := HE.out
      have HE2 := Lib.hid (show (Plain.Dv.begin ⟨n, K, wr, false, false, lf, dne⟩) = (⟨n, K, wr, false, false, lf, dne + 1⟩, 0) by rw [hE]; simp)
      clear hE
      go_enter Tryz.func41, Tryz.ntmps41
      go_wp2
      go_returns
      have k1 : Kept [g] w (w.setCell ⟨g, 4, none⟩ (.int .i64 ((dne : Int) + 1))) := (Kept.refl _ _).setCell (by simp) _
      refine ⟨by rw [HE2.out]; rfl, HR.out _ k1 ?_, k1⟩
      rw [HE2.out]
      simpa using hs5.out
    · by_cases h0 : lf = 0
      · subst h0
        have hs2 := Lib.hid (hB.set 3 (.bool true))
        have hE := HE.out
        have HE2 := Lib.hid (show (Plain.Dv.begin ⟨n, K, wr, false, true, 0, dne⟩) = (⟨n, K, wr, true, true, 0, dne⟩, 71) by rw [hE]; simp)
        clear hE
        go_enter Tryz.func41, Tryz.ntmps41
        go_wp2
        go_returns
        have k1 : Kept [g] w (w.setCell ⟨g, 3, none⟩ (.bool true)) := (Kept.refl _ _).setCell (by simp) _
        refine ⟨by rw [HE2.out]; rfl, HR.out _ k1 ?_, k1⟩
        rw [HE2.out]
        simpa using hs2.out
      · have hs4 := Lib.hid ((hB.set 5 (.int .i64 ((lf : Int) - 1))).set 4 (.int .i64 ((dne : Int) + 1)))
        have t0 : ((lf : Int) == 0) = false := beq_eq_false_iff_ne.2 (by omega)
        have hE := HE.out
        have HE2 := Lib.hid (show (Plain.Dv.begin ⟨n, K, wr, false, true, lf, dne⟩) = (⟨n, K, wr, false, true, lf - 1, dne + 1⟩, 0) by rw [hE]; simp [h0])
        have h1 : (1 : Int) ≤ (lf : Int) := by omega
        clear hE
        go_enter Tryz.func41, Tryz.ntmps41
        go_wp2
        go_returns
        have k1 : Kept [g] w ((w.setCell ⟨g, 5, none⟩ (.int .i64 ((lf : Int) - 1))).setCell ⟨g, 4, none⟩ (.int .i64 ((dne : Int) + 1))) := ((Kept.refl _ _).setCell (by simp) _).setCell (by simp) _
        refine ⟨by rw [HE2.out]; rfl, HR.out _ k1 ?_, k1⟩
        rw [HE2.out]
        have : ((lf - 1 : Nat) : Int) = (lf : Int) - 1 := by omega
        simpa [this] using hs4.out
  · have hE := HE.out
    have HE2 := Lib.hid (show (Plain.Dv.begin ⟨n, K, wr, true, ct, lf, dne⟩) = (⟨n, K, wr, true, ct, lf, dne⟩, 71) by rw [hE]; simp)
    clear hE
    have HB := Lib.hid hB
    go_enter Tryz.func41, Tryz.ntmps41
    go_wp2
    go_returns
    refine ⟨by rw [HE2.out]; rfl, HR.out _ (Kept.refl _ _) ?_, Kept.refl _ _⟩
    rw [HE2.out]
    exact HB.out

set_option maxHeartbeats 1000000 in
theorem rcut_any (after : Int) (ha : after ≤ 9223372036854775807) (h : IsRef w bk bw bl g d) :
    Calls Tryz.prog 11 #[.pointer (some ⟨g, 0, none⟩), .int .i64 after] w fun e w' => e = .returned (.tuple #[]) ∧ IsRef w' bk bw bl g (d.cutAt after) ∧ Kept [g] w w' := by
  have c3 : w.cell? ⟨g, 6, none⟩ = some (.bool d.cut) := h.box.cell 6
  have c4 : w.cell? ⟨g, 5, none⟩ = some (.int .i64 (d.left : Int)) := h.box.cell 5
  have f3 := h.box.frozen 6
  have f4 := h.box.frozen 5
  have hok := d.cutAt_ok h.ok after ha
  by_cases h0 : 0 ≤ after
  · have t0 : decide (0 ≤ after) = true := by simpa using h0
    have hE : d.cutAt after = { d with cut := true, left := after.toNat } := by unfold Plain.Dv.cutAt; rw [if_pos h0]
    have hs := (h.box.set 5 (.int .i64 after)).set 6 (.bool true)
    have k1 : Kept [g] w ((w.setCell ⟨g, 5, none⟩ (.int .i64 after)).setCell ⟨g, 6, none⟩ (.bool true)) := ((Kept.refl _ _).setCell (by simp) _).setCell (by simp) _
    have hR : IsRef ((w.setCell ⟨g, 5, none⟩ (.int .i64 after)).setCell ⟨g, 6, none⟩ (.bool true)) bk bw bl g (d.cutAt after) := by
      refine h.boxed k1 (by rw [hE]) (by rw [hE]) (by rw [hE]) hok ?_
      rw [hE]
      have : ((after.toNat : Nat) : Int) = after := by omega
      simpa [this] using hs
    have HR := Lib.hid hR
    have HK := Lib.hid k1
    clear hR k1 hE hs hok h
    go_enter Tryz.func11, Tryz.ntmps11
    go_wp2
    go_returns
    exact ⟨rfl, HR.out, HK.out⟩
  · have t0 : decide (0 ≤ after) = false := by simpa using h0
    have hE : d.cutAt after = d := by unfold Plain.Dv.cutAt; rw [if_neg h0]
    rw [hE]
    clear hE hok
    have HR := Lib.hid h
    clear h
    go_enter Tryz.func11, Tryz.ntmps11
    go_wp2
    go_returns
    exact ⟨rfl, HR.out, Kept.refl _ _⟩
end
end Go.Proofs.YtehnhjnkbclnlaaGreatDoor

namespace Go.Proofs.YtehnhjnkbclnlaaGreatDoor
open Go.RowKit
set_option maxRecDepth 100000

/-- bytes made out of a text -/
theorem conv_new (w : World) (bs : List UInt8) : ∃ (cap : Nat) (C : Array Value), (convert 9 32 (.string (str bs))).run Tryz.prog w = .ok (.slice (some ⟨w.heap.size, 0, none⟩) bs.length cap) (w.drew.alloc (.cells C 5 (C.size, C.size + 1))) ∧ bs.length ≤ C.size ∧ bs.length ≤ cap ∧ ∀ j, j < bs.length → C[j]? = (cells bs)[j]? := by
  have h := run_bytes_of_string (P := Tryz.prog) w 9 32 5 (str bs) Tryz.underlying9 Tryz.underlying32 Tryz.underlying5
  rw [str_size] at h
  refine ⟨_, _, h, ?_, ?_, fun j hj => ?_⟩
  · unfold bytesRow
    simp [str]
  · exact grownCap_ge _ _ _ _
  · unfold bytesRow
    rw [Array.getElem?_append_left (by simpa [str] using hj)]
    simp [str, cells]
theorem lies_frozen (w : World) (bs : List UInt8) (C : Array Value) (t : TypeId) (fr : Nat × Nat) (hC : ∀ j, j < bs.length → C[j]? = (cells bs)[j]?) : Lies (w.alloc (.cells C t fr)) (some ⟨w.heap.size, 0, none⟩) (cells bs) := by
  refine .inr ⟨_, rfl, by simp, fun j u hu => ?_⟩
  have hj : j < bs.length := by
    have := (List.getElem?_eq_some_iff.1 hu).1
    rwa [cells_length] at this
  rw [Addr.add_mid, Nat.zero_add]
  have h1 : (w.alloc (.cells C t fr)).heap[w.heap.size]? = some (.cells C t fr) := heap_alloc_new w _
  have h2 : (w.alloc (.cells C t fr)).cell? ⟨w.heap.size, j, none⟩ = C[j]? := by
    unfold World.cell?
    simp only [h1]
    rfl
  rw [h2, hC j hj]
  exact hu

/-- bytes and an error -/
def GivesT (w : World) (bs : List UInt8) (er : Nat) (e : Ending) (w' : World) : Prop :=
  ∃ A cap, e = .returned (.tuple #[.slice A bs.length cap, .int .i64 (er : Int)]) ∧ Lies w' A (cells bs) ∧ Below w.heap.size w w'

/-- .. and room for them -/
def GivesU (w : World) (bs : List UInt8) (er : Nat) (e : Ending) (w' : World) : Prop :=
  ∃ A cap, e = .returned (.tuple #[.slice A bs.length cap, .int .i64 (er : Int)]) ∧ bs.length ≤ cap ∧ Lies w' A (cells bs) ∧ Below w.heap.size w w'
theorem GivesU.weak {w : World} {bs : List UInt8} {er : Nat} {e : Ending} {w' : World} (h : GivesU w bs er e w') : GivesT w bs er e w' := by
  obtain ⟨A, cap, h1, -, h2, h3⟩ := h
  exact ⟨A, cap, h1, h2, h3⟩

theorem bool_idx (W : World) (ad : Addr) (n cap k : Nat) (hk : k < n) : (Instr.indexAt 33 (.slice (some ad) n cap) (.int .i64 (k : Int))).run Tryz.prog W = .ok (.pointer (some (ad.add k))) W := by
  go_simp

set_option maxHeartbeats 1000000 in
theorem rread_new (w : World) (bk bw bl g : Nat) (d : Plain.Dv) (i : Int) (h : IsRef w bk bw bl g d) :
    Calls Tryz.prog 44 #[.pointer (some ⟨g, 0, none⟩), .int .i64 i] w (GivesU w (d.read i).1 (d.read i).2) := by
  have c0 : w.cell? ⟨g, 0, none⟩ = some (.slice (some ⟨bk, 0, none⟩) d.n d.n) := h.box.cell 0
  have c1 : w.cell? ⟨g, 1, none⟩ = some (.slice (some ⟨bw, 0, none⟩) d.n d.n) := h.box.cell 1
  have c2 : w.cell? ⟨g, 2, none⟩ = some (.slice (some ⟨bl, 0, none⟩) d.n d.n) := h.box.cell 2
  have c3 : w.cell? ⟨g, 3, none⟩ = some (.bool d.down) := h.box.cell 3
  have HE := Lib.hid (show d.read i = if d.has i = false then ([], 1) else if d.down = true then ([], 71) else (d.sec i.toNat, 0) from rfl)
  cases hh : d.has i with
  | false =>
    have HH := Lib.hid (ris_is i false hh h)
    have HE2 := Lib.hid (show d.read i = ([], 1) by rw [HE.out, if_pos hh])
    clear hh h HE
    go_enter Tryz.func44, Tryz.ntmps44
    go_wp2_with fail
    refine HH.out.mono ?_
    rintro e w' ⟨rfl, rfl⟩
    go_wp2
    go_returns
    rw [HE2.out]
    exact ⟨none, 0, rfl, Nat.le_refl _, Lies.nil, Below.refl _ _⟩
  | true =>
    have HH := Lib.hid (ris_is i true hh h)
    obtain ⟨hi0, hi1⟩ := (d.has_iff i).1 hh
    obtain ⟨i, rfl⟩ := Int.eq_ofNat_of_zero_le hi0
    have hin : i < d.n := by omega
    cases hdn : d.down with
    | true =>
      rw [hdn] at c3
      have HE2 := Lib.hid (show d.read i = ([], 71) by rw [HE.out, if_neg (by simp [hh]), if_pos hdn])
      clear hh h HE hdn
      go_enter Tryz.func44, Tryz.ntmps44
      go_wp2_with fail
      refine HH.out.mono ?_
      rintro e w' ⟨rfl, rfl⟩
      go_wp2
      go_returns
      rw [HE2.out]
      exact ⟨none, 0, rfl, Nat.le_refl _, Lies.nil, Below.refl _ _⟩
    | false =>
      rw [hdn] at c3
      have HE2 := Lib.hid (show d.read i = (d.sec i, 0) by rw [HE.out, if_neg (by simp [hh]), if_neg (by simp [hdn])]; rfl)
      have hl := h.loose.cell hin
      have hk := h.kept.cell hin
      obtain ⟨Wf, hwf, hwr⟩ := h.wr
      have hw := hwf.cell hin
      obtain ⟨X, hX⟩ : ∃ X, d.sec i = X := ⟨_, rfl⟩
      have HX := Lib.hid hX
      unfold Plain.Dv.sec at hX
      obtain ⟨cap, C, hcv, hC1, hC3, hC2⟩ := conv_new w X
      have HC3 := Lib.hid hC3
      have HC := Lib.hid hC2
      have hb := (Below.refl w.heap.size w).drew.alloc (o := .cells C 5 (C.size, C.size + 1)) (Nat.le_refl _)
      have HBW := Lib.hid hb
      cases hs : d.wr i with
      | none =>
        rw [hs] at hX hl
        simp only [Option.getD_none, Option.isSome_none] at hX hl
        rw [hX] at hk
        clear hX hs h hh hdn HE hw hwf hwr hC1 hC2 hC3 hb
        obtain ⟨n, hn⟩ : ∃ n, d.n = n := ⟨_, rfl⟩
        rw [hn] at c0 c1 c2 hi1
        clear hn hin
        go_enter Tryz.func44, Tryz.ntmps44
        go_wp2_with fail
        refine HH.out.mono ?_
        rintro e w' ⟨rfl, rfl⟩
        go_wp2
        go_returns
        rw [HE2.out, HX.out]
        exact ⟨_, cap, rfl, HC3.out, lies_frozen w.drew X C _ _ HC.out, HBW.out⟩
      | some s =>
        rw [hs] at hX hl
        simp only [Option.getD_some, Option.isSome_some] at hX hl
        rw [hwr i s hs, hX] at hw
        clear hX hs h hh hdn HE hk hwf hwr hC1 hC2 hC3 hb
        obtain ⟨n, hn⟩ : ∃ n, d.n = n := ⟨_, rfl⟩
        rw [hn] at c0 c1 c2 hi1
        clear hn hin
        go_enter Tryz.func44, Tryz.ntmps44
        go_wp2_with fail
        refine HH.out.mono ?_
        rintro e w' ⟨rfl, rfl⟩
        go_wp2
        go_returns
        rw [HE2.out, HX.out]
        exact ⟨_, cap, rfl, HC3.out, lies_frozen w.drew X C _ _ HC.out, HBW.out⟩

theorem run_idxS (W : World) (b n c i : Nat) (hi : i < n) : (Instr.indexAt 61 (.slice (some ⟨b, 0, none⟩) n c) (.int .i64 (i : Int))).run Tryz.prog W = .ok (.pointer (some ⟨b, i, none⟩)) W := by
  have e : (⟨b, 0, none⟩ : Addr).add i = ⟨b, i, none⟩ := by rw [Addr.add_mid, Nat.zero_add]
  go_simp
theorem run_idxB (W : World) (b n c i : Nat) (hi : i < n) : (Instr.indexAt 33 (.slice (some ⟨b, 0, none⟩) n c) (.int .i64 (i : Int))).run Tryz.prog W = .ok (.pointer (some ⟨b, i, none⟩)) W := by
  have e : (⟨b, 0, none⟩ : Addr).add i = ⟨b, i, none⟩ := by rw [Addr.add_mid, Nat.zero_add]
  go_simp
theorem run_loadSl (W : World) (a : Addr) (v : Value) (h : W.cell? a = some v) : (Instr.loadAt 61 (.pointer (some a))).run Tryz.prog W = .ok v W := by
  go_simp
theorem run_loadBl (W : World) (a : Addr) (v : Value) (h : W.cell? a = some v) : (Instr.loadAt 33 (.pointer (some a))).run Tryz.prog W = .ok v W := by
  go_simp
theorem run_loadB (W : World) (a : Addr) (v : Value) (h : W.cell? a = some v) : (Instr.loadAt 4 (.pointer (some a))).run Tryz.prog W = .ok v W := by
  go_simp
theorem run_storeB (W : World) (a : Addr) (v o : Bool) (h : W.cell? a = some (.bool o)) (hf : W.frozen? a = false) : (Instr.storeAt 4 (.pointer (some a)) (.bool v)).run Tryz.prog W = .ok () (W.setCell a (.bool v)) := by
  go_simp
theorem rread_any (w : World) (bk bw bl g : Nat) (d : Plain.Dv) (i : Int) (h : IsRef w bk bw bl g d) :
    Calls Tryz.prog 44 #[.pointer (some ⟨g, 0, none⟩), .int .i64 i] w (GivesT w (d.read i).1 (d.read i).2) := (rread_new w bk bw bl g d i h).mono fun _ _ h => h.weak
end Go.Proofs.YtehnhjnkbclnlaaGreatDoor

namespace Go.Proofs.YtehnhjnkbclnlaaGreatDoor
open Go.ChangeShapes Go.WideShapes Go.ChangeAt Go.RowKit
set_option maxRecDepth 100000

set_option maxHeartbeats 2000000 in
theorem rwrite_any (w : World) (bk bw bl g : Nat) (d : Plain.Dv) (i : Int) (A : Option Addr) (cap len : Nat) (bs : List UInt8) (hlen : bs.length = len) (hL : Lies w A (cells bs)) (hoff : Off [g] A (cells bs)) (hdone : d.done < 4611686018427387904) (h : IsRef w bk bw bl g d) :
    Calls Tryz.prog 15 #[.pointer (some ⟨g, 0, none⟩), .int .i64 i, .slice A len cap] w fun e w' => e = .returned (.int .i64 ((d.write i bs).2 : Int)) ∧ IsRef w' bk bw bl g (d.write i bs).1 ∧ Kept [bw, bl, g] w w' := by
  by_cases hh : d.has i = true
  case neg =>
    have hh : d.has i = false := by simpa using hh
    have HH := Lib.hid (ris_is i false hh h)
    have HE2 := Lib.hid (show d.write i bs = (d, 1) by unfold Plain.Dv.write; rw [if_pos (.inl hh)])
    have HD := Lib.hid h
    clear hh h hL hoff
    go_enter Tryz.func15, Tryz.ntmps15
    go_wp2_with fail
    refine HH.out.mono ?_
    rintro e w' ⟨rfl, rfl⟩
    go_wp2
    go_returns
    rw [HE2.out]
    exact ⟨rfl, HD.out, Kept.refl _ _⟩
  have HH := Lib.hid (ris_is i true hh h)
  by_cases h64 : len = 64
  case neg =>
    have HE2 := Lib.hid (show d.write i bs = (d, 1) by unfold Plain.Dv.write; rw [if_pos (.inr (by rw [hlen]; exact h64))])
    have HD := Lib.hid h
    have t1 : ((len : Int) != 64) = true := by simp; omega
    clear hh h hL hoff
    go_enter Tryz.func15, Tryz.ntmps15
    go_wp2_with fail
    refine HH.out.mono ?_
    rintro e w' ⟨rfl, rfl⟩
    go_wp2
    go_returns
    rw [HE2.out]
    exact ⟨rfl, HD.out, Kept.refl _ _⟩
  subst h64
  have HT := Lib.hid (rthing_any h hdone)
  have HE := Lib.hid (show d.write i bs = if d.begin.2 ≠ 0 then d.begin else ({ d.begin.1 with wr := Plain.upd d.wr i.toNat (some bs) }, 0) by unfold Plain.Dv.write; rw [if_neg (by simp [hh, hlen])])
  obtain ⟨hi0, hi1⟩ := (d.has_iff i).1 hh
  obtain ⟨i, rfl⟩ := Int.eq_ofNat_of_zero_le hi0
  have hin0 : i < d.n := by omega
  have HL := Lib.hid hL
  have HO := Lib.hid hoff
  have HBL := Lib.hid hlen
  have HAP := Lib.hid h.apart
  obtain ⟨e1, e2, e3, -⟩ := d.begin_same
  have HOK := Lib.hid (d.write_ok h.ok (i : Int) bs)
  have HE1 := Lib.hid e1
  have HE2 := Lib.hid e2
  have HE3 := Lib.hid e3
  obtain ⟨n, hn⟩ : ∃ n, d.n = n := ⟨_, rfl⟩
  have HN := Lib.hid hn
  rw [hn] at hin0 hi1
  have hin := hin0
  have hlts := h.lts
  clear hh h hL hoff hlen e1 e2 e3 hn hin0
  go_enter Tryz.func15, Tryz.ntmps15
  go_wp2_with fail
  refine HH.out.mono ?_
  rintro e w' ⟨rfl, rfl⟩
  go_wp2_with fail
  refine HT.out.mono ?_
  rintro e wt ⟨rfl, hr, hk⟩
  obtain ⟨er, her⟩ : ∃ er, d.begin.2 = er := ⟨_, rfl⟩
  rw [her]
  have HK := Lib.hid hk
  have HR := Lib.hid hr
  have HL2 := Lib.hid (HL.out.kept HO.out hk)
  clear hr hk HH HT
  by_cases he : er = 0
  case neg =>
    have t1 : ((er : Int) == 0) = false := by simp; omega
    have HE4 := Lib.hid (show d.write i bs = (d.begin.1, er) by rw [HE.out, if_pos (by rw [her]; exact he), ← her])
    clear her
    go_wp2
    go_returns
    rw [HE4.out]
    exact ⟨rfl, HR.out, HK.out.mono (by simp)⟩
  subst he
  have HE4 := Lib.hid (show d.write i bs = ({ d.begin.1 with wr := Plain.upd d.wr i (some bs) }, 0) by rw [HE.out, if_neg (by rw [her]; simp), Int.toNat_natCast])
  obtain ⟨D1, hD1⟩ : ∃ D1, d.begin.1 = D1 := ⟨_, rfl⟩
  rw [hD1] at HR HE1 HE2 HE3 HE4
  have hD1n : D1.n = n := by rw [HE1.out, HN.out]
  have b0 : wt.cell? ⟨g, 1, none⟩ = some (.slice (some ⟨bw, 0, none⟩) n n) := by rw [← hD1n]; exact HR.out.box.cell 1
  have b1 : wt.cell? ⟨g, 2, none⟩ = some (.slice (some ⟨bl, 0, none⟩) n n) := by rw [← hD1n]; exact HR.out.box.cell 2
  have hgt := HR.out.lts
  have HC1 := Lib.hid (fun (W : World) (hW : Below wt.heap.size wt W) => run_loadSl W ⟨g, 1, none⟩ _ ((hW.cell (p := ⟨g, 1, none⟩) hgt.2.2.2).trans b0))
  obtain ⟨Wf, hwf, hwr⟩ := HR.out.wr
  rw [hD1n] at hwf
  have HWF := Lib.hid hwf
  have HWR := Lib.hid hwr
  have HB1 := Lib.hid b1
  have HDN := Lib.hid hD1n
  have hbd : Below wt.heap.size wt wt.drew := (Below.refl _ _).drew
  clear hD1 her b0 b1 hwf hwr hD1n
  go_wp2
  refine wp_late (by kernel_rfl) 36 [(21, [0]), (22, [21]), (23, [22]), (24, [23]), (25, [1]), (26, [2]), (27, [26]), (28, [24, 25]), (1008, [28, 27])]
    [Fact.is (.pointer (some ⟨g, 0, none⟩)), Fact.is (.pointer (some ⟨g, 0, none⟩)), Fact.is (.pointer (some ⟨g, 1, none⟩)), Fact.is (.slice (some ⟨bw, 0, none⟩) n n), Fact.is (.int .i64 (i : Int)), Fact.is (.slice A 64 cap), Fact.is (.string (str bs)), Fact.is (.pointer (some ⟨bw, i, none⟩)), default]
    [1, 1, 1, 1, 1, 1, 1, 1, 2] [8] [] [21, 22, 23, 24, 25, 26, 27, 28] ((fun _ _ w' => ∃ W, Below wt.heap.size wt W ∧ w' = W.setCell ⟨bw, i, none⟩ (.string (str bs))))
    (by kernel_rfl) (by kernel_rfl) rfl rfl ⟨?s0, ?s1, ?s2, ?s3, ?s4, ?s5, ?s6, ?s7, trivial⟩ ?late ?fin
  case s0 =>
    intro ρ W hb hc hf hr
    obtain ⟨r0, -⟩ := hr
    have e0 : ρ (.tmp 0) = .pointer (some ⟨g, 0, none⟩) := r0
    clear r0
    refine under_none rfl ?_
    exact ⟨e0, Below.refl _ _⟩
  case s1 =>
    intro ρ W hb hc hf hr
    obtain ⟨r21, -⟩ := hr
    have e21 : ρ (.tmp 21) = .pointer (some ⟨g, 0, none⟩) := r21
    clear r21
    refine under_none rfl ?_
    simp [execOp, e21, go_sem, softUpon, Fact.is, Below.refl]
  case s2 =>
    intro ρ W hb hc hf hr
    obtain ⟨r22, -⟩ := hr
    have e22 : ρ (.tmp 22) = .pointer (some ⟨g, 0, none⟩) := r22
    clear r22
    refine under_none rfl ?_
    exact soft_field e22 rfl (fun W => by go_simp)
  case s3 =>
    intro ρ W hb hc hf hr
    obtain ⟨r23, -⟩ := hr
    have e23 : ρ (.tmp 23) = .pointer (some ⟨g, 1, none⟩) := r23
    clear r23
    refine under_none rfl ?_
    exact soft_load e23 (HC1.out W (hbd.trans (hb.mono (by simp)))) rfl
  case s4 =>
    intro ρ W hb hc hf hr
    obtain ⟨r1, -⟩ := hr
    have e1 : ρ (.tmp 1) = .int .i64 (i : Int) := r1
    clear r1
    refine under_none rfl ?_
    exact ⟨e1, Below.refl _ _⟩
  case s5 =>
    intro ρ W hb hc hf hr
    obtain ⟨r2, -⟩ := hr
    have e2 : ρ (.tmp 2) = .slice A 64 cap := r2
    clear r2
    refine under_none rfl ?_
    exact ⟨e2, Below.refl _ _⟩
  case s6 =>
    intro ρ W hb hc hf hr
    obtain ⟨r26, -⟩ := hr
    have e26 : ρ (.tmp 26) = .slice A 64 cap := r26
    clear r26
    refine under_none rfl ?_
    exact soft_conv e26 (conv_lies (HL2.out.below (hbd.trans (hb.mono (by simp)))) HBL.out) rfl
  case s7 =>
    intro ρ W hb hc hf hr
    obtain ⟨r24, r25, -⟩ := hr
    have e24 : ρ (.tmp 24) = .slice (some ⟨bw, 0, none⟩) n n := r24
    clear r24
    have e25 : ρ (.tmp 25) = .int .i64 (i : Int) := r25
    clear r25
    refine under_none rfl ?_
    exact soft_index e24 e25 (run_idxS W bw n n i hin) rfl
  case late =>
    intro p j o hj ho a W hsz h0 h1 hfr hou
    match p, hj with
    | 0, hj =>
      obtain rfl : 8 = j := Option.some.inj hj
      obtain rfl := Option.some.inj ho
      clear hj ho
      obtain ⟨hb, hhard⟩ := h0 rfl
      have e28 : a.eval (.tmp 28) = .pointer (some ⟨bw, i, none⟩) := hhard 28 7 rfl rfl
      have e27 : a.eval (.tmp 27) = .string (str bs) := hhard 27 6 rfl rfl
      clear h0 h1 hhard hfr hou
      have hW := hbd.trans (hb.mono (by simp))
      refine late_store (x := .tmp 28) (y := .tmp 27) (w' := W.setCell ⟨bw, i, none⟩ (.string (str bs))) rfl (by rw [e28, e27]; exact run_storeS W _ _ _ ((HWF.out.kept (Kept.of hW []) (by simp)).cell hin) ((HWF.out.kept (Kept.of hW []) (by simp)).frozen i)) ⟨undef, rfl, W, hW, rfl⟩
    | q + 1, hj => cases hj
  case fin =>
    intro a w5 ha hP
    obtain ⟨W, hW, rfl⟩ := hP
    have hp := HAP.out
    have k1 : Kept [bw] wt (W.setCell ⟨bw, i, none⟩ (.string (str bs))) := (Kept.of hW _).setCell (by simp) _
    have HW2 := Lib.hid ((HWF.out.kept (Kept.of hW []) (by simp)).set hin (.string (str bs)))
    have HX := Lib.hid (HR.out.box)
    obtain ⟨w5, hw5⟩ : ∃ w5, W.setCell ⟨bw, i, none⟩ (.string (str bs)) = w5 := ⟨_, rfl⟩
    rw [hw5] at k1 HW2 ⊢
    have HBX := Lib.hid (k1.blk HR.out.box (by simp; exact fun h => hp.2.2.2.2.1 h.symm))
    have HKD := Lib.hid (HR.out.kept.kept k1 (by simp; exact hp.1))
    have HLD := Lib.hid (HR.out.loose.kept k1 (by simp; exact fun h => hp.2.2.1 h.symm))
    have HK1 := Lib.hid k1
    rw [HDN.out] at HBX HKD HLD
    have c2 : w5.cell? ⟨g, 2, none⟩ = some (.slice (some ⟨bl, 0, none⟩) n n) := HBX.out.cell 2
    have hcell := HLD.out.cell hin
    have hfz := HLD.out.frozen i
    have hi0' : (0 : Int) ≤ (i : Int) := by omega
    clear k1 hw5 hW HX HC1 HWF
    simp only [List.foldl_cons, List.foldl_nil] at ha
    generalize a.tmps.getD 21 undef = v21 at ha
    generalize a.tmps.getD 22 undef = v22 at ha
    generalize a.tmps.getD 23 undef = v23 at ha
    generalize a.tmps.getD 24 undef = v24 at ha
    generalize a.tmps.getD 25 undef = v25 at ha
    generalize a.tmps.getD 26 undef = v26 at ha
    generalize a.tmps.getD 27 undef = v27 at ha
    generalize a.tmps.getD 28 undef = v28 at ha
    simp only [Act.put, List.setIfInBounds_toArray, List.set_cons_succ, List.set_cons_zero] at ha
    subst ha
    go_wp2
    go_returns
    have k2 : Kept [bl] w5 (w5.setCell ⟨bl, i, none⟩ (.bool true)) := (Kept.refl _ _).setCell (by simp) _
    refine ⟨by rw [HE4.out]; rfl, ?_, (HK.out.mono (by simp)).trans ((HK1.out.mono (by simp)).trans (k2.mono (by simp)))⟩
    have hok := HOK.out
    rw [HE4.out] at hok ⊢
    have hq : ∀ j, (Plain.upd D1.wr i (some bs) j).isSome = Plain.upd (fun j => (D1.wr j).isSome) i true j := fun j => by
      unfold Plain.upd; split <;> rfl
    refine ⟨hok, ?_, ?_, ?_, ?_, HAP.out⟩
    · show Blk _ g #[.slice (some ⟨bk, 0, none⟩) D1.n D1.n, .slice (some ⟨bw, 0, none⟩) D1.n D1.n, .slice (some ⟨bl, 0, none⟩) D1.n D1.n, .bool D1.down, .int .i64 (D1.done : Int), .int .i64 (D1.left : Int), .bool D1.cut] 63
      rw [HDN.out]
      exact k2.blk HBX.out (by simp; exact fun h => hp.2.2.2.2.2 h.symm)
    · show RowN _ bk _ D1.n (fun i => .string (str (D1.kept i)))
      rw [HDN.out]
      exact HKD.out.kept k2 (by simp; exact hp.2.1)
    · refine ⟨fun j => if j = i then str bs else Wf j, ?_, fun j s hs => ?_⟩
      · show RowN _ bw _ D1.n _
        rw [HDN.out]
        exact (HW2.out.kept k2 (by simp; exact hp.2.2.1)).congr fun j _ => by by_cases e : j = i <;> simp [Plain.upd, e]
      · have hs : Plain.upd d.wr i (some bs) j = some s := hs
        show (if j = i then str bs else Wf j) = str s
        unfold Plain.upd at hs
        split at hs
        · rename_i e; rw [if_pos e]; injection hs with hs; rw [hs]
        · rename_i e; rw [if_neg e]; exact HWR.out j s (by rw [HE3.out]; exact hs)
    · show RowN _ bl _ D1.n (fun j => .bool (Plain.upd d.wr i (some bs) j).isSome)
      rw [HDN.out]
      exact (HLD.out.set hin (.bool true)).congr fun j _ => by rw [← HE3.out, hq]; unfold Plain.upd; split <;> rfl
end Go.Proofs.YtehnhjnkbclnlaaGreatDoor

namespace Go.Proofs.YtehnhjnkbclnlaaGreatDoor
open Go.ChangeShapes Go.WideShapes Go.ChangeAt Go.RowKit
set_option maxRecDepth 100000

/-- the first k ones are kept -/
def rfK (d : Plain.Dv) (k : Nat) (i : Nat) : List UInt8 := if i < k then d.sec i else d.kept i
def rfL (d : Plain.Dv) (k : Nat) (i : Nat) : Bool := if i < k then false else (d.wr i).isSome

set_option maxHeartbeats 2000000 in
theorem rflush_any (w : World) (bk bw bl g : Nat) (d : Plain.Dv) (hdone : d.done < 4611686018427387904) (h : IsRef w bk bw bl g d) :
    Calls Tryz.prog 34 #[.pointer (some ⟨g, 0, none⟩)] w fun e w' => e = .returned (.int .i64 (d.flush.2 : Int)) ∧ IsRef w' bk bw bl g d.flush.1 ∧ Kept [bk, bl, g] w w' := by
  have HT := Lib.hid (rthing_any h hdone)
  have HE := Lib.hid (show d.flush = if d.begin.2 ≠ 0 then d.begin else ({ d.begin.1 with kept := d.sec, wr := fun _ => none }, 0) from rfl)
  have HAP := Lib.hid h.apart
  obtain ⟨e1, e2, e3, -⟩ := d.begin_same
  have HOK := Lib.hid (d.flush_ok h.ok)
  have HE1 := Lib.hid e1
  have HE2 := Lib.hid e2
  have HE3 := Lib.hid e3
  obtain ⟨n, hn⟩ : ∃ n, d.n = n := ⟨_, rfl⟩
  have HN := Lib.hid hn
  have hn1 : 1 ≤ n := by rw [← hn]; exact h.ok.one
  have hn2 : n ≤ 4096 := by rw [← hn]; exact h.ok.few
  have hlts := h.lts
  clear h e1 e2 e3 hn
  go_enter Tryz.func34, Tryz.ntmps34
  go_wp2_with fail
  refine HT.out.mono ?_
  rintro e wt ⟨rfl, hr, hk⟩
  obtain ⟨er, her⟩ : ∃ er, d.begin.2 = er := ⟨_, rfl⟩
  rw [her]
  have HK := Lib.hid hk
  have HR := Lib.hid hr
  clear hr hk HT
  obtain ⟨D1, hD1⟩ : ∃ D1, d.begin.1 = D1 := ⟨_, rfl⟩
  rw [hD1] at HR HE1 HE2 HE3
  have HDN := Lib.hid (show D1.n = n by rw [HE1.out, HN.out])
  have hbx := HR.out.box
  rw [HDN.out] at hbx
  have hgt := HR.out.lts
  by_cases he : er = 0
  case neg =>
    have t1 : ((er : Int) == 0) = false := by simp; omega
    have t2 : decide ((0 : Int) < (n : Int)) = true := decide_eq_true (by omega)
    have HE4 := Lib.hid (show d.flush = (D1, er) by rw [HE.out, if_pos (by rw [her]; exact he), ← her, ← hD1])
    have c0 : wt.cell? ⟨g, 0, none⟩ = some (.slice (some ⟨bk, 0, none⟩) n n) := hbx.cell 0
    clear her hD1 hbx
    go_wp2
    go_loopw [4] (fun s wr => s = .int .i64 0 ∧ wr = wt) (fun _ _ => 0)
    case atStart => exact ⟨rfl, rfl⟩
    case round =>
      obtain ⟨rfl, rfl⟩ := hrel
      go_wp2
      go_returns
      rw [HE4.out]
      exact ⟨rfl, HR.out, HK.out.mono (by simp)⟩
  subst he
  have HE4 := Lib.hid (show d.flush = ({ D1 with kept := d.sec, wr := fun _ => none }, 0) by rw [HE.out, if_neg (by rw [her]; simp), hD1])
  have HBX := Lib.hid hbx
  obtain ⟨Wf, hwf, hwr⟩ := HR.out.wr
  rw [HDN.out] at hwf
  have HWR := Lib.hid (show ∀ i s, d.wr i = some s → Wf i = str s from fun i s hs => hwr i s (by rw [HE3.out]; exact hs))
  have HKP := Lib.hid (show RowN wt bk 9 n (fun i => .string (str (rfK d 0 i))) by
    have := HR.out.kept; rw [HDN.out, HE2.out] at this
    exact this.congr fun i _ => by simp [rfK])
  have HLP := Lib.hid (show RowN wt bl 4 n (fun i => .bool (rfL d 0 i)) by
    have := HR.out.loose; rw [HDN.out, HE3.out] at this
    exact this.congr fun i _ => by simp [rfL])
  have HWF := Lib.hid hwf
  have hp := HAP.out
  clear her hD1 hbx hwf hwr HR
  go_wp2
  go_loopw [4] (fun s wr => ∃ k : Nat, s = .int .i64 (k : Int) ∧ k ≤ n ∧ Blk wr g #[.slice (some ⟨bk, 0, none⟩) n n, .slice (some ⟨bw, 0, none⟩) n n, .slice (some ⟨bl, 0, none⟩) n n, .bool D1.down, .int .i64 (D1.done : Int), .int .i64 (D1.left : Int), .bool D1.cut] 63 ∧ RowN wr bk 9 n (fun i => .string (str (rfK d k i))) ∧ RowN wr bw 9 n (fun i => .string (Wf i)) ∧ RowN wr bl 4 n (fun i => .bool (rfL d k i)) ∧ Kept [bk, bl] wt wr) (fun s _ => n - (RowKit.intOf s).toNat)
  case atStart => exact ⟨0, rfl, Nat.zero_le _, HBX.out, HKP.out, HWF.out, HLP.out, Kept.refl _ _⟩
  case round =>
    clear HBX HKP HWF HLP
    obtain ⟨k, rfl, hk, hbx, hkp, hwf, hlp, hkk⟩ := hrel
    have HBX := Lib.hid hbx
    have HKP := Lib.hid hkp
    have HWF := Lib.hid hwf
    have HLP := Lib.hid hlp
    have HKK := Lib.hid hkk
    have zr := hkk.size
    have c0 : wr.cell? ⟨g, 0, none⟩ = some (.slice (some ⟨bk, 0, none⟩) n n) := hbx.cell 0
    have c1 : wr.cell? ⟨g, 1, none⟩ = some (.slice (some ⟨bw, 0, none⟩) n n) := hbx.cell 1
    have c2 : wr.cell? ⟨g, 2, none⟩ = some (.slice (some ⟨bl, 0, none⟩) n n) := hbx.cell 2
    clear hbx hkp hwf hlp hkk
    by_cases hkn : k < n
    · have hk0 : (0 : Int) ≤ (k : Int) := by omega
      have hk1 : (k : Int) < (n : Int) := by omega
      have hcl : wr.cell? ⟨bl, k, none⟩ = some (.bool (d.wr k).isSome) := by
        have := HLP.out.cell hkn
        simpa [rfL] using this
      cases hs : d.wr k with
      | none =>
        rw [hs] at hcl
        simp only [Option.isSome_none] at hcl
        have HK2 := Lib.hid (show ∀ i, i < n → Value.string (str (rfK d k i)) = .string (str (rfK d (k + 1) i)) from fun i hi => by
          unfold rfK
          by_cases e : i = k
          · subst e
            rw [if_neg (by omega), if_pos (by omega)]
            unfold Plain.Dv.sec
            rw [hs]; rfl
          · by_cases e2 : i < k
            · rw [if_pos e2, if_pos (by omega)]
            · rw [if_neg e2, if_neg (by omega)])
        have HL2 := Lib.hid (show ∀ i, i < n → Value.bool (rfL d k i) = .bool (rfL d (k + 1) i) from fun i hi => by
          unfold rfL
          by_cases e : i = k
          · subst e
            rw [if_neg (by omega), if_pos (by omega), hs]; rfl
          · by_cases e2 : i < k
            · rw [if_pos e2, if_pos (by omega)]
            · rw [if_neg e2, if_neg (by omega)])
        clear hs
        go_wp2
        go_roundw
        case rel => exact ⟨k + 1, by go_num, by omega, HBX.out, HKP.out.congr HK2.out, HWF.out, HLP.out.congr HL2.out, HKK.out⟩
        case measure => simp [RowKit.intOf]; omega
      | some s =>
        rw [hs] at hcl
        simp only [Option.isSome_some] at hcl
        obtain ⟨S, hS⟩ : ∃ S, str s = S := ⟨_, rfl⟩
        have HWK := Lib.hid (show Wf k = S by rw [← hS]; exact HWR.out k s hs)
        have HC0 := Lib.hid (fun (W : World) (hW : Below wr.heap.size wr W) => run_loadSl W ⟨g, 0, none⟩ _ ((hW.cell (p := ⟨g, 0, none⟩) (by have := hgt.2.2.2; show g < _; omega)).trans c0))
        have HC1 := Lib.hid (fun (W : World) (hW : Below wr.heap.size wr W) => run_loadSl W ⟨g, 1, none⟩ _ ((hW.cell (p := ⟨g, 1, none⟩) (by have := hgt.2.2.2; show g < _; omega)).trans c1))
        have HCW := Lib.hid (fun (W : World) (hW : Below wr.heap.size wr W) => run_loadS W ⟨bw, k, none⟩ S (by have := (HWF.out.kept (Kept.of hW []) (by simp)).cell hkn; rwa [HWK.out] at this))
        have HK2 := Lib.hid (show ∀ i, i < n → Plain.upd (fun i => Value.string (str (rfK d k i))) k (.string S) i = .string (str (rfK d (k + 1) i)) from fun i hi => by
          unfold rfK Plain.upd
          by_cases e : i = k
          · subst e
            rw [if_pos rfl, if_pos (by omega), ← hS]
            unfold Plain.Dv.sec
            rw [hs]; rfl
          · rw [if_neg e]
            dsimp only
            by_cases e2 : i < k
            · rw [if_pos e2, if_pos (by omega)]
            · rw [if_neg e2, if_neg (by omega)])
        have HL2 := Lib.hid (show ∀ i, i < n → Plain.upd (fun i => Value.bool (rfL d k i)) k (.bool false) i = .bool (rfL d (k + 1) i) from fun i hi => by
          unfold rfL Plain.upd
          by_cases e : i = k
          · subst e
            rw [if_pos rfl, if_pos (by omega)]
          · rw [if_neg e]
            dsimp only
            by_cases e2 : i < k
            · rw [if_pos e2, if_pos (by omega)]
            · rw [if_neg e2, if_neg (by omega)])
        have hbd : Below wr.heap.size wr wr.drew := (Below.refl _ _).drew
        clear hs hS
        go_wp2
        refine wp_late (by kernel_rfl) 47 [(27, [0]), (28, [27]), (29, [28]), (30, [29]), (31, [4]), (32, [0]), (33, [32]), (34, [33]), (35, [34]), (36, [4]), (37, [35, 36]), (38, [37]), (39, [30, 31]), (1013, [39, 38])]
          [Fact.is (.pointer (some ⟨g, 0, none⟩)), Fact.is (.pointer (some ⟨g, 0, none⟩)), Fact.is (.pointer (some ⟨g, 0, none⟩)), Fact.is (.slice (some ⟨bk, 0, none⟩) n n), Fact.is (.int .i64 (k : Int)), Fact.is (.pointer (some ⟨g, 0, none⟩)), Fact.is (.pointer (some ⟨g, 0, none⟩)), Fact.is (.pointer (some ⟨g, 1, none⟩)), Fact.is (.slice (some ⟨bw, 0, none⟩) n n), Fact.is (.int .i64 (k : Int)), Fact.is (.pointer (some ⟨bw, k, none⟩)), Fact.is (.string S), Fact.is (.pointer (some ⟨bk, k, none⟩)), default]
          [1, 1, 1, 1, 1, 1, 1, 1, 1, 1, 1, 1, 1, 2] [13] [] [27, 28, 29, 30, 31, 32, 33, 34, 35, 36, 37, 38, 39] ((fun _ _ w' => ∃ W, Below wr.heap.size wr W ∧ w' = W.setCell ⟨bk, k, none⟩ (.string S)))
          (by kernel_rfl) (by kernel_rfl) rfl rfl ⟨?s0, ?s1, ?s2, ?s3, ?s4, ?s5, ?s6, ?s7, ?s8, ?s9, ?s10, ?s11, ?s12, trivial⟩ ?late ?fin
        case s0 =>
          intro ρ W hb hc hf hr
          obtain ⟨r0, -⟩ := hr
          have e0 : ρ (.tmp 0) = .pointer (some ⟨g, 0, none⟩) := r0
          clear r0
          refine under_none rfl ?_
          exact ⟨e0, Below.refl _ _⟩
        case s1 =>
          intro ρ W hb hc hf hr
          obtain ⟨r27, -⟩ := hr
          have e27 : ρ (.tmp 27) = .pointer (some ⟨g, 0, none⟩) := r27
          clear r27
          refine under_none rfl ?_
          simp [execOp, e27, go_sem, softUpon, Fact.is, Below.refl]
        case s2 =>
          intro ρ W hb hc hf hr
          obtain ⟨r28, -⟩ := hr
          have e28 : ρ (.tmp 28) = .pointer (some ⟨g, 0, none⟩) := r28
          clear r28
          refine under_none rfl ?_
          exact soft_field e28 rfl (fun W => by go_simp)
        case s3 =>
          intro ρ W hb hc hf hr
          obtain ⟨r29, -⟩ := hr
          have e29 : ρ (.tmp 29) = .pointer (some ⟨g, 0, none⟩) := r29
          clear r29
          refine under_none rfl ?_
          exact soft_load e29 (HC0.out W (hbd.trans (hb.mono (by simp)))) rfl
        case s4 =>
          intro ρ W hb hc hf hr
          obtain ⟨r4, -⟩ := hr
          have e4 : ρ (.tmp 4) = .int .i64 (k : Int) := r4
          clear r4
          refine under_none rfl ?_
          exact ⟨e4, Below.refl _ _⟩
        case s5 =>
          intro ρ W hb hc hf hr
          obtain ⟨r0, -⟩ := hr
          have e0 : ρ (.tmp 0) = .pointer (some ⟨g, 0, none⟩) := r0
          clear r0
          refine under_none rfl ?_
          exact ⟨e0, Below.refl _ _⟩
        case s6 =>
          intro ρ W hb hc hf hr
          obtain ⟨r32, -⟩ := hr
          have e32 : ρ (.tmp 32) = .pointer (some ⟨g, 0, none⟩) := r32
          clear r32
          refine under_none rfl ?_
          simp [execOp, e32, go_sem, softUpon, Fact.is, Below.refl]
        case s7 =>
          intro ρ W hb hc hf hr
          obtain ⟨r33, -⟩ := hr
          have e33 : ρ (.tmp 33) = .pointer (some ⟨g, 0, none⟩) := r33
          clear r33
          refine under_none rfl ?_
          exact soft_field e33 rfl (fun W => by go_simp)
        case s8 =>
          intro ρ W hb hc hf hr
          obtain ⟨r34, -⟩ := hr
          have e34 : ρ (.tmp 34) = .pointer (some ⟨g, 1, none⟩) := r34
          clear r34
          refine under_none rfl ?_
          exact soft_load e34 (HC1.out W (hbd.trans (hb.mono (by simp)))) rfl
        case s9 =>
          intro ρ W hb hc hf hr
          obtain ⟨r4, -⟩ := hr
          have e4 : ρ (.tmp 4) = .int .i64 (k : Int) := r4
          clear r4
          refine under_none rfl ?_
          exact ⟨e4, Below.refl _ _⟩
        case s10 =>
          intro ρ W hb hc hf hr
          obtain ⟨r35, r36, -⟩ := hr
          have e35 : ρ (.tmp 35) = .slice (some ⟨bw, 0, none⟩) n n := r35
          clear r35
          have e36 : ρ (.tmp 36) = .int .i64 (k : Int) := r36
          clear r36
          refine under_none rfl ?_
          exact soft_index e35 e36 (run_idxS W bw n n k hkn) rfl
        case s11 =>
          intro ρ W hb hc hf hr
          obtain ⟨r37, -⟩ := hr
          have e37 : ρ (.tmp 37) = .pointer (some ⟨bw, k, none⟩) := r37
          clear r37
          refine under_none rfl ?_
          exact soft_load e37 (HCW.out W (hbd.trans (hb.mono (by simp)))) rfl
        case s12 =>
          intro ρ W hb hc hf hr
          obtain ⟨r30, r31, -⟩ := hr
          have e30 : ρ (.tmp 30) = .slice (some ⟨bk, 0, none⟩) n n := r30
          clear r30
          have e31 : ρ (.tmp 31) = .int .i64 (k : Int) := r31
          clear r31
          refine under_none rfl ?_
          exact soft_index e30 e31 (run_idxS W bk n n k hkn) rfl
        case late =>
          intro p j o hj ho a W hsz h0 h1 hfr hou
          match p, hj with
          | 0, hj =>
            obtain rfl : 13 = j := Option.some.inj hj
            obtain rfl := Option.some.inj ho
            clear hj ho
            obtain ⟨hb, hhard⟩ := h0 rfl
            have e39 : a.eval (.tmp 39) = .pointer (some ⟨bk, k, none⟩) := hhard 39 12 rfl rfl
            have e38 : a.eval (.tmp 38) = .string S := hhard 38 11 rfl rfl
            clear h0 h1 hhard hfr hou
            have hW := hbd.trans (hb.mono (by simp))
            refine late_store (x := .tmp 39) (y := .tmp 38) (w' := W.setCell ⟨bk, k, none⟩ (.string S)) rfl (by rw [e39, e38]; exact run_storeS W _ _ _ ((HKP.out.kept (Kept.of hW []) (by simp)).cell hkn) ((HKP.out.kept (Kept.of hW []) (by simp)).frozen k)) ⟨undef, rfl, W, hW, rfl⟩
          | q + 1, hj => cases hj
        case fin =>
          intro a w5 ha hP
          obtain ⟨W, hW, rfl⟩ := hP
          have k1 : Kept [bk] wr (W.setCell ⟨bk, k, none⟩ (.string S)) := (Kept.of hW _).setCell (by simp) _
          have HKQ := Lib.hid (((HKP.out.kept (Kept.of hW []) (by simp)).set hkn (.string S)).congr HK2.out)
          obtain ⟨w5, hw5⟩ : ∃ w5, W.setCell ⟨bk, k, none⟩ (.string S) = w5 := ⟨_, rfl⟩
          rw [hw5] at k1 HKQ ⊢
          have HBX := Lib.hid (k1.blk HBX.out (by simp; exact fun h => hp.2.2.2.1 h.symm))
          have HWF := Lib.hid (HWF.out.kept k1 (by simp; exact fun h => hp.1 h.symm))
          have HLP := Lib.hid (HLP.out.kept k1 (by simp; exact fun h => hp.2.1 h.symm))
          have HKK := Lib.hid (HKK.out.trans (k1.mono (by simp)))
          have c2 : w5.cell? ⟨g, 2, none⟩ = some (.slice (some ⟨bl, 0, none⟩) n n) := HBX.out.cell 2
          have hcell := HLP.out.cell hkn
          have hfz := HLP.out.frozen k
          have k2 : Kept [bl] w5 (w5.setCell ⟨bl, k, none⟩ (.bool false)) := (Kept.refl _ _).setCell (by simp) _
          have HK2b := Lib.hid k2
          clear k1 hw5 hW HC0 HC1 HCW c0 c1 hcl k2
          simp only [List.foldl_cons, List.foldl_nil] at ha
          generalize a.tmps.getD 27 undef = v27 at ha
          generalize a.tmps.getD 28 undef = v28 at ha
          generalize a.tmps.getD 29 undef = v29 at ha
          generalize a.tmps.getD 30 undef = v30 at ha
          generalize a.tmps.getD 31 undef = v31 at ha
          generalize a.tmps.getD 32 undef = v32 at ha
          generalize a.tmps.getD 33 undef = v33 at ha
          generalize a.tmps.getD 34 undef = v34 at ha
          generalize a.tmps.getD 35 undef = v35 at ha
          generalize a.tmps.getD 36 undef = v36 at ha
          generalize a.tmps.getD 37 undef = v37 at ha
          generalize a.tmps.getD 38 undef = v38 at ha
          generalize a.tmps.getD 39 undef = v39 at ha
          simp only [Act.put, List.setIfInBounds_toArray, List.set_cons_succ, List.set_cons_zero] at ha
          subst ha
          go_wp2
          go_roundw
          case rel =>
            have k2 := HK2b.out
            exact ⟨k + 1, by go_num, by omega, k2.blk HBX.out (by simp; exact fun h => hp.2.2.2.2.2 h.symm), HKQ.out.kept k2 (by simp; exact hp.2.1), HWF.out.kept k2 (by simp; exact hp.2.2.1), (HLP.out.set hkn (.bool false)).congr HL2.out, HKK.out.trans (k2.mono (by simp))⟩
          case measure => simp [RowKit.intOf]; omega
    · obtain rfl : n = k := by omega
      go_wp2
      go_returns
      rw [HE4.out]
      refine ⟨rfl, ?_, (HK.out.mono (by simp)).trans (HKK.out.mono (by simp))⟩
      have hok := HOK.out
      rw [HE4.out] at hok
      refine ⟨hok, ?_, ?_, ⟨Wf, ?_, fun i s hs => by cases hs⟩, ?_, hp⟩
      · show Blk _ g #[.slice (some ⟨bk, 0, none⟩) D1.n D1.n, .slice (some ⟨bw, 0, none⟩) D1.n D1.n, .slice (some ⟨bl, 0, none⟩) D1.n D1.n, .bool D1.down, .int .i64 (D1.done : Int), .int .i64 (D1.left : Int), .bool D1.cut] 63
        rw [HDN.out]; exact HBX.out
      · show RowN _ bk _ D1.n (fun i => .string (str (d.sec i)))
        rw [HDN.out]; exact HKP.out.congr fun i hi => by unfold rfK; rw [if_pos hi]
      · show RowN _ bw _ D1.n _
        rw [HDN.out]; exact HWF.out
      · show RowN _ bl _ D1.n (fun i => .bool false)
        rw [HDN.out]; exact HLP.out.congr fun i hi => by unfold rfL; rw [if_pos hi]
end Go.Proofs.YtehnhjnkbclnlaaGreatDoor

namespace Go.Proofs.YtehnhjnkbclnlaaGreatDoor
open Go.ChangeShapes Go.WideShapes Go.ChangeAt Go.RowKit
set_option maxRecDepth 100000

theorem infoInt7 : (Tryz.prog.info? 3).map (fun i => (i.zero, i.size, i.bytes)) = some (some (.int .i64 0), 1, 8) := by kernel_rfl
/-- the loose ones below -/
def lo7 (d : Plain.Dv) (k : Nat) : List Nat := (List.range k).filter fun i => (d.wr i).isSome
theorem lo7_succ (d : Plain.Dv) (k : Nat) : lo7 d (k + 1) = lo7 d k ++ (if (d.wr k).isSome = true then [k] else []) := by
  unfold lo7
  rw [List.range_succ, List.filter_append, List.filter_cons]
  split <;> rfl
theorem lo7_le (d : Plain.Dv) (k : Nat) : (lo7 d k).length ≤ k := by
  have := List.length_filter_le (fun i => (d.wr i).isSome) (List.range k)
  rwa [List.length_range] at this

set_option maxHeartbeats 2000000 in
theorem rloose_any (w : World) (bk bw bl g : Nat) (d : Plain.Dv) (h : IsRef w bk bw bl g d) :
    Calls Tryz.prog 23 #[.pointer (some ⟨g, 0, none⟩)] w (GivesN w d.loose) := by
  obtain ⟨n, hn⟩ : ∃ n, d.n = n := ⟨_, rfl⟩
  have hn2 : n ≤ 4096 := by rw [← hn]; exact h.ok.few
  have HN := Lib.hid hn
  have b2 : w.cell? ⟨g, 2, none⟩ = some (.slice (some ⟨bl, 0, none⟩) n n) := by rw [← hn]; exact h.box.cell 2
  have hlo := h.loose
  rw [hn] at hlo
  have HB2 := Lib.hid b2
  have HLO := Lib.hid hlo
  have hgt := h.lts.2.2.2
  obtain ⟨i0, hi, hz0, hz1, hz2⟩ := info_parts infoInt7
  clear h hn b2 hlo
  go_enter Tryz.func23, Tryz.ntmps23
  go_wp2
  go_loopw [3, 4] (fun v s wr => ∃ k : Nat, s = .int .i64 (k : Int) ∧ k ≤ n ∧ wr.ownsRow w.heap.size 3 1 v (lo7 d k).length (nums (lo7 d k)) ∧ Below w.heap.size w wr) (fun _ s _ => n - (RowKit.intOf s).toNat)
  case atStart => exact ⟨0, rfl, Nat.zero_le _, ⟨by simp [nums, lo7], .inl ⟨rfl, rfl⟩⟩, Below.refl _ _⟩
  case round =>
    obtain ⟨k, rfl, hk, hown, hB⟩ := hrel
    have HO := Lib.hid hown
    have HB := Lib.hid hB
    have zr := hB.size
    have hkl := lo7_le d k
    have c2 : wr.cell? ⟨g, 2, none⟩ = some (.slice (some ⟨bl, 0, none⟩) n n) := (hB.cell (p := ⟨g, 2, none⟩) hgt).trans HB2.out
    clear hown hB
    by_cases hkn : k < n
    · have hk0 : (0 : Int) ≤ (k : Int) := by omega
      have hk1 : (k : Int) < (n : Int) := by omega
      have hcl : wr.cell? ⟨bl, k, none⟩ = some (.bool (d.wr k).isSome) := (HLO.out.kept (Kept.of HB.out []) (by simp)).cell hkn
      have HS := Lib.hid (lo7_succ d k)
      obtain ⟨M, hM⟩ : ∃ M, lo7 d k = M := ⟨_, rfl⟩
      rw [hM] at HO HS hkl
      cases hs : (d.wr k).isSome with
      | false =>
        rw [hs] at hcl HS
        have HS2 := Lib.hid (show lo7 d (k + 1) = M by rw [HS.out]; simp)
        clear hs hM
        go_wp2
        go_roundw
        case rel => exact ⟨k + 1, by go_num, by omega, by rw [HS2.out]; exact HO.out, HB.out⟩
        case measure => simp [RowKit.intOf]; omega
      | true =>
        rw [hs] at hcl HS
        have HS2 := Lib.hid (show lo7 d (k + 1) = M ++ [k] by rw [HS.out, if_pos rfl])
        clear hs hM
        go_wp2_with (at_builtin; refine wpList_appK rfl _ _ 51 rfl w.heap.size 3 i0 (.int .i64 0) 1 8 Tryz.underlying51 hi hz0 hz1 hz2 rfl (by decide) _ M.length (nums M) rfl ?b1 (some ⟨wr.heap.size, 0, none⟩) 1 1 [.int .i64 (k : Int)] rfl rfl ?b2 ?b3 ?b4 ?b5 ?b6 ?b7)
        case b1 => exact HO.out.alloc _
        case b2 => exact (Blk.new wr #[.int .i64 (k : Int)] 3).lies
        case b3 => simp [Value.oneCell']
        case b4 => unfold maxLen; omega
        case b5 => omega
        case b6 => first | omega | (simp; omega)
        case b7 =>
          intro v5 w5 hown5 hgrow _
          have f5 : Below w.heap.size w w5 := (HB.out.alloc zr _).grown hgrow (by simp; omega) (fun g hg => (HO.out.lt g hg).1)
          have HO5 := Lib.hid hown5
          clear hown5 hgrow
          go_wp2
          go_roundw
          case rel => exact ⟨k + 1, by go_num, by omega, by rw [HS2.out, List.length_append]; simpa [nums] using HO5.out, f5⟩
          case measure => simp [RowKit.intOf]; omega
    · obtain rfl : n = k := by omega
      have e : lo7 d n = d.loose := by rw [← HN.out]; rfl
      go_wp2
      go_returns
      exact ⟨_, rfl, by rw [← e]; exact HO.out, HB.out⟩
end Go.Proofs.YtehnhjnkbclnlaaGreatDoor
