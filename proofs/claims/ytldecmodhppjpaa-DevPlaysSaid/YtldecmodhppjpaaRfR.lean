/-
  Layer 7's given answer: Read, and bytes out of a text. Nothing is assumed.
-/
import Derived.Test.YtldecmodhppjpaaRfA
import Derived.Laws.IdiomStrings

namespace Go.Proofs.Ytldecmodhppjpaa
open Go.RowKit
set_option maxRecDepth 100000

/-- bytes made out of a text -/
theorem conv_new (w : World) (bs : List UInt8) : ∃ (cap : Nat) (C : Array Value), (convert 9 29 (.string (str bs))).run Try.prog w = .ok (.slice (some ⟨w.heap.size, 0, none⟩) bs.length cap) (w.drew.alloc (.cells C 5 (C.size, C.size + 1))) ∧ bs.length ≤ C.size ∧ ∀ j, j < bs.length → C[j]? = (cells bs)[j]? := by
  have h := run_bytes_of_string (P := Try.prog) w 9 29 5 (str bs) Try.underlying9 Try.underlying29 Try.underlying5
  rw [str_size] at h
  refine ⟨_, _, h, ?_, fun j hj => ?_⟩
  · unfold bytesRow
    simp [str]
  · unfold bytesRow
    rw [Array.getElem?_append_left (by simpa [str] using hj)]
    simp [str, cells]
theorem lies_frozen (w : World) (bs : List UInt8) (C : Array Value) (t : TypeId) (fr : Nat × Nat) (hC : ∀ j, j < bs.length → C[j]? = (cells bs)[j]?) : Lies (w.alloc (.cells C t fr)) (some ⟨w.heap.size, 0, none⟩) (cells bs) := by
  refine .inr ⟨_, rfl, by simp, fun j u hu => ?_⟩
  have hj : j < bs.length := by
    have := (List.getElem?_eq_some_iff.1 hu).1
    rwa [cells_length] at this
  rw [Addr.add_mid, Nat.zero_add]
  have h1 : (w.alloc (.cells C t fr)).heap[w.heap.size]? = some (.cells C t fr) := heap_alloc_new w _
  have h2 : (w.alloc (.cells C t fr)).cell? ⟨w.heap.size, j, none⟩ = C[j]? := by
    unfold World.cell?
    simp only [h1]
    rfl
  rw [h2, hC j hj]
  exact hu

/-- bytes and an error -/
def GivesT (w : World) (bs : List UInt8) (er : Nat) (e : Ending) (w' : World) : Prop :=
  ∃ A cap, e = .returned (.tuple #[.slice A bs.length cap, .int .i64 (er : Int)]) ∧ Lies w' A (cells bs) ∧ Below w.heap.size w w'

theorem bool_idx (W : World) (ad : Addr) (n cap k : Nat) (hk : k < n) : (Instr.indexAt 30 (.slice (some ad) n cap) (.int .i64 (k : Int))).run Try.prog W = .ok (.pointer (some (ad.add k))) W := by
  go_simp

set_option maxHeartbeats 1000000 in
theorem rread_any (w : World) (bk bw bl g : Nat) (d : Plain.Dv) (i : Int) (h : IsRef w bk bw bl g d) :
    Calls Try.prog 18 #[.pointer (some ⟨g, 0, none⟩), .int .i64 i] w (GivesT w (d.read i).1 (d.read i).2) := by
  have c0 : w.cell? ⟨g, 0, none⟩ = some (.slice (some ⟨bk, 0, none⟩) d.n d.n) := h.box.cell 0
  have c1 : w.cell? ⟨g, 1, none⟩ = some (.slice (some ⟨bw, 0, none⟩) d.n d.n) := h.box.cell 1
  have c2 : w.cell? ⟨g, 2, none⟩ = some (.slice (some ⟨bl, 0, none⟩) d.n d.n) := h.box.cell 2
  have c3 : w.cell? ⟨g, 3, none⟩ = some (.bool d.down) := h.box.cell 3
  have HE := Lib.hid (show d.read i = if d.has i = false then ([], 1) else if d.down = true then ([], 71) else (d.sec i.toNat, 0) from rfl)
  cases hh : d.has i with
  | false =>
    have HH := Lib.hid (ris_is i false hh h)
    have HE2 := Lib.hid (show d.read i = ([], 1) by rw [HE.out, if_pos hh])
    clear hh h HE
    go_enter Try.func18, Try.ntmps18
    go_wp2_with fail
    refine HH.out.mono ?_
    rintro e w' ⟨rfl, rfl⟩
    go_wp2
    go_returns
    rw [HE2.out]
    exact ⟨none, 0, rfl, Lies.nil, Below.refl _ _⟩
  | true =>
    have HH := Lib.hid (ris_is i true hh h)
    obtain ⟨hi0, hi1⟩ := (d.has_iff i).1 hh
    obtain ⟨i, rfl⟩ := Int.eq_ofNat_of_zero_le hi0
    have hin : i < d.n := by omega
    cases hdn : d.down with
    | true =>
      rw [hdn] at c3
      have HE2 := Lib.hid (show d.read i = ([], 71) by rw [HE.out, if_neg (by simp [hh]), if_pos hdn])
      clear hh h HE hdn
      go_enter Try.func18, Try.ntmps18
      go_wp2_with fail
      refine HH.out.mono ?_
      rintro e w' ⟨rfl, rfl⟩
      go_wp2
      go_returns
      rw [HE2.out]
      exact ⟨none, 0, rfl, Lies.nil, Below.refl _ _⟩
    | false =>
      rw [hdn] at c3
      have HE2 := Lib.hid (show d.read i = (d.sec i, 0) by rw [HE.out, if_neg (by simp [hh]), if_neg (by simp [hdn])]; rfl)
      have hl := h.loose.cell hin
      have hk := h.kept.cell hin
      obtain ⟨Wf, hwf, hwr⟩ := h.wr
      have hw := hwf.cell hin
      obtain ⟨X, hX⟩ : ∃ X, d.sec i = X := ⟨_, rfl⟩
      have HX := Lib.hid hX
      unfold Plain.Dv.sec at hX
      obtain ⟨cap, C, hcv, hC1, hC2⟩ := conv_new w X
      have HC := Lib.hid hC2
      have hb := (Below.refl w.heap.size w).drew.alloc (o := .cells C 5 (C.size, C.size + 1)) (Nat.le_refl _)
      have HBW := Lib.hid hb
      cases hs : d.wr i with
      | none =>
        rw [hs] at hX hl
        simp only [Option.getD_none, Option.isSome_none] at hX hl
        rw [hX] at hk
        clear hX hs h hh hdn HE hw hwf hwr hC1 hC2 hb
        obtain ⟨n, hn⟩ : ∃ n, d.n = n := ⟨_, rfl⟩
        rw [hn] at c0 c1 c2 hi1
        clear hn hin
        go_enter Try.func18, Try.ntmps18
        go_wp2_with fail
        refine HH.out.mono ?_
        rintro e w' ⟨rfl, rfl⟩
        go_wp2
        go_returns
        rw [HE2.out, HX.out]
        exact ⟨_, cap, rfl, lies_frozen w.drew X C _ _ HC.out, HBW.out⟩
      | some s =>
        rw [hs] at hX hl
        simp only [Option.getD_some, Option.isSome_some] at hX hl
        rw [hwr i s hs, hX] at hw
        clear hX hs h hh hdn HE hk hwf hwr hC1 hC2 hb
        obtain ⟨n, hn⟩ : ∃ n, d.n = n := ⟨_, rfl⟩
        rw [hn] at c0 c1 c2 hi1
        clear hn hin
        go_enter Try.func18, Try.ntmps18
        go_wp2_with fail
        refine HH.out.mono ?_
        rintro e w' ⟨rfl, rfl⟩
        go_wp2
        go_returns
        rw [HE2.out, HX.out]
        exact ⟨_, cap, rfl, lies_frozen w.drew X C _ _ HC.out, HBW.out⟩

theorem run_idxS (W : World) (b n c i : Nat) (hi : i < n) : (Instr.indexAt 61 (.slice (some ⟨b, 0, none⟩) n c) (.int .i64 (i : Int))).run Try.prog W = .ok (.pointer (some ⟨b, i, none⟩)) W := by
  have e : (⟨b, 0, none⟩ : Addr).add i = ⟨b, i, none⟩ := by rw [Addr.add_mid, Nat.zero_add]
  go_simp
theorem run_idxB (W : World) (b n c i : Nat) (hi : i < n) : (Instr.indexAt 30 (.slice (some ⟨b, 0, none⟩) n c) (.int .i64 (i : Int))).run Try.prog W = .ok (.pointer (some ⟨b, i, none⟩)) W := by
  have e : (⟨b, 0, none⟩ : Addr).add i = ⟨b, i, none⟩ := by rw [Addr.add_mid, Nat.zero_add]
  go_simp
theorem run_loadSl (W : World) (a : Addr) (v : Value) (h : W.cell? a = some v) : (Instr.loadAt 61 (.pointer (some a))).run Try.prog W = .ok v W := by
  go_simp
theorem run_loadBl (W : World) (a : Addr) (v : Value) (h : W.cell? a = some v) : (Instr.loadAt 30 (.pointer (some a))).run Try.prog W = .ok v W := by
  go_simp
theorem run_loadB (W : World) (a : Addr) (v : Value) (h : W.cell? a = some v) : (Instr.loadAt 4 (.pointer (some a))).run Try.prog W = .ok v W := by
  go_simp
theorem run_storeB (W : World) (a : Addr) (v o : Bool) (h : W.cell? a = some (.bool o)) (hf : W.frozen? a = false) : (Instr.storeAt 4 (.pointer (some a)) (.bool v)).run Try.prog W = .ok () (W.setCell a (.bool v)) := by
  go_simp
end Go.Proofs.Ytldecmodhppjpaa
