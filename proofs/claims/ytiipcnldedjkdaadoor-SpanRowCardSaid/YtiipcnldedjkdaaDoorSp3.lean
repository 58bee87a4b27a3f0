/-
  Layer 3: span.Put: what it answers, for every argument. Nothing is assumed but that bytes lie in memory.
-/
import Derived.Test.YtiipcnldedjkdaaDoorSp2
namespace Go.Proofs.YtiipcnldedjkdaaDoor
open Go.RowKit
set_option maxRecDepth 100000

theorem own_mono {w : World} {base base' n : Nat} {e : TypeId} {v : Value} {xs : List Value} (h : w.ownsRow base e 1 v n xs) (hb : base' ≤ base) : w.ownsRow base' e 1 v n xs :=
  ⟨h.1, h.2.imp id fun ⟨g, cap, cur, h1, h2, h3⟩ => ⟨g, cap, cur, h1, Nat.le_trans hb h2, h3⟩⟩
theorem Made.up {w w1 w' : World} {bs : List UInt8} {e : Ending} (h : Made w1 bs e w') (hb : Below w.heap.size w w1) : Made w bs e w' := by
  obtain ⟨v, rfl, ho, hb2⟩ := h
  exact ⟨v, rfl, own_mono ho hb.size, hb.trans (hb2.mono hb.size)⟩

/-- a span's value -/
def spanOf (x : Plain.Sp) : Value := .agg #[.int .i64 x.t, .int .i64 x.i, .int .i64 x.p, .int .i64 x.s, .int .i64 x.d, .string (str x.sv), .string (str x.nm)]

theorem bytes_puts (x : Plain.Sp) : x.bytes = puts [x.t, x.i, x.p, x.s, x.d] ++ putTs [x.sv, x.nm] := by
  simp [Plain.Sp.bytes, puts, putTs]

set_option maxHeartbeats 4000000 in
theorem spanPut_any (A : Option Addr) (n cap : Nat) (bs : List UInt8) (x : Plain.Sp) (w : World) (hn : bs.length = n) (hm : n ≤ 1000000) (hA : Lies w A (cells bs)) (hsv : x.sv.length ≤ maxLen) (hnm : x.nm.length ≤ maxLen) :
    Calls Tryd.prog 16 #[.slice A n cap, .agg #[.int .i64 x.t, .int .i64 x.i, .int .i64 x.p, .int .i64 x.s, .int .i64 x.d, .string (str x.sv), .string (str x.nm)]] w (Made w (bs ++ x.outp)) := by
  have hr : x.right = x.right := rfl
  conv at hr => lhs; unfold Plain.Sp.right
  rw [← str_size x.sv, ← str_size x.nm] at hr
  have hout : x.outp = if x.right then x.bytes else [] := rfl
  rw [bytes_puts] at hout
  obtain ⟨t, i, p, s, d, sv, nm⟩ := x
  simp only at *
  have HSV := Lib.hid (show ∀ q ∈ [sv, nm], q.length ≤ maxLen from fun q hq => by simp at hq; rcases hq with rfl | rfl <;> assumption)
  rw [← str_size sv] at hsv
  rw [← str_size nm] at hnm
  have HSS := Lib.hid (show strs [sv, nm] = [.string (str sv), .string (str nm)] from rfl)
  have HTS := Lib.hid (putTs_len [sv, nm])
  have HPS := Lib.hid (puts_len [t, i, p, s, d])
  generalize str sv = SV at *
  generalize str nm = NM at *
  generalize Plain.Sp.outp { t := t, i := i, p := p, s := s, d := d, sv := sv, nm := nm } = out at *
  generalize Plain.Sp.right { t := t, i := i, p := p, s := s, d := d, sv := sv, nm := nm } = R at *
  have HR := Lib.hid hr
  have HOUT := Lib.hid hout
  clear hr hout
  go_enter Tryd.func16, Tryd.ntmps16
  go_wp2_with fail
  refine (right_any t i p s d SV NM _ hsv hnm).mono ?_
  rintro e w1 ⟨rfl, hb1⟩
  rw [HR.out]
  have hb0 : Below w.heap.size w w1 := ((Below.refl w.heap.size w).alloc (Nat.le_refl _) (.cells #[.int .i64 t, .int .i64 i, .int .i64 p, .int .i64 s, .int .i64 d, .string SV, .string NM] 23)).trans (hb1.mono (by simp))
  have hs1 := hb1.size
  simp only [World.size_alloc] at hs1
  rcases R with _ | _
  · go_wp2_with fail
    refine (concat2 A n cap bs none 0 0 [] _ _ hn rfl (by omega) (by omega) ((hA.below hb0).keep (by simp) fun q hq => World.cell?_alloc_lt _ _ q hq) Lies.nil (by simp) (by simp) (by simp)).mono ?_
    rintro e w2 hmade
    have hm2 := hmade.up (hb0.alloc hb0.size _)
    obtain ⟨v, rfl, ho, hb2⟩ := hm2
    have HO := Lib.hid ho
    clear ho hmade
    go_wp2
    go_ret
    exact ⟨v, rfl, by rw [HOUT.out]; exact HO.out, hb2⟩
  · have hcells : ∀ j u, #[Value.int .i64 t, .int .i64 i, .int .i64 p, .int .i64 s, .int .i64 d, .string SV, .string NM][j]? = some u → w1.cell? ⟨w.heap.size, j, none⟩ = some u := fun j u hu => by
      rw [hb1.cell (by simp)]; simpa using hu
    have c0 := hcells 0 _ rfl
    have c1 := hcells 1 _ rfl
    have c2 := hcells 2 _ rfl
    have c3 := hcells 3 _ rfl
    have c4 := hcells 4 _ rfl
    have c5 := hcells 5 _ rfl
    have c6 := hcells 6 _ rfl
    clear hcells
    go_wp2_with fail
    refine (putNumbers_any none 0 [] _ 5 5 [t, i, p, s, d] _ (by simp) (by simp) (by simp) rfl (by omega) Lies.nil (lies_made _ _ _ _ _ rfl rfl)).mono ?_
    rintro e w2 ⟨A2, cap2, rfl, hl2, hm2, hL2, hb2⟩
    have hb02 : Below w.heap.size w w2 := (hb0.alloc hb0.size _).trans (hb2.mono (by simp; omega))
    have d5 : w2.cell? ⟨w.heap.size, 5, none⟩ = some (.string SV) := by rw [hb2.cell (by simp; omega), World.cell?_alloc_lt _ _ _ (by simp; omega)]; exact c5
    have d6 : w2.cell? ⟨w.heap.size, 6, none⟩ = some (.string NM) := by rw [hb2.cell (by simp; omega), World.cell?_alloc_lt _ _ _ (by simp; omega)]; exact c6
    clear c0 c1 c2 c3 c4 c5 c6
    simp only [List.nil_append] at hl2 hL2 ⊢
    have HP1 := HPS.out
    generalize puts [t, i, p, s, d] = ps at *
    simp only [List.length_cons, List.length_nil] at HP1
    go_wp2_with fail
    refine (putTexts_any A2 cap2 ps _ 2 2 [sv, nm] _ (by omega) hl2 hm2 rfl (by omega) HSV.out (hL2.keep (by simp) fun q hq => World.cell?_alloc_lt _ _ q hq) (lies_made _ _ _ _ _ (by rw [HSS.out]) rfl)).mono ?_
    rintro e w3 ⟨A3, cap3, rfl, hl3, hm3, hL3, hb3⟩
    have hb03 : Below w.heap.size w w3 := (hb02.alloc hb02.size _).trans (hb3.mono (by have := hb02.size; simp; omega))
    clear d5 d6
    have HT1 := HTS.out
    simp only [List.length_cons, List.length_nil] at HT1
    have HL3 := Lib.hid (show (ps ++ putTs [sv, nm]).length = ps.length + (putTs [sv, nm]).length from List.length_append)
    have HB := Lib.hid (show bs ++ out = bs ++ (ps ++ putTs [sv, nm]) by rw [HOUT.out]; rfl)
    generalize ps ++ putTs [sv, nm] = qs at *
    generalize putTs [sv, nm] = ts at *
    have hq := HL3.out
    go_wp2_with fail
    refine (concat2 A n cap bs A3 qs.length cap3 qs _ _ hn rfl (by omega) (by omega) ((hA.below hb03).keep (by simp) fun q hq => World.cell?_alloc_lt _ _ q hq) (hL3.keep (by simp) fun q hq => World.cell?_alloc_lt _ _ q hq) (by simp) (by simp) (by simp; omega)).mono ?_
    rintro e w4 hmade
    have hm4 := hmade.up (hb03.alloc hb03.size _)
    obtain ⟨v, rfl, ho, hb4⟩ := hm4
    have HO := Lib.hid ho
    clear ho hmade
    go_wp2
    go_ret
    exact ⟨v, rfl, by rw [HB.out]; exact HO.out, hb4⟩
end Go.Proofs.YtiipcnldedjkdaaDoor
