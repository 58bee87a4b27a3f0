/-
  Layer 14: Put of the developers' index: what it answers, of any index and any entry. Assumed: that these lie in memory.
-/
import Derived.Test.YtepfbpljkhchbaaEnD
import Derived.BigRegion
import Derived.BigQuiet

namespace Go.Proofs.Ytepfbpljkhchbaa
open Go.RowKit Go.Maps En
set_option maxRecDepth 100000

section
variable {R : List Nat} {w : World} {x b : Nat} {p : Int → Nat} {m : List E}
/-- what Put comes to -/
def Put14 (R : List Nat) (w : World) (x b : Nat) (p : Int → Nat) (m : List E) (y : E) (e : Ending) (w' : World) : Prop := e = .returned (.bool (En.get m y.id).isSome) ∧ ∃ p', IsIdx R w' x b p' (En.put m y) ∧ Kept [b] w w' ∧ ∀ k ∈ mine x b p' (En.put m y), k ∈ mine x b p m ∨ w.heap.size ≤ k

set_option maxHeartbeats 8000000 in
theorem put14_any (h : IsIdx R w x b p m) (hR : ∀ r ∈ R, r < w.heap.size) (hm : m.length < 1000) (y : E) (hi : I64 y.id) (A : Option Addr) (n cap : Nat) (hn : y.sv.length = n) (hS : Svs w y.sv A cap) : Calls Try.prog 21 #[.pointer (some ⟨x, 0, none⟩), .agg (enA y (.slice A n cap))] w (Put14 R w x b p m y) := by
  have hb0 := BoxE.new w y (.slice A n cap)
  have hB0 : Below w.heap.size w (w.alloc (.cells (enA y (.slice A n cap)) 35)) := (Below.refl _ _).alloc (Nat.le_refl _) _
  have hI0 := h.below hB0
  obtain ⟨W1, hW1⟩ : ∃ W1, w.alloc (.cells (enA y (.slice A n cap)) 35) = W1 := ⟨_, rfl⟩
  have hz1 : W1.heap.size = w.heap.size + 1 := by rw [← hW1]; simp
  rw [hW1] at hb0 hB0 hI0
  obtain ⟨a0, -⟩ := hb0.all
  have c0 : W1.cell? ⟨x, 0, none⟩ = some (.map (some b)) := hI0.box.cell 0
  have hL := (hI0.below ((Below.refl _ W1).drew)).look hi
  have HOW := Lib.hid (fun (W : World) (hW : Below W1.heap.size W1 W) => own14_any w.heap.size y A n cap W hn (BoxE.below hb0 hW) ((hS.below hB0).below hW))
  have HI0 := Lib.hid hI0
  have HB0 := Lib.hid hB0
  have HZ1 := Lib.hid hz1
  have HN := Lib.hid hn
  have HN9 := Lib.hid (show n ≤ 9000 by have := hS.few; omega)
  have HW1 := Lib.hid hW1
  have HBX := Lib.hid hb0
  clear h hb0 hB0 hI0 hz1 hn hS hW1
  unfold Put14
  generalize (En.get m y.id).isSome = G at *
  generalize (if G = true then some (⟨p y.id, 0, none⟩ : Addr) else none) = P at *
  go_enter Try.func21, Try.ntmps21
  go_wp2
  rw [HW1.out]
  go_region
  go_wp2_with fail
  have hd1 : Below W1.heap.size W1 W1.drew := (Below.refl _ _).drew
  refine (HOW.out _ hd1).mono ?_
  rintro e w2 ⟨v, rfl, ho, d2⟩
  obtain ⟨A', cap', rfl, hS', hfr⟩ := row_svs ho HN.out HN9.out
  have d2' : Below W1.heap.size W1 w2 := hd1.trans d2
  have hE3 := BoxE.new w2 y (.slice A' n cap')
  have d3 : Below w2.heap.size w2 (w2.alloc (.cells (enA y (.slice A' n cap')) 35)) := (Below.refl _ _).alloc (Nat.le_refl _) _
  obtain ⟨W3, hW3⟩ : ∃ W3, w2.alloc (.cells (enA y (.slice A' n cap')) 35) = W3 := ⟨_, rfl⟩
  rw [hW3] at hE3 d3
  have HW3 := Lib.hid hW3
  have d13 : Below W1.heap.size W1 W3.drew := (d2'.trans (d3.mono d2'.size)).drew
  have hI3 := HI0.out.below d13
  have hz2 : w.heap.size + 1 ≤ w2.heap.size := HZ1.out ▸ d2.size
  have hz1 := HZ1.out
  have hz12 : W1.heap.size ≤ w2.heap.size := d2'.size
  have hB3 : Below w.heap.size w W3.drew := HB0.out.trans (d13.mono HB0.out.size)
  have hlt : ∀ k ∈ mine x b p m, k < W1.heap.size := HI0.out.lt
  obtain ⟨w4, hU, hI4, hK4, -⟩ := hI3.put hi hm (g := w2.heap.size) (A := A') (cap := cap') (HN.out ▸ BoxE.below hE3 ((Below.refl _ _).drew)) ((hS'.below d3).below ((Below.refl _ _).drew)) (by
      rcases hS'.lies with h | ⟨ad', e', hb', -⟩
      · exact .inl h
      · refine .inr fun ad e hk => ?_
        rw [e] at e'; injection e' with e'; subst e'
        have h1 : W1.heap.size ≤ ad.block := hfr ad e
        rcases List.mem_cons.1 hk with hk | hk
        · omega
        · rcases List.mem_append.1 hk with hk | hk
          · have := hR _ hk; omega
          · have := hlt _ hk; omega) (fun hk => by have := hlt _ hk; omega) (fun hk => by have := hR _ hk; omega) (fun z hz A'' cap'' hB'' => by
      obtain ⟨A0, cap0, h3, h4, -⟩ := HI0.out.ent z hz
      have h5 := (BoxE.all (BoxE.below h3 d13)).2.2.2.2.2.2.2.2.2.1.symm.trans (BoxE.all hB'').2.2.2.2.2.2.2.2.2.1
      injection h5 with h5
      injection h5 with h5 _ _
      subst h5
      exact Off.of h4.lies (by simpa using hz12))
  have a0' : W3.cell? ⟨w.heap.size, 0, none⟩ = some (.int .i64 y.id) := (BoxE.below HBX.out (d2'.trans (d3.mono d2'.size))).all.1
  have c0' : W3.cell? ⟨x, 0, none⟩ = some (.map (some b)) := hI3.box.cell 0
  have HI4 := Lib.hid hI4
  have HK4 := Lib.hid hK4
  have HB3 := Lib.hid hB3
  have HZ2 := Lib.hid hz2
  have HMI := Lib.hid (show ∀ k ∈ mine x b (fun i => if i = y.id then w2.heap.size else p i) (En.put m y), k ∈ mine x b p m ∨ w.heap.size ≤ k from fun k hk => by
    rcases mem_mine.1 hk with h6 | h6 | ⟨z, hz, e6⟩
    · exact .inl (mem_mine.2 (.inl h6))
    · exact .inl (mem_mine.2 (.inr (.inl h6)))
    · rcases mem_put.1 hz with rfl | hz
      · rw [if_pos rfl] at e6; exact .inr (by omega)
      · rw [if_neg hz.2] at e6
        exact .inl (mem_mine.2 (.inr (.inr ⟨z, hz.1, e6⟩))))
  clear hd1 hE3 d3 hW3 d13 hI3 hB3 hlt hI4 hK4 ho d2 hS' hfr d2' a0 c0 hL HOW hR hz2 hz12 hz1
  obtain ⟨yid, ycl, yti, yco, ypi, ybi, ylo, yhi, yma, ysv, yse, ypl, ysz⟩ := y
  unfold enA at *
  simp only at *
  go_wp2
  rw [HW3.out]
  go_region
  go_wp2
  go_ret
  exact ⟨rfl, _, HI4.out, (Kept.of HB3.out _).trans HK4.out, HMI.out⟩
end
end Go.Proofs.Ytepfbpljkhchbaa
