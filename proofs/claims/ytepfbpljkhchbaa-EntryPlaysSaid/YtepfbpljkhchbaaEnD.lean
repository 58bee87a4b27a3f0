/-
  Layer 14: New, Many, Get, Del of the developers' index: what they answer, of any index. Assumed: that the index lies in memory.
-/
import Derived.Test.YtepfbpljkhchbaaEnC
import Derived.Carry
import Derived.BigRegion

namespace Go.Proofs.Ytepfbpljkhchbaa
open Go.RowKit Go.Maps En
set_option maxRecDepth 100000

theorem new14_any (R : List Nat) (w : World) (hR : ∀ r ∈ R, r < w.heap.size) :
    Calls Try.prog 10 #[] w fun e w' => ∃ x b, e = .returned (.pointer (some ⟨x, 0, none⟩)) ∧ IsIdx R w' x b (fun _ => 0) [] ∧ w.heap.size ≤ x ∧ w.heap.size ≤ b ∧ Below w.heap.size w w' := by
  have hM := World.ownsMap_made w Try.prog 2 ptrElem
  have hI : IsIdx R ((w.alloc (.map #[] 0)).alloc (.cells #[.map (some w.heap.size)] 62)) (w.heap.size + 1) w.heap.size (fun _ => 0) [] := by
    refine ⟨Ok.nil, by simp, by simp, ?_, ⟨_, hM.alloc _, Held.nil _⟩, by simp, by simp, fun k hk hr => ?_⟩
    · have := Blk.new (w.alloc (.map #[] 0)) #[.map (some w.heap.size)] 62
      rwa [World.size_alloc] at this
    · have := hR k hr
      rcases mem_mine.1 hk with rfl | rfl | ⟨e, he, -⟩
      · omega
      · omega
      · cases he
  have HI := Lib.hid hI
  have HB := Lib.hid (show Below w.heap.size w ((w.alloc (.map #[] 0)).alloc (.cells #[.map (some w.heap.size)] 62)) from ((Below.refl _ _).alloc (Nat.le_refl _) _).alloc (by simp) _)
  have hmm := @run_makeMap Try.prog
  clear hI hM hR
  go_enter Try.func10, Try.ntmps10
  go_wp2
  go_ret
  exact ⟨_, _, rfl, HI.out, by simp, by simp, HB.out⟩

section
variable {R : List Nat} {w : World} {x b : Nat} {p : Int → Nat} {m : List E}
theorem many14_any (h : IsIdx R w x b p m) : Calls Try.prog 26 #[.pointer (some ⟨x, 0, none⟩)] w fun e w' => e = .returned (.int .i64 (m.length : Int)) ∧ w' = w := by
  have c0 : w.cell? ⟨x, 0, none⟩ = some (.map (some b)) := h.box.cell 0
  have hl := h.len 3
  clear h
  go_enter Try.func26, Try.ntmps26
  go_wp2
  go_ret
  exact ⟨rfl, rfl⟩

/-- what Get gives: the entry, or a zero one -/
def got14 (m : List E) (i : Int) : E := (En.get m i).getD E.zero

set_option maxHeartbeats 4000000 in
theorem get14_any (h : IsIdx R w x b p m) {i : Int} (hi : I64 i) : Calls Try.prog 23 #[.pointer (some ⟨x, 0, none⟩), .int .i64 i] w fun e w' => ∃ v, e = .returned (.tuple #[.agg (enA (got14 m i) v), .bool (En.get m i).isSome]) ∧ w'.ownsRow w.heap.size 9 1 v (got14 m i).sv.length (strs (got14 m i).sv) ∧ Below w.heap.size w w' := by
  have hb0 := BoxE.new w E.zero (.slice none 0 0)
  have hB0 : Below w.heap.size w (w.alloc (.cells (enA E.zero (.slice none 0 0)) 35)) := (Below.refl _ _).alloc (Nat.le_refl _) _
  have hI1 := h.below hB0
  have c0 : (w.alloc (.cells (enA E.zero (.slice none 0 0)) 35)).cell? ⟨x, 0, none⟩ = some (.map (some b)) := hI1.box.cell 0
  have hL := hI1.look hi
  have HB0 := Lib.hid hB0
  unfold got14
  cases hg : En.get m i with
  | none =>
    rw [hg] at hL
    simp only [Option.isSome_none, Bool.false_eq_true, if_false] at hL
    simp only [Option.getD_none, Option.isSome_none]
    obtain ⟨a0, a1, a2, a3, a4, a5, a6, a7, a8, a9, a10, a11, a12⟩ := BoxE.all hb0
    obtain ⟨f0, f1, f2, f3, f4, f5, f6, f7, f8, f9, f10, f11, f12⟩ := BoxE.melt hb0
    have HBZ := Lib.hid (hb0.over E.zero (.slice none 0 0))
    have HK := Lib.hid (Kept.below hB0 (kept13 (w.alloc (.cells (enA E.zero (.slice none 0 0)) 35)) w.heap.size E.zero (.slice none 0 0)) (by simp))
    clear hB0 hI1 hb0 h hg
    unfold enA at *
    simp only [E.zero] at *
    go_enter Try.func23, Try.ntmps23
    go_wp2_with fail
    refine bodyPost_ret (v := .tuple #[.agg #[.int .i64 0, .int .i64 0, .int .i64 0, .int .i64 0, .bool false, .int .i64 0, .int .i64 0, .int .i64 0, .int .i64 0, .slice none 0 0, .int .i64 0, .int .i64 0, .int .i64 0], .bool false]) (by simp [results, Try.results23, go_sem, a0, a1, a2, a3, a4, a5, a6, a7, a8, a9, a10, a11, a12, Result.andThen]) rfl ?_
    exact ⟨_, rfl, World.ownsRow_nil _ _ _ _, HB0.out⟩
  | some y =>
    rw [hg] at hL
    simp only [Option.isSome_some, if_true] at hL
    simp only [Option.getD_some, Option.isSome_some]
    obtain ⟨hym, hyi⟩ := get_some hg
    obtain ⟨A, cap, hE, hS, -⟩ := hI1.ent y hym
    rw [hyi] at hE
    obtain ⟨n, hn⟩ : ∃ n, y.sv.length = n := ⟨_, rfl⟩
    rw [hn] at hE ⊢
    have HOW := Lib.hid (own14_any (p i) y A n cap _ hn hE hS)
    have HN := Lib.hid hn
    have HBZ := Lib.hid hb0
    obtain ⟨W1, hW1⟩ : ∃ W1, w.alloc (.cells (enA E.zero (.slice none 0 0)) 35) = W1 := ⟨_, rfl⟩
    have hW1' := hW1
    have hz1 : W1.heap.size = w.heap.size + 1 := by rw [← hW1]; simp
    rw [hW1] at HOW HBZ HB0
    have HW1 := Lib.hid hW1
    unfold enA at HW1 c0 hL
    simp only [E.zero] at HW1 c0 hL
    have HZ1 := Lib.hid hz1
    have HN9 := Lib.hid (show n ≤ 9000 by have := hS.few; omega)
    clear hB0 hI1 hb0 h hg hE hS hn hyi hym hW1 hz1 hW1'
    go_enter Try.func23, Try.ntmps23
    go_wp2_with fail
    rw [HW1.out]
    refine HOW.out.mono ?_
    rintro e w2 ⟨v, rfl, ho, d2⟩
    obtain ⟨A', cap', rfl, -, -⟩ := row_svs ho HN.out HN9.out
    have hb2 := BoxE.below HBZ.out d2
    obtain ⟨a0, a1, a2, a3, a4, a5, a6, a7, a8, a9, a10, a11, a12⟩ := hb2.all
    obtain ⟨f0, f1, f2, f3, f4, f5, f6, f7, f8, f9, f10, f11, f12⟩ := BoxE.melt hb2
    have HF := Lib.hid (hb2.over y (.slice A' n cap'))
    have HK := Lib.hid (Kept.below (HB0.out.trans (d2.mono HB0.out.size)) (kept13 w2 w.heap.size y (.slice A' n cap')) (by simp))
    have HO := Lib.hid (own_mono14 (own_kept14 ho (kept13 w2 w.heap.size y (.slice A' n cap')) (by have := HZ1.out; simp; omega)) (base' := w.heap.size) (by have := HZ1.out; omega))
    clear ho d2 hb2 HOW
    obtain ⟨xid, xcl, xti, xco, xpi, xbi, xlo, xhi, xma, xsv, xse, xpl, xsz⟩ := y
    unfold enA at *
    simp only [E.zero] at *
    go_wp2_with fail
    have HF := HF.out
    have HK := HK.out
    have HO := HO.out
    clear a0 a1 a2 a3 a4 a5 a6 a7 a8 a9 a10 a11 a12 f0 f1 f2 f3 f4 f5 f6 f7 f8 f9 f10 f11 f12
    revert HF HK HO
    generalize World.setCell _ _ _ = wf
    intro HF HK HO
    obtain ⟨y0, y1, y2, y3, y4, y5, y6, y7, y8, y9, y10, y11, y12⟩ := BoxE.all (x := ⟨xid, xcl, xti, xco, xpi, xbi, xlo, xhi, xma, xsv, xse, xpl, xsz⟩) HF
    simp only at y0 y1 y2 y3 y4 y5 y6 y7 y8 y9 y10 y11 y12
    refine bodyPost_ret (v := .tuple #[.agg #[.int .i64 xid, .int .i64 xcl, .int .i64 xti, .int .i64 xco, .bool xpi, .int .i64 xbi, .int .i64 xlo, .int .i64 xhi, .int .i64 xma, .slice A' n cap', .int .i64 xse, .int .i64 xpl, .int .i64 xsz], .bool true]) (w := wf) (by simp [results, Try.results23, go_sem, y0, y1, y2, y3, y4, y5, y6, y7, y8, y9, y10, y11, y12, Result.andThen]) rfl ?_
    exact ⟨_, rfl, HO, HK⟩

theorem del14_any (h : IsIdx R w x b p m) {i : Int} (hi : I64 i) : Calls Try.prog 13 #[.pointer (some ⟨x, 0, none⟩), .int .i64 i] w fun e w' => e = .returned (.bool (En.get m i).isSome) ∧ IsIdx R w' x b p (En.del m i) ∧ Kept [b] w w' := by
  have c0 : w.cell? ⟨x, 0, none⟩ = some (.map (some b)) := h.box.cell 0
  have hL := h.look hi
  obtain ⟨w', hD, hI, hK, -⟩ := h.del hi 0
  have HI := Lib.hid hI
  have HK := Lib.hid hK
  clear h hI hK
  generalize En.del m i = m' at *
  generalize (En.get m i).isSome = B at *
  generalize (if B = true then some (⟨p i, 0, none⟩ : Addr) else none) = P at *
  go_enter Try.func13, Try.ntmps13
  go_wp2
  go_ret
  exact ⟨rfl, HI.out, HK.out⟩
end
end Go.Proofs.Ytepfbpljkhchbaa
