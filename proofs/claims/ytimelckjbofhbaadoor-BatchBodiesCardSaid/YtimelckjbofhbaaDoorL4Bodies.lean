/-
  P4.1, BatchBodies: for all bytes the law returns true: the spans of any bytes that are sealed, or what is wrong, and where, are the document's. No condition; what the row lists is tied to the program's text.
-/
import Derived.Test.YtimelckjbofhbaaDoorBatHd
namespace Go.Proofs.YtimelckjbofhbaaDoor.batchBodies
open Go.ChangeShapes Go.WideShapes Go.ChangeAt Go.RowKit
set_option maxRecDepth 100000

set_option maxHeartbeats 4000000 in
theorem walk (w : World) (hT : Handle w ∧ Tab w) (A : Option Addr) (cap : Nat) (b : List UInt8) (_ : b.length ≤ cap) (hm : cap ≤ maxLen) (hA : Lies w A (cells b)) :
    Calls Tryd.prog 4 #[.slice A b.length cap] w fun e w' => e = .returned (.bool true) ∧ Below w.heap.size w w' := by
  have HA := Lib.hid hA
  have HT := Lib.hid hT
  obtain ⟨n, hn⟩ : ∃ n, b.length = n := ⟨_, rfl⟩
  rw [hn]
  have HN := Lib.hid hn
  have HL := Lib.hid hm
  unfold maxLen at hm
  clear hA hT hn
  go_enter Tryd.func4, Tryd.ntmps4
  go_wp2_with fail
  refine (head_any w HT.out).mono ?_
  rintro e w1 ⟨rfl, c1⟩
  by_cases h20 : 20000 < n
  · go_wp2
    go_ret
    exact ⟨rfl, c1⟩
  have HS := Lib.hid (rSeal_walk A cap n b w1 HN.out (by omega) (HA.out.below c1))
  go_wp2_with fail
  refine HS.out.mono ?_
  rintro e w2 ⟨v2, rfl, ho2, d2⟩
  have c2 := c1.trans (d2.mono c1.size)
  obtain ⟨g2, cap2, rfl, hl2, hm2, hL2⟩ := own_some ho2 (by rw [Crc.sealed_length]; omega)
  have s2 : (Crc.sealed b).length = n + 4 := by rw [Crc.sealed_length, HN.out]
  rw [s2] at hl2 ⊢
  have HL2 := Lib.hid hL2
  have hne21 := Plain.bget_sealed b
  have HG := Lib.hid (batchGet_any (some ⟨g2, 0, none⟩) (n + 4) cap2 (Crc.sealed b) w2 (HT.out.1.below HT.out.1.lt c2) (HT.out.2.below c2 (Nat.le_refl _)) s2 hl2 hm2 (by omega) HL2.out)
  have HRG := Lib.hid (fun (u : World) (hu : Below w2.heap.size w2 u) => rbatchGet_any (some ⟨g2, 0, none⟩) (n + 4) cap2 (Crc.sealed b) u s2 hl2 hm2 (by omega) (HL2.out.below hu))
  clear ho2 hL2 HS
  generalize Plain.bget (Crc.sealed b) = r at *
  obtain ⟨l, P, C⟩ := r
  simp only at hne21
  have h21 : ((C : Int) != 21) = true := by simp; omega
  go_wp2_with fail
  refine HG.out.mono ?_
  rintro e w3 ⟨v3, rfl, A3, cap3, rfl, hl3, hm3, hL3, d3⟩
  have c3 := c2.trans (d3.mono c2.size)
  have HL3 := Lib.hid hL3
  clear hL3
  simp only at hl3 HL3
  go_wp2_with fail
  refine (HRG.out w3 d3).mono ?_
  rintro e w4 ⟨v4, rfl, A4, cap4, rfl, hl4, hm4, hL4, d4⟩
  have c4 := c3.trans (d4.mono c3.size)
  have HL4 := Lib.hid hL4
  clear hL4
  simp only at hl4 HL4
  obtain ⟨m, hm0⟩ : ∃ m, l.length = m := ⟨_, rfl⟩
  have HSM := Lib.hid (same_yes A3 A4 m cap3 cap4 l w4 hm0 (by omega) (by omega) hm3 hm4 (HL3.out.below d4) HL4.out)
  rw [hm0]
  clear hm0 hl3 hl4
  go_wp2_with fail
  refine HSM.out.mono ?_
  rintro e w5 ⟨rfl, d5⟩
  go_wp2
  go_ret
  exact ⟨rfl, c4.trans (d5.mono c4.size)⟩


set_option maxRecDepth 100000 in
theorem lifted (os : Os) (started : os.Started) (H : Type) (enc : TypeId × Value → H) :
    ReturnsInHanded {} Tryd.checked os 4 .any (fun w args => (Rows.batchBodiesSpec.pre enc Tryd.prog Tryd.f4 [] false w args ∧ laidMetH Tryd.prog laidBoth w) ∧ sizedMet enc Tryd.prog Tryd.f4 (OpenSpec.ofChange Rows.batchBodiesSpec) false w args) (Rows.batchBodiesSpec.post enc Tryd.prog Tryd.f4 false true false false) := by
  refine returnsInHanded_of_change_and (C := Tryd.checked) (X := fun w _ => laidMetH Tryd.prog laidBoth w) (fun _ _ _ hh h => h.of_heap hh) own started (by kernel_rfl) Tryd.func4
    (ChangeSpec.witness_at (enc := enc) (C := Tryd.checked) (os := os) (X := fun w _ => laidMetH Tryd.prog laidBoth w) false (bothWorld os) #[.slice none 0 0] 8 rfl (by kernel_rfl) (by kernel_rfl) (by kernel_rfl) (by kernel_rfl) (by kernel_rfl) (bothWorld_met os _)) ?_
  intro W base args ds gs before hval0 hW _ _ hL _
  have hval : ∀ (j : Nat) t v, Tryd.f4.params[j]? = some t → args[j]? = some v → Value.okWide Tryd.prog W .any base t v := hval0
  have hfin := fun W' => law_post (enc := enc) (P := Tryd.prog) (f := Tryd.f4) (s := Rows.batchBodiesSpec) (tb := 4) (W := W) (W' := W') (args := args) (ds := ds) (gs := gs) (before := before) laidOut rfl (by kernel_rfl) Tryd.underlying4 (by kernel_rfl) (fun xs h => by rw [Tryd.params4] at h; match xs, h with | [_], _ => rfl) hW
  have hlt : ∀ x ∈ before, x.block < W.heap.size := fun x hx => hW.lt x hx
  obtain ⟨p, q, hA0, hV, rfl, hfz, hnd⟩ := hW
  have hA : DataW.TrodAll enc Tryd.prog W 0 (fun _ => true) true Tryd.f4.params.toList args.toList ds p := hA0
  rw [Tryd.params4] at hA hval
  obtain ⟨v0, vs0, d0, ds0, p0, q0, hargs, rfl, rfl, h0, r0⟩ := trodAll_cons hA
  obtain ⟨rfl, rfl, rfl⟩ := trodAll_nil r0
  obtain rfl : args = #[v0] := by cases args; simp_all
  obtain ⟨A0, cap0, b0, rfl, hl0, hm0, hB0⟩ := open_bytes (hval 0 23 v0 rfl rfl) h0 (fun x hx => hlt x (by simp [hx]))
  refine (walk W (of_both hL) A0 cap0 b0 hl0 hm0 hB0).mono fun e W' ⟨he, hg⟩ => ?_
  subst he
  exact ⟨_, rfl, hfin W' hg⟩

theorem proved : Rows.BatchBodiesSaid :=
  OpenClaim.holds_of_wide 4 Tryd.f4 rfl rfl rfl rfl rfl rfl rfl ⟨rfl, rfl, rfl, rfl, rfl⟩ rfl rfl rfl rfl rfl (by kernel_rfl) Tryd.func4 (by kernel_rfl)
    (of_decide_eq_true (by kernel_rfl)) (by unfold Func.isWrapper; first | (rw [if_pos (by decide +kernel)]; kernel_rfl) | (rw [if_neg (by decide +kernel)]; exact ⟨rfl, rfl⟩))
    (fun os started H enc _ => lifted os started H enc)

set_option maxRecDepth 100000 in
theorem card : Rows.BatchBodiesCardSaid :=
  Claim7.holds_tied_plain_at .later [] kindsBoth true _ true
    proved (fun _ h => by cases h) (by kernel_rfl) (fun _ h => by cases h) batchBodies_row_tie rfl ⟨rfl, rfl⟩ (by kernel_rfl) rfl
    (fun f fn hf hfn => by
      obtain rfl : f = 4 := Option.some.inj ((show Tryd.prog.funcNamed "turntable/turntablelaw04.BatchBodies" = some 4 by kernel_rfl).symm.trans hf) |>.symm
      obtain rfl : fn = Tryd.f4 := (Option.some.inj (Tryd.func4.symm.trans hfn)).symm
      exact ⟨by kernel_rfl, fun j t ht => by
        rw [Tryd.params4] at ht
        have hm : t ∈ [23] := by simpa using Array.mem_of_getElem? ht
        have hall : ([23].all fun u => !Tryd.prog.wantsStandIn u) = true := by kernel_rfl
        exact (show Tryd.prog.wantsStandIn t = false by simpa using List.all_eq_true.1 hall t hm)⟩)
    (by kernel_rfl)
#print axioms card
end Go.Proofs.YtimelckjbofhbaaDoor.batchBodies
