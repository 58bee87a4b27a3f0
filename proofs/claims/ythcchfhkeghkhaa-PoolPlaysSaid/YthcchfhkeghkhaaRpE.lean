/-
  Layer 16, the document's answer: Add of its pool: what it answers, of any pool and any spans. Nothing is assumed but that they lie in memory.
-/
import Derived.Test.YthcchfhkeghkhaaRpD

namespace Go.Proofs.Ythcchfhkeghkhaa
open Go.RowKit Go.Maps Po
set_option maxRecDepth 100000

section
variable {S : List Nat} {w : World} {pb : Nat} {most : Int} {G : List Plain.Sp}
set_option maxHeartbeats 8000000 in
theorem rAdd16_any (h : IsPR S w pb most G) (hS : ∀ s ∈ S, s < w.heap.size) (A' : Option Addr) (m cap' : Nat) (l : List Plain.Sp) (hn : l.length = m) (hc : m ≤ cap') (hm : cap' ≤ maxLen) (hA : Lies w A' (flat l)) (hF : Fine l) {c : Int} (hcd : codes most G l = c) {G' : List Plain.Sp} (hpt : put most G l = G') :
    Calls Try.prog 19 #[.pointer (some ⟨pb, 0, none⟩), .slice A' m cap'] w fun e w' => e = .returned (.int .i64 c) ∧ IsPR S w' pb most G' ∧ Kept [pb] w w' := by
  obtain ⟨A, n, cap, hbx, hr⟩ := h.row
  have HI := Lib.hid h
  have HS := Lib.hid (show ∀ s ∈ pb :: S, s < w.heap.size from fun s hs => by
    rcases List.mem_cons.1 hs with rfl | hs
    · exact hbx.lt
    · exact hS s hs)
  have HBX := Lib.hid (fun (W : World) (hW : Below w.heap.size w W) => show Blk W pb #[.int .i64 most, .slice A n cap] 58 from (Kept.of hW []).blk hbx (by simp))
  have HN := Lib.hid hn
  have HA := Lib.hid hA
  have HF := Lib.hid hF
  have HCD := Lib.hid hcd
  have HPT := Lib.hid hpt
  have HR := Lib.hid hr
  have c1 : w.cell? ⟨pb, 1, none⟩ = some (.slice A n cap) := hbx.cell 1
  unfold maxLen at hm
  clear h hbx hS hn hA hF hcd hpt hr
  go_enter Try.func19, Try.ntmps19
  go_wp2
  go_loopw [5, 6] (fun s5 s6 wr => ∃ (k : Nat) (A5 : Option Addr) (n5 c5 : Nat), s6 = .int .i64 (k : Int) ∧ k ≤ m ∧ s5 = .slice A5 n5 c5 ∧ codes most G (l.take k) = 0 ∧ RowsP (pb :: S) wr A5 n5 c5 (G ++ l.take k) ∧ Below w.heap.size w wr) (fun _ i _ => m - (intOf i).toNat)
  case atStart => exact ⟨0, A, n, cap, rfl, Nat.zero_le _, rfl, by simp [codes], by simpa using HR.out, Below.refl _ _⟩
  case round =>
    obtain ⟨k, A5, n5, c5, rfl, hk, rfl, hc0, hr5, hbr⟩ := hrel
    have HBR := Lib.hid hbr
    have HC0 := Lib.hid hc0
    have HR5 := Lib.hid hr5
    have HOK := Lib.hid (show Ok most (G ++ l.take k) from ok_codes HI.out.ok hc0)
    clear hc0 hr5
    by_cases hlt : k < m
    · have hkl : k < l.length := by rw [HN.out]; exact hlt
      obtain ⟨ad, rfl, hadb, hsp⟩ := at_span HA.out k hkl
      obtain ⟨d0, d1, d2, d3, d4, d5, d6⟩ := hsp wr hbr
      have hST := codes_step (most := most) (G := G) hkl HC0.out
      have hSP := codes_stop (most := most) (G := G) hkl HC0.out
      have hTK : G ++ l.take (k + 1) = (G ++ l.take k) ++ [l[k]] := by rw [List.take_succ_eq_append_getElem hkl, List.append_assoc]
      have hFX : Fine [l[k]] := fun y hy => by rw [List.mem_singleton.1 hy]; exact HF.out _ (List.getElem_mem hkl)
      obtain ⟨x, hx⟩ : ∃ x, l[k] = x := ⟨_, rfl⟩
      rw [hx] at d0 d1 d2 d3 d4 d5 d6 hST hSP hTK hFX
      obtain ⟨cd, hcd⟩ : ∃ cd, code most (G ++ l.take k) x = cd := ⟨_, rfl⟩
      rw [hcd] at hST hSP
      have HST := Lib.hid hST
      have HSP := Lib.hid hSP
      have HTK := Lib.hid hTK
      have HAD := Lib.hid (radd16_any (HBX.out wr hbr) HR5.out HOK.out (fun s hs => Nat.lt_of_lt_of_le (HS.out s hs) hbr.size) x hFX)
      have HX := Lib.hid hcd
      clear hST hSP hTK hFX hx hsp hbr hcd
      go_wp2_with fail
      refine HAD.out.mono ?_
      rintro e w3 ⟨d3', hres⟩
      have HB3 := Lib.hid (HBR.out.trans (d3'.mono HBR.out.size))
      clear d3' d0 d1 d2 d3 d4 d5 d6
      rw [HX.out] at hres
      rcases hres with ⟨hne, rfl⟩ | ⟨h0, A3, n3, c3, rfl, hr3⟩
      · have hq : (cd == 0) = false := by simpa using hne
        have HE := Lib.hid hne
        clear hne
        go_wp2
        go_ret
        have e1 := HSP.out HE.out
        have e2 : c = cd := by rw [← HCD.out]; exact e1
        have e3 : G' = G := by rw [← HPT.out]; unfold put; rw [if_neg (by rw [e1]; exact HE.out)]
        rw [e2, e3]
        exact ⟨rfl, HI.out.below HB3.out, Kept.of HB3.out _⟩
      · subst h0
        have HR3 := Lib.hid hr3
        clear hr3
        go_wp2
        go_roundw
        case rel => exact ⟨k + 1, A3, n3, c3, by go_num, by omega, rfl, HST.out (by trivial), by rw [HTK.out]; exact HR3.out, HB3.out⟩
        case measure => simp [intOf]; omega
    · obtain rfl : m = k := by omega
      have htk : l.take m = l := List.take_of_length_le (by rw [HN.out]; exact Nat.le_refl _)
      have hc0 := HC0.out
      have hr5 := HR5.out
      have hok := HOK.out
      rw [htk] at hc0 hr5 hok
      have e2 : c = 0 := by rw [← HCD.out]; exact hc0
      have e3 : G' = G ++ l := by rw [← HPT.out]; unfold put; rw [if_pos hc0]
      subst e2 e3
      obtain ⟨hI3, hK3⟩ := pool_made HI.out hbr hr5 hok
      have HI3 := Lib.hid hI3
      have HK3 := Lib.hid hK3
      have q1 : wr.cell? ⟨pb, 1, none⟩ = some (.slice A n cap) := (HBX.out wr hbr).cell 1
      have q2 : wr.frozen? ⟨pb, 1, none⟩ = false := (HBX.out wr hbr).frozen 1
      clear hI3 hK3 hr5 hok hc0 htk hbr c1
      go_wp2
      go_ret
      exact ⟨rfl, HI3.out, HK3.out⟩
end
end Go.Proofs.Ythcchfhkeghkhaa
