/-
  Layer 16, the document's answer: Get of its pool: what it answers, of any pool. Nothing is assumed but that it lies in memory.
-/
import Derived.Test.YthcchfhkeghkhaaRpA

namespace Go.Proofs.Ythcchfhkeghkhaa
open Go.RowKit Go.Maps Po
set_option maxRecDepth 100000

section
variable {S : List Nat} {w : World} {p : Nat} {most : Int} {G : List Plain.Sp}
set_option maxHeartbeats 4000000 in
theorem rget16_any (h : IsPR S w p most G) (i : Int) : Calls Try.prog 16 #[.pointer (some ⟨p, 0, none⟩), .int .i64 i] w fun e w' => ∃ v, e = .returned (.tuple #[v, .bool (decide (i ∈ ids G))]) ∧ w'.ownsRow w.heap.size 45 7 v (Po.part G i).length (flat (Po.part G i)) ∧ Below w.heap.size w w' := by
  obtain ⟨i0, hi, hz0, hz1, hz2⟩ := info_parts infoSp
  obtain ⟨A, n, cap, hb, hr⟩ := h.row
  have h64 := h.ok.many
  rw [← hr.len] at h64
  have hle := hr.le
  have hcm := hr.cap
  unfold maxLen at hcm
  have HAT := Lib.hid (rat16_any hr h64 i)
  have hlt : p < w.heap.size := hb.lt
  have hBA : Below w.heap.size w (w.alloc (.cells #[] 45)) := (Below.refl _ _).alloc (Nat.le_refl _) _
  have c0 : w.cell? ⟨p, 1, none⟩ = some (.slice A n cap) := hb.cell 1
  have c1 : (w.alloc (.cells #[] 45)).cell? ⟨p, 1, none⟩ = some (.slice A n cap) := ((Kept.of hBA []).blk hb (by simp)).cell 1
  have HR := Lib.hid hr
  have HN := Lib.hid hr.len
  clear h hb hr
  go_enter Try.func16, Try.ntmps16
  go_wp2_with fail
  refine HAT.out.mono ?_
  rintro e w2 ⟨v, rfl, hat, rfl⟩
  rcases hat with ⟨rfl, hg⟩ | ⟨k, hk, rfl, hmk⟩
  · have HP := Lib.hid (part_nil.2 hg)
    have HG := Lib.hid hg
    clear hg HAT
    go_wp2_with fail
    go_returns
    rw [HP.out, decide_eq_false HG.out]
    exact ⟨_, rfl, World.ownsRow_nil _ _ _ _, Below.refl _ _⟩
  · have HG := Lib.hid (show i ∈ ids G by rw [← hmk]; exact List.getElem_mem hk)
    have hkn : k < n := by rw [HN.out]; exact hk
    obtain ⟨ad, r, hii, rfl, hadb, hr, hin, hc⟩ := HR.out.at_ hkn
    rw [hmk] at hr
    have d1 := hc _ hBA
    have hcr := hin.cap
    have hle2 := hin.le
    have hf2 := hin.few
    have HL := Lib.hid (hin.lies.below hBA)
    have HFL := Lib.hid (flat_length r.ts)
    have HF1 := Lib.hid (show ∀ u ∈ flat r.ts, u.oneCell' = true from fun u hu => by
      obtain ⟨x, -, hx⟩ := List.mem_flatMap.1 hu
      simp only [spanCells, List.mem_cons, List.not_mem_nil, or_false] at hx
      rcases hx with rfl | rfl | rfl | rfl | rfl | rfl | rfl <;> rfl)
    have HLIT := Lib.hid (show (w2.alloc (.cells #[] 45)).ownsRow w2.heap.size 45 7 (.slice (some ⟨w2.heap.size, 0, none⟩) 0 0) 0 [] by
      have := World.ownsRow_lit (base := w2.heap.size) (e := 45) (size := 7) w2 #[] 0 (Nat.le_refl _) (by unfold maxLen; omega) rfl
      simpa using this)
    have HR2 := Lib.hid hr
    have HBA := Lib.hid hBA
    have hlt0 : decide ((k : Int) < 0) = false := by simp
    obtain ⟨m, hm⟩ : ∃ m, r.ts.length = m := ⟨_, rfl⟩
    rw [hm] at d1 hle2 hf2 HFL
    have HM := Lib.hid hm
    obtain ⟨rA, hrA⟩ : ∃ rA, r.A = rA := ⟨_, rfl⟩
    rw [hrA] at d1 HL
    obtain ⟨rc, hrc⟩ : ∃ rc, r.cap = rc := ⟨_, rfl⟩
    rw [hrc] at d1 hle2 hcr
    unfold maxLen at hcr
    clear hr hin hc hmk hBA HAT hm hrA hrc hk hii
    go_wp2_with (at_builtin; refine wpList_appK rfl _ _ 29 rfl w2.heap.size 45 i0 (.agg #[.int .i64 0, .int .i64 0, .int .i64 0, .int .i64 0, .int .i64 0, .string ⟨#[]⟩, .string ⟨#[]⟩]) 7 72 Try.underlying29 hi hz0 hz1 hz2 rfl (by decide) (.slice (some ⟨w2.heap.size, 0, none⟩) 0 0) 0 [] rfl ?b1 rA m rc (flat r.ts) rfl HFL.out ?b2 HF1.out ?b4 ?b5 ?b6 ?b7)
    case b1 => exact HLIT.out
    case b2 => exact HL.out
    case b4 => unfold maxLen; omega
    case b5 => omega
    case b6 => simp
    case b7 =>
      intro v3 w3 hown3 hg3 _
      have HB3 := Lib.hid (HBA.out.grown hg3 (by simp) (fun g e => by
        simp only [Value.ownBlock, Option.some.injEq] at e; omega))
      have HO3 := Lib.hid hown3
      clear hown3 hg3
      go_wp2
      go_returns
      rw [decide_eq_true HG.out, ← HR2.out, HM.out]
      exact ⟨_, rfl, HO3.out, HB3.out⟩
end
end Go.Proofs.Ythcchfhkeghkhaa
