/-
  Layer 7's given answer: Loose. Nothing is assumed.
-/
import Derived.Test.YtldecmodhppjpaaRfF

namespace Go.Proofs.Ytldecmodhppjpaa
open Go.ChangeShapes Go.WideShapes Go.ChangeAt Go.RowKit
set_option maxRecDepth 100000

theorem infoInt7 : (Try.prog.info? 3).map (fun i => (i.zero, i.size, i.bytes)) = some (some (.int .i64 0), 1, 8) := by kernel_rfl
/-- the loose ones below -/
def lo7 (d : Plain.Dv) (k : Nat) : List Nat := (List.range k).filter fun i => (d.wr i).isSome
theorem lo7_succ (d : Plain.Dv) (k : Nat) : lo7 d (k + 1) = lo7 d k ++ (if (d.wr k).isSome = true then [k] else []) := by
  unfold lo7
  rw [List.range_succ, List.filter_append, List.filter_cons]
  split <;> rfl
theorem lo7_le (d : Plain.Dv) (k : Nat) : (lo7 d k).length ≤ k := by
  have := List.length_filter_le (fun i => (d.wr i).isSome) (List.range k)
  rwa [List.length_range] at this

set_option maxHeartbeats 2000000 in
theorem rloose_any (w : World) (bk bw bl g : Nat) (d : Plain.Dv) (h : IsRef w bk bw bl g d) :
    Calls Try.prog 26 #[.pointer (some ⟨g, 0, none⟩)] w (GivesN w d.loose) := by
  obtain ⟨n, hn⟩ : ∃ n, d.n = n := ⟨_, rfl⟩
  have hn2 : n ≤ 4096 := by rw [← hn]; exact h.ok.few
  have HN := Lib.hid hn
  have b2 : w.cell? ⟨g, 2, none⟩ = some (.slice (some ⟨bl, 0, none⟩) n n) := by rw [← hn]; exact h.box.cell 2
  have hlo := h.loose
  rw [hn] at hlo
  have HB2 := Lib.hid b2
  have HLO := Lib.hid hlo
  have hgt := h.lts.2.2.2
  obtain ⟨i0, hi, hz0, hz1, hz2⟩ := info_parts infoInt7
  clear h hn b2 hlo
  go_enter Try.func26, Try.ntmps26
  go_wp2
  go_loopw [3, 4] (fun v s wr => ∃ k : Nat, s = .int .i64 (k : Int) ∧ k ≤ n ∧ wr.ownsRow w.heap.size 3 1 v (lo7 d k).length (nums (lo7 d k)) ∧ Below w.heap.size w wr) (fun _ s _ => n - (RowKit.intOf s).toNat)
  case atStart => exact ⟨0, rfl, Nat.zero_le _, ⟨by simp [nums, lo7], .inl ⟨rfl, rfl⟩⟩, Below.refl _ _⟩
  case round =>
    obtain ⟨k, rfl, hk, hown, hB⟩ := hrel
    have HO := Lib.hid hown
    have HB := Lib.hid hB
    have zr := hB.size
    have hkl := lo7_le d k
    have c2 : wr.cell? ⟨g, 2, none⟩ = some (.slice (some ⟨bl, 0, none⟩) n n) := (hB.cell (p := ⟨g, 2, none⟩) hgt).trans HB2.out
    clear hown hB
    by_cases hkn : k < n
    · have hk0 : (0 : Int) ≤ (k : Int) := by omega
      have hk1 : (k : Int) < (n : Int) := by omega
      have hcl : wr.cell? ⟨bl, k, none⟩ = some (.bool (d.wr k).isSome) := (HLO.out.kept (Kept.of HB.out []) (by simp)).cell hkn
      have HS := Lib.hid (lo7_succ d k)
      obtain ⟨M, hM⟩ : ∃ M, lo7 d k = M := ⟨_, rfl⟩
      rw [hM] at HO HS hkl
      cases hs : (d.wr k).isSome with
      | false =>
        rw [hs] at hcl HS
        have HS2 := Lib.hid (show lo7 d (k + 1) = M by rw [HS.out]; simp)
        clear hs hM
        go_wp2
        go_roundw
        case rel => exact ⟨k + 1, by go_num, by omega, by rw [HS2.out]; exact HO.out, HB.out⟩
        case measure => simp [RowKit.intOf]; omega
      | true =>
        rw [hs] at hcl HS
        have HS2 := Lib.hid (show lo7 d (k + 1) = M ++ [k] by rw [HS.out, if_pos rfl])
        clear hs hM
        go_wp2_with (at_builtin; refine wpList_appK rfl _ _ 43 rfl w.heap.size 3 i0 (.int .i64 0) 1 8 Try.underlying43 hi hz0 hz1 hz2 rfl (by decide) _ M.length (nums M) rfl ?b1 (some ⟨wr.heap.size, 0, none⟩) 1 1 [.int .i64 (k : Int)] rfl rfl ?b2 ?b3 ?b4 ?b5 ?b6 ?b7)
        case b1 => exact HO.out.alloc _
        case b2 => exact (Blk.new wr #[.int .i64 (k : Int)] 3).lies
        case b3 => simp [Value.oneCell']
        case b4 => unfold maxLen; omega
        case b5 => omega
        case b6 => first | omega | (simp; omega)
        case b7 =>
          intro v5 w5 hown5 hgrow _
          have f5 : Below w.heap.size w w5 := (HB.out.alloc zr _).grown hgrow (by simp; omega) (fun g hg => (HO.out.lt g hg).1)
          have HO5 := Lib.hid hown5
          clear hown5 hgrow
          go_wp2
          go_roundw
          case rel => exact ⟨k + 1, by go_num, by omega, by rw [HS2.out, List.length_append]; simpa [nums] using HO5.out, f5⟩
          case measure => simp [RowKit.intOf]; omega
    · obtain rfl : n = k := by omega
      have e : lo7 d n = d.loose := by rw [← HN.out]; rfl
      go_wp2
      go_returns
      exact ⟨_, rfl, by rw [← e]; exact HO.out, HB.out⟩
end Go.Proofs.Ytldecmodhppjpaa
