/-
  Layer 12: turntableref12's Same, of parts that are alike. Assumed: that the parts, and their bodies, lie in memory.
-/
import Derived.Test.YtchfiekepjndeaaRf12
import Derived.Deep.QuietTactic
import Derived.BigQuiet

namespace Go.Proofs.Ytchfiekepjndeaa
open Go.RowKit
set_option maxRecDepth 100000

/-- parts that can be read, and their bodies -/
def ReadP (w : World) (A : Option Addr) (L : List PV) : Prop := Lies w A (flatP L) ∧ ∀ x ∈ L, ∃ A' c, x.2 = .slice A' x.1.b.length c ∧ Lies w A' (cells x.1.b)
theorem ReadP.below {w w' : World} {A : Option Addr} {L : List PV} (h : ReadP w A L) (hb : Below w.heap.size w w') : ReadP w' A L :=
  ⟨h.1.below hb, fun x hx => by obtain ⟨A', c, e, hl⟩ := h.2 x hx; exact ⟨A', c, e, hl.below hb⟩⟩
theorem own_form3 {w : World} {base n : Nat} {e : TypeId} {v : Value} {xs : List Value} (h : w.ownsRow base e 3 v n xs) : ∃ A cap, v = .slice A n cap ∧ n ≤ cap ∧ cap ≤ maxLen ∧ Lies w A xs := by
  rcases h.2 with ⟨rfl, h0⟩ | ⟨g, cap, cur, rfl, hb, hg, h3, h4, _⟩
  · have hl := h.1
    subst h0
    have : xs = [] := List.eq_nil_of_length_eq_zero (by omega)
    subst this
    exact ⟨none, 0, rfl, by omega, by unfold maxLen; omega, Lies.nil⟩
  · exact ⟨_, cap, rfl, h3, h4, .inr ⟨_, rfl, (h.lt g rfl).2, h.cells (g := g) rfl⟩⟩
theorem PRow.read {B : Nat} {w : World} {v : Value} {L : List PV} (h : PRow B w v L) : ∃ A cap, v = .slice A L.length cap ∧ L.length ≤ cap ∧ cap ≤ maxLen ∧ ReadP w A L := by
  obtain ⟨A, cap, hv, h1, h2, h3⟩ := own_form3 h.row
  refine ⟨A, cap, hv, h1, h2, h3, fun x hx => ?_⟩
  obtain ⟨A', c, e, _, _, _, hl⟩ := own_form (h.each x hx).2
  exact ⟨A', c, e, hl⟩
theorem flatP_at (L : List PV) (k : Nat) (hk : k < L.length) (j : Nat) (hj : j < 3) : (flatP L)[k * 3 + j]? = [Value.int .i64 (L[k].1.p : Int), .int .i64 (L[k].1.sz : Int), L[k].2][j]? := by
  induction L generalizing k with
  | nil => simp at hk
  | cons x r ih =>
    have e : flatP (x :: r) = [Value.int .i64 (x.1.p : Int), .int .i64 (x.1.sz : Int), x.2] ++ flatP r := by simp [flatP]
    rw [e]
    rcases k with _ | k
    · rw [List.getElem?_append_left (by simp; omega)]
      simp
    · rw [List.getElem?_append_right (by simp; omega), show (k + 1) * 3 + j - [Value.int .i64 (x.1.p : Int), .int .i64 (x.1.sz : Int), x.2].length = k * 3 + j by simp; omega]
      exact ih k (by simpa using hk)
/-- the k-th part's cells, in every later world, as the walk spells them -/
theorem at_part {w : World} {A : Option Addr} {L : List PV} (h : Lies w A (flatP L)) (k : Nat) (hk : k < L.length) :
    ∃ ad, A = some ad ∧ ad.block < w.heap.size ∧ ∀ u, Below w.heap.size w u → u.cell? (ad.add (k * 3)) = some (.int .i64 (L[k].1.p : Int)) ∧ u.cell? ⟨(ad.add (k * 3)).block, (ad.add (k * 3)).off + 1, none⟩ = some (.int .i64 (L[k].1.sz : Int)) ∧ u.cell? ⟨(ad.add (k * 3)).block, (ad.add (k * 3)).off + 2, none⟩ = some L[k].2 := by
  have hl := flatP_len L
  rcases h with h | ⟨ad, rfl, hb, hc⟩
  · rw [h] at hl; simp at hl; omega
  · refine ⟨ad, rfl, hb, fun u hu => ?_⟩
    have hpb : (ad.add (k * 3)).block < w.heap.size := by rw [addr_block]; exact hb
    have hc2 : ∀ j v, j < 3 → [Value.int .i64 (L[k].1.p : Int), .int .i64 (L[k].1.sz : Int), L[k].2][j]? = some v → w.cell? ((ad.add (k * 3)).add j) = some v := fun j v hj hv => by
      rw [addr_add]
      exact hc _ _ (by rw [flatP_at L k hk j hj]; exact hv)
    exact ⟨(hu.cell hpb).trans (hc2 0 _ (by omega) rfl), (hu.cell (p := ⟨(ad.add (k * 3)).block, (ad.add (k * 3)).off + 1, none⟩) hpb).trans (hc2 1 _ (by omega) rfl), (hu.cell (p := ⟨(ad.add (k * 3)).block, (ad.add (k * 3)).off + 2, none⟩) hpb).trans (hc2 2 _ (by omega) rfl)⟩

theorem neq_same (W : World) (s : ByteArray) : (binOp .neq 9 (.string s) (.string s)).run Try.prog W = .ok (.bool false) W := by
  rw [binOp_string_neq]
  simp

set_option maxHeartbeats 4000000 in
theorem same12_yes (A1 A2 : Option Addr) (n c1 c2 : Nat) (L1 L2 : List PV) (w : World) (h1 : L1.length = n) (hn : n ≤ 1000000) (he : L1.map (·.1) = L2.map (·.1)) (hA1 : ReadP w A1 L1) (hA2 : ReadP w A2 L2) :
    Calls Try.prog 15 #[.slice A1 n c1, .slice A2 n c2] w fun e w' => e = .returned (.bool true) ∧ Below w.heap.size w w' := by
  have h2 : L2.length = n := by have := congrArg List.length he; simp at this; omega
  have HN1 := Lib.hid h1
  have HN2 := Lib.hid h2
  have HE := Lib.hid he
  have HA1 := Lib.hid hA1
  have HA2 := Lib.hid hA2
  clear h1 h2 he hA1 hA2
  go_enter Try.func15, Try.ntmps15
  go_wp2
  go_loopw [5] (fun i wr => ∃ k : Nat, i = .int .i64 k ∧ k ≤ n ∧ Below w.heap.size w wr) (fun i _ => n - (intOf i).toNat)
  case atStart => exact ⟨0, rfl, Nat.zero_le _, Below.refl _ _⟩
  case round =>
    obtain ⟨k, rfl, hk, hbr⟩ := hrel
    by_cases hlt : k < n
    · have hk1 : k < L1.length := by rw [HN1.out]; exact hlt
      have hk2 : k < L2.length := by rw [HN2.out]; exact hlt
      obtain ⟨a1, rfl, ha1, hx1⟩ := at_part HA1.out.1 k hk1
      obtain ⟨a2, rfl, ha2, hx2⟩ := at_part HA2.out.1 k hk2
      obtain ⟨x0, x1, x2⟩ := hx1 wr hbr
      obtain ⟨y0, y1, y2⟩ := hx2 wr hbr
      obtain ⟨B1, d1, e1, hl1⟩ := HA1.out.2 L1[k] (List.getElem_mem hk1)
      obtain ⟨B2, d2, e2, hl2⟩ := HA2.out.2 L2[k] (List.getElem_mem hk2)
      have hsame : L2[k].1 = L1[k].1 := by
        have h := congrArg (fun l => l[k]?) HE.out
        simp only [List.getElem?_map, List.getElem?_eq_getElem hk1, List.getElem?_eq_getElem hk2, Option.map_some, Option.some.injEq] at h
        exact h.symm
      rw [e1] at x2
      rw [e2] at y2
      rw [hsame] at y0 y1 y2 hl2
      have hcv1 := fun q => conv_str (P := Try.prog) (w := wr.drewN q) (c := d1) ((hl1.below hbr).many q) 22 5 Try.underlying22 Try.underlying5 9 Try.underlying9
      have hcv2 := fun q => conv_str (P := Try.prog) (w := wr.drewN q) (c := d2) ((hl2.below hbr).many q) 22 5 Try.underlying22 Try.underlying5 9 Try.underlying9
      clear hx1 hx2 e1 e2 hl1 hl2 hsame
      generalize L1[k].1 = x at *
      obtain ⟨xp, xb⟩ := x
      have hz : (⟨xp, xb⟩ : Fra.P).sz = (⟨xp, xb⟩ : Fra.P).sz := rfl
      generalize (⟨xp, xb⟩ : Fra.P).sz = z at *
      clear hz
      simp only at *
      generalize str xb = S at *
      generalize xb.length = m at *
      have hne := fun W => neq_same W S
      go_wp2
      go_quiet (fail)
      go_wp2
      go_roundw
      case rel => exact ⟨k + 1, by go_num, by omega, below_many hbr _⟩
      case measure => simp [intOf]; omega
    · obtain rfl : k = n := by omega
      go_wp2
      go_ret
      exact ⟨rfl, hbr⟩
end Go.Proofs.Ytchfiekepjndeaa
