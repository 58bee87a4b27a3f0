/-
  Layer 17: plain mathematics of how a device is used: how much room there is, how many extents a budget needs. Nothing is assumed.
-/
import Derived.Test.YtgicjdlpkphfnaaBase

namespace Go.Proofs.Ytgicjdlpkphfnaa.Ge

/-- how a device is used -/
structure G where
  E : Int
  S : Int
  M : Int
instance : Inhabited G := ⟨⟨0, 0, 0⟩⟩
def G.ok (g : G) : Prop := 4 ≤ g.E ∧ g.E ≤ 8 ∧ 1 ≤ g.S ∧ g.S ≤ 64 ∧ 64 ≤ g.M ∧ g.M ≤ 57 * g.S ∧ g.M ≤ 3600
instance (g : G) : Decidable g.ok := by unfold G.ok; infer_instance
def right (g : G) : Bool := decide g.ok
theorem right_iff {g : G} : right g = true ↔ g.ok := decide_eq_true_iff
def tapeRoom (S : Int) : Int := if S < 1 ∨ 64 < S then 0 else 57 * S
def size (g : G) : Int := if right g then 2 + g.E * g.S else 0
def first (g : G) (i : Int) : Int := if right g = true ∧ 0 ≤ i ∧ i < g.E then 2 + i * g.S else 0
def room (g : G) : Int := if right g then 57 * g.S else 0
def budget (g : G) : Int := if right g then max 0 ((g.E - 3) * (57 * g.S - g.M) - 57 * g.E) else 0
theorem room_tape {g : G} (h : g.ok) : tapeRoom g.S = 57 * g.S := by
  unfold tapeRoom
  obtain ⟨-, -, h1, h2, -⟩ := h
  rw [if_neg (by omega)]
theorem right_tape (g : G) : right g = decide (4 ≤ g.E ∧ g.E ≤ 8 ∧ 1 ≤ g.S ∧ g.S ≤ 64 ∧ 64 ≤ g.M ∧ g.M ≤ tapeRoom g.S ∧ g.M ≤ 3600) := by
  unfold right G.ok tapeRoom
  apply decide_eq_decide.2
  split
  · constructor <;> (intro h; omega)
  · rfl
theorem size_ok {g : G} (h : g.ok) : size g = 2 + g.E * g.S := by unfold size; rw [if_pos (right_iff.2 h)]
theorem room_ok {g : G} (h : g.ok) : room g = 57 * g.S := by unfold room; rw [if_pos (right_iff.2 h)]
theorem first_ok {g : G} (h : g.ok) {i : Int} (h0 : 0 ≤ i) (h1 : i < g.E) : first g i = 2 + i * g.S := by unfold first; rw [if_pos ⟨right_iff.2 h, h0, h1⟩]
theorem budget_ok {g : G} (h : g.ok) : budget g = max 0 ((g.E - 3) * (57 * g.S - g.M) - 57 * g.E) := by unfold budget; rw [if_pos (right_iff.2 h)]
/-- extents are four to eight -/
theorem exts_of {g : G} (h : g.ok) : g.E = 4 ∨ g.E = 5 ∨ g.E = 6 ∨ g.E = 7 ∨ g.E = 8 := by
  obtain ⟨h1, h2, -⟩ := h
  omega
theorem index_of {g : G} (h : g.ok) {i : Int} (h0 : 0 ≤ i) (h1 : i < g.E) : i = 0 ∨ i = 1 ∨ i = 2 ∨ i = 3 ∨ i = 4 ∨ i = 5 ∨ i = 6 ∨ i = 7 := by
  obtain ⟨-, h2, -⟩ := h
  omega
theorem size_le {g : G} (h : g.ok) : 6 ≤ size g ∧ size g ≤ 514 := by
  rw [size_ok h]
  obtain ⟨_, _, h3, h4, -⟩ := id h
  rcases exts_of h with e | e | e | e | e <;> rw [e] <;> omega
theorem prod_le {i k S : Int} (h : i < k) (hS : 0 ≤ S) : i * S + S ≤ k * S := by
  have : (i + 1) * S ≤ k * S := Int.mul_le_mul_of_nonneg_right (by omega) hS
  rw [Int.add_mul, Int.one_mul] at this
  exact this
theorem first_in {g : G} (h : g.ok) {i : Int} (h0 : 0 ≤ i) (h1 : i < g.E) : 2 ≤ first g i ∧ first g i + g.S ≤ size g := by
  rw [first_ok h h0 h1, size_ok h]
  obtain ⟨_, _, h3, h4, -⟩ := h
  have := prod_le h1 (S := g.S) (by omega)
  have : 0 ≤ i * g.S := Int.mul_nonneg h0 (by omega)
  omega
theorem first_apart {g : G} (h : g.ok) {i k : Int} (h0 : 0 ≤ i) (h1 : i < g.E) (h2 : 0 ≤ k) (h3 : k < g.E) : (i = k ∨ first g i + g.S ≤ first g k ∨ first g k + g.S ≤ first g i) ∧ (i = k ↔ first g i = first g k) := by
  rw [first_ok h h0 h1, first_ok h h2 h3]
  obtain ⟨_, _, h4, h5, -⟩ := h
  rcases Int.lt_trichotomy i k with e | e | e
  · have := prod_le e (S := g.S) (by omega)
    refine ⟨by omega, ⟨fun h => by omega, fun h => by omega⟩⟩
  · subst e; exact ⟨.inl rfl, ⟨fun _ => rfl, fun _ => rfl⟩⟩
  · have := prod_le e (S := g.S) (by omega)
    refine ⟨by omega, ⟨fun h => by omega, fun h => by omega⟩⟩
theorem budget_nonneg (g : G) : 0 ≤ budget g := by
  unfold budget
  split
  · exact Int.le_max_left _ _
  · exact Int.le_refl _
theorem budget_le {g : G} (h : g.ok) : budget g ≤ 18240 := by
  rw [budget_ok h]
  obtain ⟨_, _, h3, h4, h5, h6, h7⟩ := id h
  apply Int.max_le.2
  refine ⟨by omega, ?_⟩
  rcases exts_of h with e | e | e | e | e <;> rw [e] <;> omega

/-! P17.1: which budget is smaller -/
theorem budget_ext {g : G} (h : g.ok) (h' : G.ok ⟨g.E + 1, g.S, g.M⟩) : budget g ≤ budget ⟨g.E + 1, g.S, g.M⟩ := by
  rw [budget_ok h, budget_ok h']
  obtain ⟨_, h2, h3, h4, h5, h6, h7⟩ := id h
  obtain ⟨_, h8, -⟩ := id h'
  simp only at h8 ⊢
  rcases exts_of h with e | e | e | e | e <;> rw [e] at h8 ⊢ <;> omega
theorem budget_sec {g : G} (h : g.ok) (h' : G.ok ⟨g.E, g.S + 1, g.M⟩) : budget g ≤ budget ⟨g.E, g.S + 1, g.M⟩ := by
  rw [budget_ok h, budget_ok h']
  simp only
  rcases exts_of h with e | e | e | e | e <;> rw [e] <;> omega
theorem budget_max {g : G} (h : g.ok) (h' : G.ok ⟨g.E, g.S, g.M + 1⟩) : budget ⟨g.E, g.S, g.M + 1⟩ ≤ budget g := by
  rw [budget_ok h, budget_ok h']
  simp only
  rcases exts_of h with e | e | e | e | e <;> rw [e] <;> omega

/-! P17.3: how many extents a budget needs -/
/-- what has been filled: x extents, the last one up to n; 'left' of the budget; out times something was left out -/
structure Fill (g : G) (x n left out : Int) : Prop where
  x0 : 0 ≤ x
  n0 : 0 ≤ n
  nr : n ≤ 57 * g.S
  l0 : 0 ≤ left
  lb : left ≤ budget g
  o0 : 0 ≤ out
  oe : out ≤ g.E
  none : x = 0 → out = 0 ∧ n = 57 * g.S
  some : 0 < x → 0 < budget g ∧ (x - 1) * (57 * g.S - g.M + 1) + n ≤ budget g - left + 57 * out
theorem Fill.start {g : G} (h : g.ok) : Fill g 0 (57 * g.S) (budget g) 0 := by
  obtain ⟨_, _, h3, -⟩ := id h
  exact ⟨Int.le_refl _, by omega, Int.le_refl _, budget_nonneg g, Int.le_refl _, Int.le_refl _, by omega, fun _ => ⟨rfl, rfl⟩, fun h => by omega⟩
/-- a frame goes into the last extent -/
theorem Fill.here {g : G} {x n left out c : Int} (h : Fill g x n left out) (h1 : 1 ≤ c) (hl : c ≤ left) (hx : x ≠ 0) (hr : n + c ≤ 57 * g.S) : Fill g x (n + c) (left - c) out := by
  obtain ⟨a1, a2, a3, a4, a5, a6, a7, a8, a9⟩ := h
  refine ⟨a1, by omega, hr, by omega, by omega, a6, a7, fun e => absurd e hx, fun hp => ?_⟩
  obtain ⟨b1, b2⟩ := a9 hp
  exact ⟨b1, by omega⟩
/-- a frame goes into the next one -/
theorem Fill.next {g : G} (hg : g.ok) {x n left out c : Int} (h : Fill g x n left out) (h1 : 1 ≤ c) (hM : c ≤ g.M) (hl : c ≤ left) (hr : x = 0 ∨ 57 * g.S < n + c) : Fill g (x + 1) (0 + c) (left - c) out := by
  obtain ⟨a1, a2, a3, a4, a5, a6, a7, a8, a9⟩ := h
  obtain ⟨_, _, _, _, _, hm, _⟩ := hg
  refine ⟨by omega, by omega, by omega, by omega, by omega, a6, a7, fun e => by omega, fun hp => ⟨by omega, ?_⟩⟩
  by_cases hx : x = 0
  · obtain ⟨e1, -⟩ := a8 hx
    subst hx e1
    have : ((0 : Int) + 1 - 1) * (57 * g.S - g.M + 1) = 0 := by simp
    rw [this]
    omega
  · obtain ⟨b1, b2⟩ := a9 (by omega)
    have e : (x + 1 - 1) * (57 * g.S - g.M + 1) = (x - 1) * (57 * g.S - g.M + 1) + (57 * g.S - g.M + 1) := by
      have : x + 1 - 1 = (x - 1) + 1 := by omega
      rw [this, Int.add_mul, Int.one_mul]
    rw [e]
    rcases hr with h | h
    · exact absurd h hx
    · omega
/-- some bytes are left out -/
theorem Fill.over {g : G} {x n left out c : Int} (h : Fill g x n left out) (h0 : 0 ≤ c) (hc : c ≤ 57) (ho : out < g.E) (hx : x ≠ 0) : Fill g x (min (57 * g.S) (n + c)) left (out + 1) := by
  obtain ⟨a1, a2, a3, a4, a5, a6, a7, a8, a9⟩ := h
  refine ⟨a1, by omega, by omega, a4, a5, by omega, by omega, fun e => absurd e hx, fun hp => ?_⟩
  obtain ⟨b1, b2⟩ := a9 hp
  exact ⟨b1, by omega⟩
theorem Fill.done {g : G} (hg : g.ok) {x n left out : Int} (h : Fill g x n left out) : x ≤ g.E - 2 ∧ 0 ≤ left := by
  obtain ⟨a1, a2, a3, a4, a5, a6, a7, a8, a9⟩ := h
  refine ⟨?_, a4⟩
  obtain ⟨e1, e2, s1, s2, m1, m2, m3⟩ := id hg
  by_cases hx : x = 0
  · omega
  · obtain ⟨b1, b2⟩ := a9 (by omega)
    have hb := budget_ok hg
    have hpos : 0 < (g.E - 3) * (57 * g.S - g.M) - 57 * g.E := by
      rcases Int.le_total ((g.E - 3) * (57 * g.S - g.M) - 57 * g.E) 0 with h | h
      · rw [Int.max_eq_left h] at hb; omega
      · rw [Int.max_eq_right h] at hb; omega
    rw [Int.max_eq_right (by omega)] at hb
    apply Int.le_of_not_gt
    intro hgt
    have h3 : (g.E - 2) * (57 * g.S - g.M + 1) ≤ (x - 1) * (57 * g.S - g.M + 1) := Int.mul_le_mul_of_nonneg_right (by omega) (by omega)
    rcases exts_of hg with e | e | e | e | e <;> rw [e] at h3 hb a7 <;> omega

/-! P17.2: each sector is the table's, or of just one extent -/
def many (g : G) (k : Int) (i : Int) : Int := if 2 ≤ k ∧ k < 2 + i * g.S then 1 else 0
theorem many_zero (g : G) (k : Int) : many g k 0 = 0 := by unfold many; rw [if_neg (by omega)]
theorem many_step {g : G} (h : g.ok) {k i : Int} (h0 : 0 ≤ i) (h1 : i < g.E) : many g k (i + 1) = if first g i ≤ k ∧ k < first g i + g.S then many g k i + 1 else many g k i := by
  have e : (i + 1) * g.S = i * g.S + g.S := by rw [Int.add_mul, Int.one_mul]
  have hp : 0 ≤ i * g.S := Int.mul_nonneg h0 (by obtain ⟨_, _, h3, -⟩ := id h; omega)
  rw [first_ok h h0 h1]
  obtain ⟨_, _, h3, -⟩ := id h
  unfold many
  rw [e]
  by_cases c1 : 2 ≤ k ∧ k < 2 + i * g.S
  · rw [if_pos (by omega), if_neg (by omega), if_pos c1]
  · rw [if_neg c1]
    by_cases c2 : 2 + i * g.S ≤ k ∧ k < 2 + i * g.S + g.S
    · rw [if_pos (by omega), if_pos c2]; rfl
    · rw [if_neg (by omega), if_neg c2]
theorem many_all {g : G} (h : g.ok) {k : Int} (hk : k < size g) : many g k g.E = if 2 ≤ k then 1 else 0 := by
  rw [size_ok h] at hk
  unfold many
  by_cases c : 2 ≤ k
  · rw [if_pos ⟨c, hk⟩, if_pos c]
  · rw [if_neg (by omega), if_neg c]
theorem many_le {g : G} {k i : Int} : 0 ≤ many g k i ∧ many g k i ≤ 1 := by
  unfold many; split <;> omega
end Go.Proofs.Ytgicjdlpkphfnaa.Ge
