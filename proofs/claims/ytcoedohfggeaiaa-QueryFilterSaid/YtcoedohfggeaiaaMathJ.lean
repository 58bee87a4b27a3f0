/-
  Plain mathematics of layer 6, with no program in it: items, which is first, what they cost, and which are to go (but for the library's comparing: MathI). Nothing is assumed.
-/
import Derived.Test.YtcoedohfggeaiaaMath6

namespace Go.Proofs.Ytcoedohfggeaiaa.Plain
open Go.Sort

/-- an item -/
structure It where
  id : Int
  cls : Int
  tick : Int
  cost : Int
  pin : Bool
deriving DecidableEq
instance : Inhabited It := ⟨⟨0, 0, 0, 0, false⟩⟩

def It.right (x : It) : Bool := decide ((1 ≤ x.id ∧ x.id ≤ 281474976710656) ∧ (0 ≤ x.cls ∧ x.cls ≤ 7) ∧ (0 ≤ x.tick ∧ x.tick ≤ 281474976710656) ∧ (0 ≤ x.cost ∧ x.cost ≤ 1048576))
theorem It.right_iff (x : It) : x.right = true ↔ ((1 ≤ x.id ∧ x.id ≤ 281474976710656) ∧ (0 ≤ x.cls ∧ x.cls ≤ 7) ∧ (0 ≤ x.tick ∧ x.tick ≤ 281474976710656) ∧ (0 ≤ x.cost ∧ x.cost ≤ 1048576)) := by simp [It.right]
/-- which is first -/
def ilt (a b : It) : Bool := decide (a.cls < b.cls ∨ (a.cls = b.cls ∧ (a.tick < b.tick ∨ (a.tick = b.tick ∧ a.id < b.id))))
theorem ilt_iff (a b : It) : ilt a b = true ↔ (a.cls < b.cls ∨ (a.cls = b.cls ∧ (a.tick < b.tick ∨ (a.tick = b.tick ∧ a.id < b.id)))) := by simp [ilt]
theorem ilt_no (a b : It) : ilt a b = false ↔ ¬ (a.cls < b.cls ∨ (a.cls = b.cls ∧ (a.tick < b.tick ∨ (a.tick = b.tick ∧ a.id < b.id)))) := by rw [Bool.eq_false_iff, ne_eq, ilt_iff]
def cmpN (a b : Int) : Int := if a < b then -1 else if b < a then 1 else 0
def orN (a b c : Int) : Int := if a = 0 then (if b = 0 then c else b) else a
def cmpI (x y : It) : Int := orN (cmpN x.cls y.cls) (cmpN x.tick y.tick) (cmpN x.id y.id)
theorem cmpI_neg (x y : It) : cmpI x y < 0 ↔ ilt x y = true := by
  rw [ilt_iff]
  unfold cmpI orN cmpN
  repeat' split
  all_goals omega
theorem swoI : SWO ilt where
  irrefl x := by rw [ilt_no]; omega
  trans x y z h1 h2 := by rw [ilt_iff] at *; omega
  ntrans x y z h1 h2 := by rw [ilt_no] at *; omega
/-- those that may go, as they are to go -/
def mayGo (l : List It) : List It := l.filter fun x => x.right && !x.pin
def inOrder (l : List It) : List It := srt ilt (mayGo l)
theorem inOrder_length (l : List It) : (inOrder l).length ≤ l.length := by unfold inOrder; rw [srt_length]; exact List.length_filter_le _ _
theorem inOrder_right {l : List It} {x : It} (h : x ∈ inOrder l) : x ∈ l ∧ x.right = true ∧ x.pin = false := by
  have := (srt_perm _).mem_iff.1 h
  simp [mayGo] at this
  exact this

/-- what right ones cost, and pinned ones of them -/
def costs (l : List It) : Int := (l.map fun x => if x.right then x.cost else 0).sum
def pins (l : List It) : Int := (l.map fun x => if x.right && x.pin then x.cost else 0).sum
theorem costs_nil : costs [] = 0 := rfl
theorem pins_nil : pins [] = 0 := rfl
theorem costs_snoc (l : List It) (x : It) : costs (l ++ [x]) = costs l + if x.right then x.cost else 0 := by simp [costs]
theorem pins_snoc (l : List It) (x : It) : pins (l ++ [x]) = pins l + if x.right && x.pin then x.cost else 0 := by simp [pins]
theorem costs_bound (l : List It) : 0 ≤ pins l ∧ pins l ≤ costs l ∧ costs l ≤ 1048576 * l.length := by
  induction l using snocInd with
  | h0 => simp [costs, pins]
  | hs l x ih =>
    rw [costs_snoc, pins_snoc, List.length_append, List.length_singleton]
    cases hr : x.right with
    | false => simp; omega
    | true =>
      have := (It.right_iff x).1 hr
      cases x.pin <;> simp <;> omega

/-- the first ones that go, until there is room -/
def vic (budget : Int) : Int → List It → List It
  | _, [] => []
  | left, x :: r => if left ≤ budget then [] else x :: vic budget (left - x.cost) r
/-- may it be at all? -/
def fits (l : List It) (inn budget : Int) : Bool := decide ((0 ≤ inn ∧ inn ≤ 1099511627776) ∧ (0 ≤ budget ∧ budget ≤ 1099511627776) ∧ inn + pins l ≤ budget)
def gone (l : List It) (inn budget : Int) : List It := if fits l inn budget then vic budget (inn + costs l) (inOrder l) else []
end Go.Proofs.Ytcoedohfggeaiaa.Plain
