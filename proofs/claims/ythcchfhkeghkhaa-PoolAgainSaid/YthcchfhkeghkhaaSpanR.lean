/-
  SpRd: Layer 3: the reader's pass, number and text: what they answer, and how the reader stands then. Nothing is assumed but that its bytes lie in memory.
  SpTk: Layer 3: span.takeNumbers and takeTexts: what they put where, and how the reader stands then. Nothing is assumed but that its bytes lie in memory.
-/
import Derived.Test.YthcchfhkeghkhaaGen
import Derived.Test.YthcchfhkeghkhaaMath
import Derived.Test.YthcchfhkeghkhaaVint
import Derived.Test.YthcchfhkeghkhaaBase

namespace Go.Proofs.Ythcchfhkeghkhaa
open Go.RowKit
set_option maxRecDepth 100000

theorem soft_sliceLo {P : Program} {w : World} {ρ : Operand → Value} {o : Oper} {x y : Operand} {t : TypeId} {vx vy u : Value} (hx : ρ x = vx) (hy : ρ y = vy) (hr : (Instr.sliceAt t vx (some vy) none none).run P w = .ok u w) (ho : o.op = .slice t x (some y) none none) : softUpon P w (Fact.is u) ((execOp ρ o).run P w) := by
  have e : (execOp ρ o).run P w = .ok (.value u) w := by
    simp [execOp, ho, hx, hy, hr]
  rw [e]
  exact ⟨rfl, Below.refl _ _⟩

/-- the memory that a reader stands on: its bytes lie in memory that was there before it -/
structure Stand (w0 w : World) (g : Nat) (A : Option Addr) (n cap : Nat) (bs : List UInt8) : Prop where
  len : bs.length = n
  room : n ≤ cap
  small : cap ≤ maxLen
  few : n ≤ 1099511627776
  lies : Lies w0 A (cells bs)
  kept : Below w0.heap.size w0 w
  new : w0.heap.size ≤ g
theorem Stand.on {w0 w w' : World} {g : Nat} {A : Option Addr} {n cap : Nat} {bs : List UInt8} (h : Stand w0 w g A n cap bs) (hb : Below w0.heap.size w0 w') : Stand w0 w' g A n cap bs := ⟨h.len, h.room, h.small, h.few, h.lies, hb, h.new⟩

end Go.Proofs.Ythcchfhkeghkhaa

namespace Go.Proofs.Ythcchfhkeghkhaa
open Go.RowKit
set_option maxRecDepth 100000

/-- where the reader is behind k numbers, and its error -/
def runN (b : List UInt8) : Nat → Nat × Nat
  | 0 => (0, 0)
  | k + 1 => (Plain.stepN b (runN b k).1 (runN b k).2).2
def valN (b : List UInt8) (k : Nat) : Nat := (Plain.stepN b (runN b k).1 (runN b k).2).1
/-- and behind k texts, which stand behind five numbers -/
def runT (b : List UInt8) : Nat → Nat × Nat
  | 0 => runN b 5
  | k + 1 => (Plain.stepT b (runT b k).1 (runT b k).2).2
def valT (b : List UInt8) (k : Nat) : List UInt8 := (Plain.stepT b (runT b k).1 (runT b k).2).1
theorem runN_le (b : List UInt8) (k : Nat) : (runN b k).1 ≤ b.length := by
  induction k with
  | zero => simp [runN]
  | succ k ih => exact (Plain.stepN_le b _ _ ih).1
theorem runT_le (b : List UInt8) (k : Nat) : (runT b k).1 ≤ b.length := by
  induction k with
  | zero => exact runN_le b 5
  | succ k ih => exact (Plain.stepT_le b _ _ ih).1
theorem valN_le (b : List UInt8) (k : Nat) : valN b k ≤ 281474976710656 := (Plain.stepN_le b _ _ (runN_le b k)).2
theorem valT_le (b : List UInt8) (k : Nat) : (valT b k).length ≤ 32 := (Plain.stepT_le b _ _ (runT_le b k)).2
theorem parts_is (b : List UInt8) : Plain.parts b = (⟨valN b 0, valN b 1, valN b 2, valN b 3, valN b 4, valT b 0, valT b 1⟩, runT b 2) := by
  simp only [Plain.parts, valN, valT, runN, runT]

/-- the span's cells behind k numbers -/
def spN (b : List UInt8) (k : Nat) : Array Value :=
  #[.int .i64 (if 0 < k then valN b 0 else 0 : Nat), .int .i64 (if 1 < k then valN b 1 else 0 : Nat), .int .i64 (if 2 < k then valN b 2 else 0 : Nat), .int .i64 (if 3 < k then valN b 3 else 0 : Nat), .int .i64 (if 4 < k then valN b 4 else 0 : Nat), .string ⟨#[]⟩, .string ⟨#[]⟩]
theorem spN_set (b : List UInt8) (k : Nat) (h : k < 5) : (spN b k).setIfInBounds k (.int .i64 (valN b k)) = spN b (k + 1) := by
  obtain rfl | rfl | rfl | rfl | rfl : k = 0 ∨ k = 1 ∨ k = 2 ∨ k = 3 ∨ k = 4 := by omega
  all_goals rfl
theorem spN_at (b : List UInt8) (k : Nat) (h : k < 5) : ∃ x : Int, (spN b k)[k]? = some (.int .i64 x) := by
  obtain rfl | rfl | rfl | rfl | rfl : k = 0 ∨ k = 1 ∨ k = 2 ∨ k = 3 ∨ k = 4 := by omega
  all_goals exact ⟨_, rfl⟩
/-- and behind k texts -/
def spT (b : List UInt8) (k : Nat) : Array Value :=
  #[.int .i64 (valN b 0 : Nat), .int .i64 (valN b 1 : Nat), .int .i64 (valN b 2 : Nat), .int .i64 (valN b 3 : Nat), .int .i64 (valN b 4 : Nat), .string (if 0 < k then str (valT b 0) else ⟨#[]⟩), .string (if 1 < k then str (valT b 1) else ⟨#[]⟩)]
theorem spN_spT (b : List UInt8) : spN b 5 = spT b 0 := rfl
theorem spT_set (b : List UInt8) (k : Nat) (h : k < 2) : (spT b k).setIfInBounds (5 + k) (.string (str (valT b k))) = spT b (k + 1) := by
  obtain rfl | rfl : k = 0 ∨ k = 1 := by omega
  all_goals rfl
theorem spT_at (b : List UInt8) (k : Nat) (h : k < 2) : ∃ x, (spT b k)[5 + k]? = some (.string x) := by
  obtain rfl | rfl : k = 0 ∨ k = 1 := by omega
  all_goals exact ⟨_, rfl⟩

end Go.Proofs.Ythcchfhkeghkhaa
