/-
  Layer 13: what the laws lean on: the contracts of package rec, and turntablelaw04.One.
-/
import Derived.Test.YtdfeccmcefcpbaaDoorRs13
import Derived.Test.YtdfeccmcefcpbaaDoorSpAs

namespace Go.Proofs.YtdfeccmcefcpbaaDoor
open Go.RowKit
set_option maxRecDepth 100000

/-- the contracts of package rec -/
structure RecOk : Prop where
  right : ∀ (r : Rc.R) (A : Option Addr) (n cap : Nat) (w : World), r.sp.length = n → n ≤ cap → cap ≤ maxLen → Lies w A (flat r.sp) → Fine r.sp →
    Calls Tryd.prog 14 #[recV r A n cap] w fun e w' => e = .returned (.bool (Rc.right r)) ∧ Below w.heap.size w w'
  put : ∀ (r : Rc.R) (A : Option Addr) (n cap : Nat) (w : World), r.sp.length = n → n ≤ cap → cap ≤ maxLen → Lies w A (flat r.sp) → Fine r.sp →
    Calls Tryd.prog 16 #[recV r A n cap] w (Made w (Rc.rput r))
  cost : ∀ (l : List Plain.Sp) (A : Option Addr) (n cap : Nat) (w : World), l.length = n → n ≤ cap → cap ≤ maxLen → Lies w A (flat l) → Fine l →
    Calls Tryd.prog 18 #[.slice A n cap] w fun e w' => e = .returned (.int .i64 (Rc.cost l : Int)) ∧ Below w.heap.size w w'
  get : ∀ (A : Option Addr) (n cap : Nat) (x : List UInt8) (w : World), Handle w → x.length = n → n ≤ cap → cap ≤ maxLen → n ≤ 1099511627776 → Lies w A (cells x) →
    Calls Tryd.prog 12 #[.slice A n cap] w (RGives13 w (Rc.rget x))

theorem seven13 {w : World} {g : Nat} {t : TypeId} {v0 v1 v2 v3 v4 v5 v6 : Value} (h : Blk w g #[v0, v1, v2, v3, v4, v5, v6] t) : w.cell? ⟨g, 0, none⟩ = some v0 ∧ w.cell? ⟨g, 1, none⟩ = some v1 ∧ w.cell? ⟨g, 2, none⟩ = some v2 ∧ w.cell? ⟨g, 3, none⟩ = some v3 ∧ w.cell? ⟨g, 4, none⟩ = some v4 ∧ w.cell? ⟨g, 5, none⟩ = some v5 ∧ w.cell? ⟨g, 6, none⟩ = some v6 :=
  ⟨Blk.cell h 0, Blk.cell h 1, Blk.cell h 2, Blk.cell h 3, Blk.cell h 4, Blk.cell h 5, Blk.cell h 6⟩
theorem one13_any (t i : Int) (w : World) (hi : 0 ≤ i) (hi2 : i ≤ 1000) :
    Calls Tryd.prog 23 #[.int .i64 t, .int .i64 i] w fun e w' => e = .returned (.agg #[.int .i64 t, .int .i64 i, .int .i64 0, .int .i64 (10 * i), .int .i64 5, .string ⟨#[119, 101, 98]⟩, .string ⟨#[110]⟩]) ∧ Below w.heap.size w w' := by
  obtain ⟨y0, y1, y2, y3, y4, y5, y6⟩ := seven13 (Blk.new w #[.int .i64 t, .int .i64 i, .int .i64 0, .int .i64 (10 * i), .int .i64 5, .string ⟨#[119, 101, 98]⟩, .string ⟨#[110]⟩] 40)
  go_enter Tryd.func23, Tryd.ntmps23
  go_wp2
  refine bodyPost_ret (v := .agg #[.int .i64 t, .int .i64 i, .int .i64 0, .int .i64 (10 * i), .int .i64 5, .string ⟨#[119, 101, 98]⟩, .string ⟨#[110]⟩]) (by simp [results, Tryd.results23, go_sem, y0, y1, y2, y3, y4, y5, y6]) rfl ?_
  exact ⟨rfl, by go_grown⟩

def s13 : Plain.Sp := ⟨4, 1, 0, 10, 5, [119, 101, 98], [110]⟩
def r13 : Rc.R := ⟨1, 4, 3, 9, true, [s13]⟩
def o13 : Rc.R := ⟨4, 300, 7, 0, false, []⟩
def d13 : Rc.R := ⟨5, 300, 0, 0, false, []⟩
def n13 : Rc.R := ⟨5, 0, 0, 0, false, []⟩
theorem r13_right : Rc.right r13 = true := by decide +kernel
theorem r13_put : Rc.rput r13 = [1, 11, 9] ++ Plain.tput [s13] := by decide +kernel
theorem r13_len : (Plain.tput [s13]).length = 12 := by decide +kernel
theorem r13_get : Rc.rget (Rc.rput r13) = (r13, 0) := Rc.rget_put r13_right
theorem r13_cost : Rc.cost [s13] = (Rc.rput r13).length + 13 := by decide +kernel
theorem g13_none : Rc.rget [] = (Rc.zero, 11) := by decide +kernel
theorem g13_six : Rc.rget [6, 1] = (Rc.zero, 12) := by decide +kernel
theorem g13_four : Rc.rget [4, 172, 2, 7] = (o13, 0) := by decide +kernel
theorem d13_put : Rc.rput d13 = [5, 172, 2] := by decide +kernel
theorem n13_right : Rc.right n13 = false := by decide +kernel
theorem c13_none : Rc.cost [] = 0 := by decide +kernel
theorem fine_s13 : Fine [s13] := by intro x hx; simp only [List.mem_cons, List.not_mem_nil, or_false] at hx; subst hx; unfold maxLen; decide
end Go.Proofs.YtdfeccmcefcpbaaDoor
