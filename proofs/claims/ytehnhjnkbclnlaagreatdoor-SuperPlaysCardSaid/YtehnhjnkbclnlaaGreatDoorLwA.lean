/-
  Layer 7's laws: a sector of one byte, calls that came in, whether they are too many, and numbers compared. Nothing is assumed.
-/
import Derived.Test.YtehnhjnkbclnlaaGreatDoorDvB
import Derived.Deep.QuietTactic
import Derived.BigQuiet
import Derived.Lib.MinMax

namespace Go.Proofs.YtehnhjnkbclnlaaGreatDoor
open Go.RowKit
set_option maxRecDepth 100000

/-- a sector of one byte, in memory of one's own -/
def GivesF (w : World) (c : UInt8) (e : Ending) (w' : World) : Prop := ∃ b, e = .returned (.slice (some ⟨b, 0, none⟩) 64 64) ∧ w.heap.size ≤ b ∧ Blk w' b (cells (Plain.full c)).toArray 5 ∧ Below w.heap.size w w'
theorem Blk.lies {w : World} {b : Nat} {cs : Array Value} {t : TypeId} (h : Blk w b cs t) : Lies w (some ⟨b, 0, none⟩) cs.toList :=
  .inr ⟨_, rfl, h.lt, fun j u hu => by rw [Addr.add_mid, Nat.zero_add, h.cell]; simpa using hu⟩
set_option maxHeartbeats 1000000 in
theorem sameInts_any (A B : Option Addr) (n m ca cb : Nat) (xs ys : List Nat) (r : Bool) (hr : decide (xs = ys) = r) (w : World) (hn : xs.length = n) (hm : ys.length = m) (hn2 : n ≤ 1000000) (hm2 : m ≤ 1000000) (hA : Lies w A (nums xs)) (hB : Lies w B (nums ys)) :
    Calls Tryz.prog 21 #[.slice A n ca, .slice B m cb] w fun e w' => e = .returned (.bool r) ∧ Below w.heap.size w w' := by
  have HR := Lib.hid hr
  have HN := Lib.hid hn
  have HM := Lib.hid hm
  clear hr hn hm
  by_cases hne : n = m
  · subst hne
    have t0 : ((n : Int) != (n : Int)) = false := by simp
    have HA := Lib.hid hA
    have HB := Lib.hid hB
    clear hA hB
    go_enter Tryz.func21, Tryz.ntmps21
    go_wp2
    go_loopw [5] (fun s wr => ∃ k : Nat, s = .int .i64 (k : Int) ∧ k ≤ n ∧ xs.take k = ys.take k ∧ Below w.heap.size w wr) (fun s _ => n - (RowKit.intOf s).toNat)
    case atStart => exact ⟨0, rfl, Nat.zero_le _, rfl, Below.refl _ _⟩
    case round =>
      obtain ⟨k, rfl, hk, he, hb⟩ := hrel
      have HE := Lib.hid he
      clear he
      by_cases hlt : k < n
      · have hkx : k < xs.length := by rw [HN.out]; exact hlt
        have hky : k < ys.length := by rw [HM.out]; exact hlt
        obtain ⟨ad, rfl, _, hcx⟩ := (HA.out.below hb).at_ (k := k) (by rw [nums_length]; exact hkx)
        obtain ⟨bd, rfl, _, hcy⟩ := (HB.out.below hb).at_ (k := k) (by rw [nums_length]; exact hky)
        obtain ⟨x, hx⟩ : ∃ x, xs[k] = x := ⟨_, rfl⟩
        obtain ⟨y, hy⟩ : ∃ y, ys[k] = y := ⟨_, rfl⟩
        rw [show (nums xs)[k]'(by rw [nums_length]; exact hkx) = .int .i64 (x : Int) by simp [nums, hx]] at hcx
        rw [show (nums ys)[k]'(by rw [nums_length]; exact hky) = .int .i64 (y : Int) by simp [nums, hy]] at hcy
        have hk0 : (0 : Int) ≤ (k : Int) := by omega
        have hk1 : (k : Int) < (n : Int) := by omega
        have HX := Lib.hid hx
        have HY := Lib.hid hy
        clear hx hy
        by_cases hxy : x = y
        · subst hxy
          go_wp2
          go_quiet (fail)
          go_wp2
          go_roundw
          case rel =>
            refine ⟨k + 1, by go_num, by omega, ?_, below_many hb _⟩
            rw [List.take_succ_eq_append_getElem hkx, List.take_succ_eq_append_getElem hky, HE.out, HX.out, HY.out]
          case measure => simp [RowKit.intOf]; omega
        · have t1 : ((x : Int) != (y : Int)) = true := by simp; omega
          go_wp2
          go_quiet (fail)
          go_wp2
          go_returns
          have e : r = false := by
            rw [← HR.out]
            refine decide_eq_false fun e => ?_
            subst e
            exact hxy (by rw [← HX.out, ← HY.out])
          subst e
          exact ⟨rfl, below_many hb _⟩
      · obtain rfl : n = k := by omega
        go_wp2
        go_returns
        have e : r = true := by
          rw [← HR.out]
          refine decide_eq_true ?_
          have := HE.out
          rw [List.take_of_length_le (by rw [HN.out]; omega), List.take_of_length_le (by rw [HM.out]; omega)] at this
          exact this
        subst e
        exact ⟨rfl, hb⟩
  · have t0 : ((n : Int) != (m : Int)) = true := by simp; omega
    clear hA hB
    go_enter Tryz.func21, Tryz.ntmps21
    go_wp2
    go_returns
    have e : r = false := by
      rw [← HR.out]
      refine decide_eq_false fun e => ?_
      subst e
      exact hne (by rw [← HN.out, HM.out])
    subst e
    exact ⟨rfl, Below.refl _ _⟩

/-! calls that came in -/
structure Oq where
  what : Int
  at_ : Int
  c : UInt8
  bA : Option Addr
  bcap : Nat
  b : List UInt8
  kA : Option Addr
  kcap : Nat
  keep : List Bool
  hA : Option Addr
  hcap : Nat
  hurt : List Plain.Hu
instance : Inhabited Oq := ⟨⟨0, 0, 0, none, 0, [], none, 0, [], none, 0, []⟩⟩
def oqCells (x : Oq) : List Value := [.int .i64 x.what, .int .i64 x.at_, .int .u8 (x.c.toNat : Int), .slice x.bA x.b.length x.bcap, .slice x.kA x.keep.length x.kcap, .slice x.hA x.hurt.length x.hcap]
theorem oqCells_length (x : Oq) : (oqCells x).length = 6 := rfl
def flatQ (l : List Oq) : List Value := l.flatMap oqCells
theorem flatQ_length (xs : List Oq) : (flatQ xs).length = xs.length * 6 := by
  induction xs with
  | nil => rfl
  | cons x xs ih => simp only [flatQ, List.flatMap_cons, List.length_append, List.length_cons, oqCells_length] at ih ⊢; omega
theorem flatQ_at (xs : List Oq) (i j : Nat) (x : Oq) (h : xs[i]? = some x) (hj : j < 6) : (flatQ xs)[i * 6 + j]? = (oqCells x)[j]? := by
  induction xs generalizing i with
  | nil => simp at h
  | cons y ys ih =>
    cases i with
    | zero =>
      simp only [List.getElem?_cons_zero, Option.some.injEq] at h
      subst h
      simp only [flatQ, List.flatMap_cons]
      rw [List.getElem?_append_left (by rw [oqCells_length]; omega)]
      simp
    | succ i =>
      have := ih i (by simpa using h)
      simp only [flatQ, List.flatMap_cons] at this ⊢
      rw [List.getElem?_append_right (by rw [oqCells_length]; omega), oqCells_length]
      rw [show (i + 1) * 6 + j - 6 = i * 6 + j by omega]
      exact this
/-- what one of them needs -/
structure OqIn (w : World) (x : Oq) : Prop where
  at0 : -9223372036854775808 ≤ x.at_
  at1 : x.at_ ≤ 9223372036854775807
  bl : x.b.length ≤ x.bcap
  bm : x.bcap ≤ maxLen
  b : Lies w x.bA (cells x.b)
  kl : x.keep.length ≤ x.kcap
  km : x.kcap ≤ maxLen
  keep : Lies w x.kA (bools x.keep)
  hl : x.hurt.length ≤ x.hcap
  hm : x.hcap ≤ maxLen
  hurt : Lies w x.hA (flatH x.hurt)
  bits : ∀ h ∈ x.hurt, h.bits < 4294967296
theorem OqIn.below {w w' : World} {x : Oq} (h : OqIn w x) (hb : Below w.heap.size w w') : OqIn w' x :=
  ⟨h.at0, h.at1, h.bl, h.bm, h.b.below hb, h.kl, h.km, h.keep.below hb, h.hl, h.hm, h.hurt.below hb, h.bits⟩
/-- one of them in memory -/
theorem at_oq {w : World} {A : Option Addr} {l : List Oq} (h : Lies w A (flatQ l)) (k : Nat) (hk : k < l.length) :
    ∃ ad, A = some ad ∧ ad.block < w.heap.size ∧ ∀ u, Below w.heap.size w u → u.cell? (ad.add (k * 6)) = some (.int .i64 l[k].what) ∧ u.cell? ⟨(ad.add (k * 6)).block, (ad.add (k * 6)).off + 1, none⟩ = some (.int .i64 l[k].at_) ∧ u.cell? ⟨(ad.add (k * 6)).block, (ad.add (k * 6)).off + 2, none⟩ = some (.int .u8 (l[k].c.toNat : Int)) ∧ u.cell? ⟨(ad.add (k * 6)).block, (ad.add (k * 6)).off + 3, none⟩ = some (.slice l[k].bA l[k].b.length l[k].bcap) ∧ u.cell? ⟨(ad.add (k * 6)).block, (ad.add (k * 6)).off + 4, none⟩ = some (.slice l[k].kA l[k].keep.length l[k].kcap) ∧ u.cell? ⟨(ad.add (k * 6)).block, (ad.add (k * 6)).off + 5, none⟩ = some (.slice l[k].hA l[k].hurt.length l[k].hcap) := by
  obtain ⟨ad, rfl, hadb, -⟩ := h.at_ (k := k * 6) (by rw [flatQ_length]; omega)
  refine ⟨ad, rfl, hadb, ?_⟩
  have hc2 : ∀ j u, (oqCells l[k])[j]? = some u → w.cell? ((ad.add (k * 6)).add j) = some u := fun j u hu => by
    have hj : j < 6 := by
      rcases Nat.lt_or_ge j 6 with h | h
      · exact h
      · rw [List.getElem?_eq_none (by rw [oqCells_length]; exact h)] at hu; cases hu
    have hf := flatQ_at l k j l[k] (List.getElem?_eq_getElem hk) hj
    rw [hu] at hf
    rw [addr_add]
    rcases h with h | ⟨ad', e, _, hc⟩
    · rw [h] at hf; simp at hf
    · injection e with e; subst e; exact hc _ _ hf
  have hpb : (ad.add (k * 6)).block < w.heap.size := by rw [addr_block]; exact hadb
  exact fun u hu => ⟨(hu.cell hpb).trans (hc2 0 _ rfl), (hu.cell (p := ⟨(ad.add (k * 6)).block, (ad.add (k * 6)).off + 1, none⟩) hpb).trans (hc2 1 _ rfl), (hu.cell (p := ⟨(ad.add (k * 6)).block, (ad.add (k * 6)).off + 2, none⟩) hpb).trans (hc2 2 _ rfl), (hu.cell (p := ⟨(ad.add (k * 6)).block, (ad.add (k * 6)).off + 3, none⟩) hpb).trans (hc2 3 _ rfl), (hu.cell (p := ⟨(ad.add (k * 6)).block, (ad.add (k * 6)).off + 4, none⟩) hpb).trans (hc2 4 _ rfl), (hu.cell (p := ⟨(ad.add (k * 6)).block, (ad.add (k * 6)).off + 5, none⟩) hpb).trans (hc2 5 _ rfl)⟩

theorem add_any (W : World) (x y : Int) : (binOp .add 3 (.int .i64 x) (.int .i64 y)).run Tryz.prog W = .ok (.int .i64 (IntKind.i64.wrap (x + y))) W := by
  go_simp
theorem soft_min {P : Program} {w : World} {ρ : Operand → Value} {o : Oper} {x y : Operand} {ats : Array TypeId} {a b : Int} (hx : ρ x = .int .i64 a) (hy : ρ y = .int .i64 b) (ho : o.op = .call { callee := .builtin .min, args := #[x, y], argTypes := ats }) : softUpon P w (Fact.is (.int .i64 (min a b))) ((execOp ρ o).run P w) := by
  have e : (execOp ρ o).run P w = .ok (.value (.int .i64 (min a b))) w := by
    simp only [execOp, ho, resolve, invoke, builtin, Sem.run_bind, Sem.run_pure, Result.andThen_ok, List.map_toArray, List.map_cons, List.map_nil, hx, hy, Lib.run_min_ints]
  rw [e]
  exact ⟨rfl, Below.refl _ _⟩

/-- it says whether they are too many -/
def GivesQ (w : World) (n : Nat) (e : Ending) (w' : World) : Prop := ∃ r : Bool, e = .returned (.bool r) ∧ (r = false → n ≤ 200) ∧ Below w.heap.size w w'
end Go.Proofs.YtehnhjnkbclnlaaGreatDoor

