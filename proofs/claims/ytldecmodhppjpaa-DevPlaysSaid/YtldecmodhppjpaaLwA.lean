/-
  Layer 7's laws: a sector of one byte, calls that came in, whether they are too many, and numbers compared. Nothing is assumed.
-/
import Derived.Test.YtldecmodhppjpaaDvB
import Derived.Deep.QuietTactic
import Derived.BigQuiet
import Derived.Lib.MinMax

namespace Go.Proofs.Ytldecmodhppjpaa
open Go.RowKit
set_option maxRecDepth 100000

/-- a sector of one byte, in memory of one's own -/
def GivesF (w : World) (c : UInt8) (e : Ending) (w' : World) : Prop := ∃ b, e = .returned (.slice (some ⟨b, 0, none⟩) 64 64) ∧ w.heap.size ≤ b ∧ Blk w' b (cells (Plain.full c)).toArray 5 ∧ Below w.heap.size w w'
theorem Blk.lies {w : World} {b : Nat} {cs : Array Value} {t : TypeId} (h : Blk w b cs t) : Lies w (some ⟨b, 0, none⟩) cs.toList :=
  .inr ⟨_, rfl, h.lt, fun j u hu => by rw [Addr.add_mid, Nat.zero_add, h.cell]; simpa using hu⟩
set_option maxHeartbeats 1000000 in
theorem full_any (c : UInt8) (w : World) : Calls Try.prog 23 #[.int .u8 (c.toNat : Int)] w (GivesF w c) := by
  obtain ⟨i0, hi, hz0, hz1, hz2⟩ := info_parts infoU8
  obtain ⟨Z, hZ⟩ : ∃ Z, madeCells #[.int .u8 0] 64 = Z := ⟨_, rfl⟩
  have hZs : Z.size = 64 := by rw [← hZ]; simp [size_madeCells]
  have hmk : ∀ W : World, (Instr.makeSlice 29 (.int .i64 64) (.int .i64 64)).run Try.prog W = .ok (.slice (some ⟨W.heap.size, 0, none⟩) 64 64) (W.alloc (.cells Z 5)) := fun W => by
    have := run_make (P := Try.prog) W 29 5 i0 _ Try.underlying29 hi hz0 .i64 .i64 64 64 (by omega) (by omega) (by rw [hz2]; omega) (by omega)
    rw [hz1] at this
    rw [← hZ]
    simpa [Value.cells] using this
  have HZ := Lib.hid hZs
  clear hi hz0 hz1 hz2 hZ hZs
  go_enter Try.func23, Try.ntmps23
  go_wp2
  go_loopw [4] (fun s wr => ∃ (k : Nat) (cs : Array Value), s = .int .i64 (k : Int) ∧ k ≤ 64 ∧ Blk wr w.heap.size cs 5 ∧ cs.size = 64 ∧ (∀ j, j < k → cs[j]? = some (.int .u8 (c.toNat : Int))) ∧ Below w.heap.size w wr) (fun s _ => 64 - (RowKit.intOf s).toNat)
  case atStart => exact ⟨0, Z, rfl, by omega, Blk.new w Z _, HZ.out, (fun j h => by omega), (Below.refl _ _).alloc (Nat.le_refl _) _⟩
  case round =>
    obtain ⟨k, cs, rfl, hk, hb, hs, hc, hB⟩ := hrel
    by_cases hlt : k < 64
    · have hcell : wr.cell? ⟨w.heap.size, k, none⟩ = some (cs[k]'(by omega)) := by rw [hb.cell]; simp [hs, hlt]
      have hf := hb.frozen k
      have h0 : (0 : Int) ≤ (k : Int) := by omega
      have HB := Lib.hid hb
      have HS := Lib.hid hs
      have HC := Lib.hid hc
      generalize cs[k]'(by omega) = old at hcell
      clear hb hs hc
      go_wp2
      go_roundw
      case rel =>
        refine ⟨k + 1, _, by go_num, by omega, HB.out.set k _, by simpa using HS.out, fun j hj => ?_, hB.setCell (Nat.le_refl _) _⟩
        by_cases e : j = k
        · subst e; simp [HS.out, hlt]
        · rw [Array.getElem?_setIfInBounds_ne (Ne.symm e)]; exact HC.out j (by omega)
      case measure => simp [RowKit.intOf]; omega
    · obtain rfl : k = 64 := by omega
      go_wp2
      go_ret
      refine ⟨_, rfl, Nat.le_refl _, ?_, hB⟩
      have e : cs = (cells (Plain.full c)).toArray := by
        apply Array.ext_getElem?
        intro j
        rcases Nat.lt_or_ge j 64 with hj | hj
        · rw [hc j hj, List.getElem?_toArray]
          unfold cells Plain.full
          rw [List.getElem?_map, List.getElem?_replicate, if_pos hj]
          rfl
        · rw [Array.getElem?_eq_none (by omega), Array.getElem?_eq_none (by simp [cells, Plain.full]; exact hj)]
      rw [← e]
      exact hb

set_option maxHeartbeats 1000000 in
theorem sameInts_any (A B : Option Addr) (n m ca cb : Nat) (xs ys : List Nat) (r : Bool) (hr : decide (xs = ys) = r) (w : World) (hn : xs.length = n) (hm : ys.length = m) (hn2 : n ≤ 1000000) (hm2 : m ≤ 1000000) (hA : Lies w A (nums xs)) (hB : Lies w B (nums ys)) :
    Calls Try.prog 24 #[.slice A n ca, .slice B m cb] w fun e w' => e = .returned (.bool r) ∧ Below w.heap.size w w' := by
  have HR := Lib.hid hr
  have HN := Lib.hid hn
  have HM := Lib.hid hm
  clear hr hn hm
  by_cases hne : n = m
  · subst hne
    have t0 : ((n : Int) != (n : Int)) = false := by simp
    have HA := Lib.hid hA
    have HB := Lib.hid hB
    clear hA hB
    go_enter Try.func24, Try.ntmps24
    go_wp2
    go_loopw [5] (fun s wr => ∃ k : Nat, s = .int .i64 (k : Int) ∧ k ≤ n ∧ xs.take k = ys.take k ∧ Below w.heap.size w wr) (fun s _ => n - (RowKit.intOf s).toNat)
    case atStart => exact ⟨0, rfl, Nat.zero_le _, rfl, Below.refl _ _⟩
    case round =>
      obtain ⟨k, rfl, hk, he, hb⟩ := hrel
      have HE := Lib.hid he
      clear he
      by_cases hlt : k < n
      · have hkx : k < xs.length := by rw [HN.out]; exact hlt
        have hky : k < ys.length := by rw [HM.out]; exact hlt
        obtain ⟨ad, rfl, _, hcx⟩ := (HA.out.below hb).at_ (k := k) (by rw [nums_length]; exact hkx)
        obtain ⟨bd, rfl, _, hcy⟩ := (HB.out.below hb).at_ (k := k) (by rw [nums_length]; exact hky)
        obtain ⟨x, hx⟩ : ∃ x, xs[k] = x := ⟨_, rfl⟩
        obtain ⟨y, hy⟩ : ∃ y, ys[k] = y := ⟨_, rfl⟩
        rw [show (nums xs)[k]'(by rw [nums_length]; exact hkx) = .int .i64 (x : Int) by simp [nums, hx]] at hcx
        rw [show (nums ys)[k]'(by rw [nums_length]; exact hky) = .int .i64 (y : Int) by simp [nums, hy]] at hcy
        have hk0 : (0 : Int) ≤ (k : Int) := by omega
        have hk1 : (k : Int) < (n : Int) := by omega
        have HX := Lib.hid hx
        have HY := Lib.hid hy
        clear hx hy
        by_cases hxy : x = y
        · subst hxy
          go_wp2
          go_quiet (fail)
          go_wp2
          go_roundw
          case rel =>
            refine ⟨k + 1, by go_num, by omega, ?_, below_many hb _⟩
            rw [List.take_succ_eq_append_getElem hkx, List.take_succ_eq_append_getElem hky, HE.out, HX.out, HY.out]
          case measure => simp [RowKit.intOf]; omega
        · have t1 : ((x : Int) != (y : Int)) = true := by simp; omega
          go_wp2
          go_quiet (fail)
          go_wp2
          go_returns
          have e : r = false := by
            rw [← HR.out]
            refine decide_eq_false fun e => ?_
            subst e
            exact hxy (by rw [← HX.out, ← HY.out])
          subst e
          exact ⟨rfl, below_many hb _⟩
      · obtain rfl : n = k := by omega
        go_wp2
        go_returns
        have e : r = true := by
          rw [← HR.out]
          refine decide_eq_true ?_
          have := HE.out
          rw [List.take_of_length_le (by rw [HN.out]; omega), List.take_of_length_le (by rw [HM.out]; omega)] at this
          exact this
        subst e
        exact ⟨rfl, hb⟩
  · have t0 : ((n : Int) != (m : Int)) = true := by simp; omega
    clear hA hB
    go_enter Try.func24, Try.ntmps24
    go_wp2
    go_returns
    have e : r = false := by
      rw [← HR.out]
      refine decide_eq_false fun e => ?_
      subst e
      exact hne (by rw [← HN.out, HM.out])
    subst e
    exact ⟨rfl, Below.refl _ _⟩

/-! calls that came in -/
structure Oq where
  what : Int
  at_ : Int
  c : UInt8
  bA : Option Addr
  bcap : Nat
  b : List UInt8
  kA : Option Addr
  kcap : Nat
  keep : List Bool
  hA : Option Addr
  hcap : Nat
  hurt : List Plain.Hu
instance : Inhabited Oq := ⟨⟨0, 0, 0, none, 0, [], none, 0, [], none, 0, []⟩⟩
def oqCells (x : Oq) : List Value := [.int .i64 x.what, .int .i64 x.at_, .int .u8 (x.c.toNat : Int), .slice x.bA x.b.length x.bcap, .slice x.kA x.keep.length x.kcap, .slice x.hA x.hurt.length x.hcap]
theorem oqCells_length (x : Oq) : (oqCells x).length = 6 := rfl
def flatQ (l : List Oq) : List Value := l.flatMap oqCells
theorem flatQ_length (xs : List Oq) : (flatQ xs).length = xs.length * 6 := by
  induction xs with
  | nil => rfl
  | cons x xs ih => simp only [flatQ, List.flatMap_cons, List.length_append, List.length_cons, oqCells_length] at ih ⊢; omega
theorem flatQ_at (xs : List Oq) (i j : Nat) (x : Oq) (h : xs[i]? = some x) (hj : j < 6) : (flatQ xs)[i * 6 + j]? = (oqCells x)[j]? := by
  induction xs generalizing i with
  | nil => simp at h
  | cons y ys ih =>
    cases i with
    | zero =>
      simp only [List.getElem?_cons_zero, Option.some.injEq] at h
      subst h
      simp only [flatQ, List.flatMap_cons]
      rw [List.getElem?_append_left (by rw [oqCells_length]; omega)]
      simp
    | succ i =>
      have := ih i (by simpa using h)
      simp only [flatQ, List.flatMap_cons] at this ⊢
      rw [List.getElem?_append_right (by rw [oqCells_length]; omega), oqCells_length]
      rw [show (i + 1) * 6 + j - 6 = i * 6 + j by omega]
      exact this
/-- what one of them needs -/
structure OqIn (w : World) (x : Oq) : Prop where
  at0 : -9223372036854775808 ≤ x.at_
  at1 : x.at_ ≤ 9223372036854775807
  bl : x.b.length ≤ x.bcap
  bm : x.bcap ≤ maxLen
  b : Lies w x.bA (cells x.b)
  kl : x.keep.length ≤ x.kcap
  km : x.kcap ≤ maxLen
  keep : Lies w x.kA (bools x.keep)
  hl : x.hurt.length ≤ x.hcap
  hm : x.hcap ≤ maxLen
  hurt : Lies w x.hA (flatH x.hurt)
  bits : ∀ h ∈ x.hurt, h.bits < 4294967296
theorem OqIn.below {w w' : World} {x : Oq} (h : OqIn w x) (hb : Below w.heap.size w w') : OqIn w' x :=
  ⟨h.at0, h.at1, h.bl, h.bm, h.b.below hb, h.kl, h.km, h.keep.below hb, h.hl, h.hm, h.hurt.below hb, h.bits⟩
/-- one of them in memory -/
theorem at_oq {w : World} {A : Option Addr} {l : List Oq} (h : Lies w A (flatQ l)) (k : Nat) (hk : k < l.length) :
    ∃ ad, A = some ad ∧ ad.block < w.heap.size ∧ ∀ u, Below w.heap.size w u → u.cell? (ad.add (k * 6)) = some (.int .i64 l[k].what) ∧ u.cell? ⟨(ad.add (k * 6)).block, (ad.add (k * 6)).off + 1, none⟩ = some (.int .i64 l[k].at_) ∧ u.cell? ⟨(ad.add (k * 6)).block, (ad.add (k * 6)).off + 2, none⟩ = some (.int .u8 (l[k].c.toNat : Int)) ∧ u.cell? ⟨(ad.add (k * 6)).block, (ad.add (k * 6)).off + 3, none⟩ = some (.slice l[k].bA l[k].b.length l[k].bcap) ∧ u.cell? ⟨(ad.add (k * 6)).block, (ad.add (k * 6)).off + 4, none⟩ = some (.slice l[k].kA l[k].keep.length l[k].kcap) ∧ u.cell? ⟨(ad.add (k * 6)).block, (ad.add (k * 6)).off + 5, none⟩ = some (.slice l[k].hA l[k].hurt.length l[k].hcap) := by
  obtain ⟨ad, rfl, hadb, -⟩ := h.at_ (k := k * 6) (by rw [flatQ_length]; omega)
  refine ⟨ad, rfl, hadb, ?_⟩
  have hc2 : ∀ j u, (oqCells l[k])[j]? = some u → w.cell? ((ad.add (k * 6)).add j) = some u := fun j u hu => by
    have hj : j < 6 := by
      rcases Nat.lt_or_ge j 6 with h | h
      · exact h
      · rw [List.getElem?_eq_none (by rw [oqCells_length]; exact h)] at hu; cases hu
    have hf := flatQ_at l k j l[k] (List.getElem?_eq_getElem hk) hj
    rw [hu] at hf
    rw [addr_add]
    rcases h with h | ⟨ad', e, _, hc⟩
    · rw [h] at hf; simp at hf
    · injection e with e; subst e; exact hc _ _ hf
  have hpb : (ad.add (k * 6)).block < w.heap.size := by rw [addr_block]; exact hadb
  exact fun u hu => ⟨(hu.cell hpb).trans (hc2 0 _ rfl), (hu.cell (p := ⟨(ad.add (k * 6)).block, (ad.add (k * 6)).off + 1, none⟩) hpb).trans (hc2 1 _ rfl), (hu.cell (p := ⟨(ad.add (k * 6)).block, (ad.add (k * 6)).off + 2, none⟩) hpb).trans (hc2 2 _ rfl), (hu.cell (p := ⟨(ad.add (k * 6)).block, (ad.add (k * 6)).off + 3, none⟩) hpb).trans (hc2 3 _ rfl), (hu.cell (p := ⟨(ad.add (k * 6)).block, (ad.add (k * 6)).off + 4, none⟩) hpb).trans (hc2 4 _ rfl), (hu.cell (p := ⟨(ad.add (k * 6)).block, (ad.add (k * 6)).off + 5, none⟩) hpb).trans (hc2 5 _ rfl)⟩

theorem run_idx6 (W : World) (ad : Addr) (n cap k : Nat) (hk : k < n) : (Instr.indexAt 22 (.slice (some ad) n cap) (.int .i64 (k : Int))).run Try.prog W = .ok (.pointer (some (ad.add (k * 6)))) W := by
  go_simp
theorem soft_index6 {w : World} {ρ : Operand → Value} {o : Oper} {x y : Operand} {ad : Addr} {n cap k : Nat} (hx : ρ x = .slice (some ad) n cap) (hy : ρ y = .int .i64 (k : Int)) (hk : k < n) (ho : o.op = .indexAddr 22 x y) : softUpon Try.prog w (Fact.is (.pointer (some (ad.add (k * 6))))) ((execOp ρ o).run Try.prog w) := soft_index hx hy (run_idx6 w ad n cap k hk) ho
theorem add_any (W : World) (x y : Int) : (binOp .add 3 (.int .i64 x) (.int .i64 y)).run Try.prog W = .ok (.int .i64 (IntKind.i64.wrap (x + y))) W := by
  go_simp
theorem soft_min {P : Program} {w : World} {ρ : Operand → Value} {o : Oper} {x y : Operand} {ats : Array TypeId} {a b : Int} (hx : ρ x = .int .i64 a) (hy : ρ y = .int .i64 b) (ho : o.op = .call { callee := .builtin .min, args := #[x, y], argTypes := ats }) : softUpon P w (Fact.is (.int .i64 (min a b))) ((execOp ρ o).run P w) := by
  have e : (execOp ρ o).run P w = .ok (.value (.int .i64 (min a b))) w := by
    simp only [execOp, ho, resolve, invoke, builtin, Sem.run_bind, Sem.run_pure, Result.andThen_ok, List.map_toArray, List.map_cons, List.map_nil, hx, hy, Lib.run_min_ints]
  rw [e]
  exact ⟨rfl, Below.refl _ _⟩

/-- it says whether they are too many -/
def GivesQ (w : World) (n : Nat) (e : Ending) (w' : World) : Prop := ∃ r : Bool, e = .returned (.bool r) ∧ (r = false → n ≤ 200) ∧ Below w.heap.size w w'
set_option maxHeartbeats 2000000 in
theorem great_any (A : Option Addr) (n cap : Nat) (l : List Oq) (w : World) (hn : l.length = n) (hm : n ≤ maxLen) (hA : Lies w A (flatQ l)) :
    Calls Try.prog 10 #[.slice A n cap] w (GivesQ w n) := by
  have HA := Lib.hid hA
  have HN := Lib.hid hn
  unfold maxLen at hm
  clear hA hn
  go_enter Try.func10, Try.ntmps10
  go_wp2
  go_loopw [3, 4] (fun s t wr => ∃ (z : Int) (k : Nat), s = .int .i64 z ∧ t = .int .i64 (k : Int) ∧ k ≤ n ∧ Below w.heap.size w wr) (fun _ t _ => n - (RowKit.intOf t).toNat)
  case atStart => exact ⟨0, 0, rfl, rfl, Nat.zero_le _, Below.refl _ _⟩
  case round =>
    obtain ⟨z, k, rfl, rfl, hk, hB⟩ := hrel
    have out : ∀ b : Bool, decide ((200 : Int) < (n : Int)) = b → (b = false → n ≤ 200) := fun b hb e => by
      subst e
      have := of_decide_eq_false hb
      omega
    have OUT := Lib.hid out
    clear out
    by_cases hgo : k < n ∧ z < 9000
    · obtain ⟨hkn, hz⟩ := hgo
      have t1 : decide ((k : Int) < (n : Int)) = true := by simpa using hkn
      have t2 : decide (z < 9000) = true := by simpa using hz
      have hkl : k < l.length := by rw [HN.out]; exact hkn
      obtain ⟨ad, rfl, hadb, hc⟩ := at_oq (HA.out.below hB) k hkl
      obtain ⟨x, hx⟩ : ∃ x, l[k] = x := ⟨_, rfl⟩
      rw [hx] at hc
      obtain ⟨xw, xa, xc, xbA, xbc, xb, xkA, xkc, xk, xhA, xhc, xh⟩ := x
      simp only at hc
      obtain ⟨xbn, hbn⟩ : ∃ n, xb.length = n := ⟨_, rfl⟩
      obtain ⟨xkn, hkn2⟩ : ∃ n, xk.length = n := ⟨_, rfl⟩
      obtain ⟨xhn, hhn⟩ : ∃ n, xh.length = n := ⟨_, rfl⟩
      rw [hbn, hkn2, hhn] at hc
      clear hx hbn hkn2 hhn
      have HB := Lib.hid (fun (W : World) (hW : Below wr.heap.size wr W) => show (Instr.loadAt 29 (.pointer (some ⟨(Addr.add ad (k * 6)).block, (Addr.add ad (k * 6)).off + 3, none⟩))).run Try.prog W = .ok (.slice xbA xbn xbc) W from by
        have c1 := (hc W hW).2.2.2.1
        go_simp)
      have HK := Lib.hid (fun (W : World) (hW : Below wr.heap.size wr W) => show (Instr.loadAt 30 (.pointer (some ⟨(Addr.add ad (k * 6)).block, (Addr.add ad (k * 6)).off + 4, none⟩))).run Try.prog W = .ok (.slice xkA xkn xkc) W from by
        have c1 := (hc W hW).2.2.2.2.1
        go_simp)
      have HH := Lib.hid (fun (W : World) (hW : Below wr.heap.size wr W) => show (Instr.loadAt 31 (.pointer (some ⟨(Addr.add ad (k * 6)).block, (Addr.add ad (k * 6)).off + 5, none⟩))).run Try.prog W = .ok (.slice xhA xhn xhc) W from by
        have c1 := (hc W hW).2.2.2.2.2
        go_simp)
      clear hc
      have hbd : Below wr.heap.size wr wr.drew := (Below.refl _ _).drew
      go_wp2
      refine wp_late (by kernel_rfl) 45 [(15, [3]), (16, [0]), (17, [4]), (18, [16, 17]), (19, [18]), (20, [19]), (21, [20]), (22, [0]), (23, [4]), (24, [22, 23]), (25, [24]), (26, [25]), (27, [26]), (28, [21, 27]), (29, [0]), (30, [4]), (31, [29, 30]), (32, [31]), (33, [32]), (34, [33]), (35, [28, 34]), (36, [35]), (37, [15, 36]), (1023, [37])]
        [Fact.is (.int .i64 z), Fact.is (.slice (some ad) n cap), Fact.is (.int .i64 (k : Int)), Fact.is (.pointer (some (Addr.add ad (k * 6)))), Fact.is (.pointer (some ⟨((Addr.add ad (k * 6))).block, ((Addr.add ad (k * 6))).off + 3, none⟩)), Fact.is (.slice xbA xbn xbc), Fact.is (.int .i64 xbn), Fact.is (.slice (some ad) n cap), Fact.is (.int .i64 (k : Int)), Fact.is (.pointer (some (Addr.add ad (k * 6)))), Fact.is (.pointer (some ⟨((Addr.add ad (k * 6))).block, ((Addr.add ad (k * 6))).off + 4, none⟩)), Fact.is (.slice xkA xkn xkc), Fact.is (.int .i64 xkn), Fact.is (.int .i64 (IntKind.i64.wrap ((xbn : Int) + (xkn : Int)))), Fact.is (.slice (some ad) n cap), Fact.is (.int .i64 (k : Int)), Fact.is (.pointer (some (Addr.add ad (k * 6)))), Fact.is (.pointer (some ⟨((Addr.add ad (k * 6))).block, ((Addr.add ad (k * 6))).off + 5, none⟩)), Fact.is (.slice xhA xhn xhc), Fact.is (.int .i64 xhn), Fact.is (.int .i64 (IntKind.i64.wrap (IntKind.i64.wrap ((xbn : Int) + (xkn : Int)) + (xhn : Int)))), Fact.is (.int .i64 (min (IntKind.i64.wrap (IntKind.i64.wrap ((xbn : Int) + (xkn : Int)) + (xhn : Int))) 9000)), Fact.is (.int .i64 (IntKind.i64.wrap (z + min (IntKind.i64.wrap (IntKind.i64.wrap ((xbn : Int) + (xkn : Int)) + (xhn : Int))) 9000))), default]
        [1, 1, 1, 1, 1, 1, 1, 1, 1, 1, 1, 1, 1, 1, 1, 1, 1, 1, 1, 1, 1, 1, 1, 2] [23] [3] [15, 16, 17, 18, 19, 20, 21, 22, 23, 24, 25, 26, 27, 28, 29, 30, 31, 32, 33, 34, 35, 36, 37, 3] ((fun _ vs w' => vs = [.int .i64 (IntKind.i64.wrap (z + min (IntKind.i64.wrap (IntKind.i64.wrap ((xbn : Int) + (xkn : Int)) + (xhn : Int))) 9000))] ∧ Below wr.heap.size wr w'))
        (by kernel_rfl) (by kernel_rfl) rfl rfl ⟨?s0, ?s1, ?s2, ?s3, ?s4, ?s5, ?s6, ?s7, ?s8, ?s9, ?s10, ?s11, ?s12, ?s13, ?s14, ?s15, ?s16, ?s17, ?s18, ?s19, ?s20, ?s21, ?s22, trivial⟩ ?late ?fin
      case s0 =>
        intro ρ W hb hc hf hr
        obtain ⟨r3, -⟩ := hr
        have e3 : ρ (.tmp 3) = .int .i64 z := r3
        clear r3
        refine under_none rfl ?_
        exact ⟨e3, Below.refl _ _⟩
      case s1 =>
        intro ρ W hb hc hf hr
        obtain ⟨r0, -⟩ := hr
        have e0 : ρ (.tmp 0) = .slice (some ad) n cap := r0
        clear r0
        refine under_none rfl ?_
        exact ⟨e0, Below.refl _ _⟩
      case s2 =>
        intro ρ W hb hc hf hr
        obtain ⟨r4, -⟩ := hr
        have e4 : ρ (.tmp 4) = .int .i64 (k : Int) := r4
        clear r4
        refine under_none rfl ?_
        exact ⟨e4, Below.refl _ _⟩
      case s3 =>
        intro ρ W hb hc hf hr
        obtain ⟨r16, r17, -⟩ := hr
        have e16 : ρ (.tmp 16) = .slice (some ad) n cap := r16
        clear r16
        have e17 : ρ (.tmp 17) = .int .i64 (k : Int) := r17
        clear r17
        refine under_none rfl ?_
        exact soft_index6 e16 e17 (by omega) rfl
      case s4 =>
        intro ρ W hb hc hf hr
        obtain ⟨r18, -⟩ := hr
        have e18 : ρ (.tmp 18) = .pointer (some (Addr.add ad (k * 6))) := r18
        clear r18
        refine under_none rfl ?_
        exact soft_field e18 rfl (fun W => by go_simp)
      case s5 =>
        intro ρ W hb hc hf hr
        obtain ⟨r19, -⟩ := hr
        have e19 : ρ (.tmp 19) = .pointer (some ⟨((Addr.add ad (k * 6))).block, ((Addr.add ad (k * 6))).off + 3, none⟩) := r19
        clear r19
        refine under_none rfl ?_
        exact soft_load e19 (HB.out W (hbd.trans (hb.mono (by simp)))) rfl
      case s6 =>
        intro ρ W hb hc hf hr
        obtain ⟨r20, -⟩ := hr
        have e20 : ρ (.tmp 20) = .slice xbA xbn xbc := r20
        clear r20
        refine under_none rfl ?_
        simp [e20, go_sem, softUpon, Fact.is, Below.refl]
      case s7 =>
        intro ρ W hb hc hf hr
        obtain ⟨r0, -⟩ := hr
        have e0 : ρ (.tmp 0) = .slice (some ad) n cap := r0
        clear r0
        refine under_none rfl ?_
        exact ⟨e0, Below.refl _ _⟩
      case s8 =>
        intro ρ W hb hc hf hr
        obtain ⟨r4, -⟩ := hr
        have e4 : ρ (.tmp 4) = .int .i64 (k : Int) := r4
        clear r4
        refine under_none rfl ?_
        exact ⟨e4, Below.refl _ _⟩
      case s9 =>
        intro ρ W hb hc hf hr
        obtain ⟨r22, r23, -⟩ := hr
        have e22 : ρ (.tmp 22) = .slice (some ad) n cap := r22
        clear r22
        have e23 : ρ (.tmp 23) = .int .i64 (k : Int) := r23
        clear r23
        refine under_none rfl ?_
        exact soft_index6 e22 e23 (by omega) rfl
      case s10 =>
        intro ρ W hb hc hf hr
        obtain ⟨r24, -⟩ := hr
        have e24 : ρ (.tmp 24) = .pointer (some (Addr.add ad (k * 6))) := r24
        clear r24
        refine under_none rfl ?_
        exact soft_field e24 rfl (fun W => by go_simp)
      case s11 =>
        intro ρ W hb hc hf hr
        obtain ⟨r25, -⟩ := hr
        have e25 : ρ (.tmp 25) = .pointer (some ⟨((Addr.add ad (k * 6))).block, ((Addr.add ad (k * 6))).off + 4, none⟩) := r25
        clear r25
        refine under_none rfl ?_
        exact soft_load e25 (HK.out W (hbd.trans (hb.mono (by simp)))) rfl
      case s12 =>
        intro ρ W hb hc hf hr
        obtain ⟨r26, -⟩ := hr
        have e26 : ρ (.tmp 26) = .slice xkA xkn xkc := r26
        clear r26
        refine under_none rfl ?_
        simp [e26, go_sem, softUpon, Fact.is, Below.refl]
      case s13 =>
        intro ρ W hb hc hf hr
        obtain ⟨r21, r27, -⟩ := hr
        have e21 : ρ (.tmp 21) = .int .i64 xbn := r21
        clear r21
        have e27 : ρ (.tmp 27) = .int .i64 xkn := r27
        clear r27
        refine under_none rfl ?_
        exact soft_bin e21 e27 rfl rfl (add_any W _ _)
      case s14 =>
        intro ρ W hb hc hf hr
        obtain ⟨r0, -⟩ := hr
        have e0 : ρ (.tmp 0) = .slice (some ad) n cap := r0
        clear r0
        refine under_none rfl ?_
        exact ⟨e0, Below.refl _ _⟩
      case s15 =>
        intro ρ W hb hc hf hr
        obtain ⟨r4, -⟩ := hr
        have e4 : ρ (.tmp 4) = .int .i64 (k : Int) := r4
        clear r4
        refine under_none rfl ?_
        exact ⟨e4, Below.refl _ _⟩
      case s16 =>
        intro ρ W hb hc hf hr
        obtain ⟨r29, r30, -⟩ := hr
        have e29 : ρ (.tmp 29) = .slice (some ad) n cap := r29
        clear r29
        have e30 : ρ (.tmp 30) = .int .i64 (k : Int) := r30
        clear r30
        refine under_none rfl ?_
        exact soft_index6 e29 e30 (by omega) rfl
      case s17 =>
        intro ρ W hb hc hf hr
        obtain ⟨r31, -⟩ := hr
        have e31 : ρ (.tmp 31) = .pointer (some (Addr.add ad (k * 6))) := r31
        clear r31
        refine under_none rfl ?_
        exact soft_field e31 rfl (fun W => by go_simp)
      case s18 =>
        intro ρ W hb hc hf hr
        obtain ⟨r32, -⟩ := hr
        have e32 : ρ (.tmp 32) = .pointer (some ⟨((Addr.add ad (k * 6))).block, ((Addr.add ad (k * 6))).off + 5, none⟩) := r32
        clear r32
        refine under_none rfl ?_
        exact soft_load e32 (HH.out W (hbd.trans (hb.mono (by simp)))) rfl
      case s19 =>
        intro ρ W hb hc hf hr
        obtain ⟨r33, -⟩ := hr
        have e33 : ρ (.tmp 33) = .slice xhA xhn xhc := r33
        clear r33
        refine under_none rfl ?_
        simp [e33, go_sem, softUpon, Fact.is, Below.refl]
      case s20 =>
        intro ρ W hb hc hf hr
        obtain ⟨r28, r34, -⟩ := hr
        have e28 : ρ (.tmp 28) = .int .i64 (IntKind.i64.wrap ((xbn : Int) + (xkn : Int))) := r28
        clear r28
        have e34 : ρ (.tmp 34) = .int .i64 xhn := r34
        clear r34
        refine under_none rfl ?_
        exact soft_bin e28 e34 rfl rfl (add_any W _ _)
      case s21 =>
        intro ρ W hb hc hf hr
        obtain ⟨r35, -⟩ := hr
        have e35 : ρ (.tmp 35) = .int .i64 (IntKind.i64.wrap (IntKind.i64.wrap ((xbn : Int) + (xkn : Int)) + (xhn : Int))) := r35
        clear r35
        refine under_none rfl ?_
        exact soft_min e35 (hc _) rfl
      case s22 =>
        intro ρ W hb hc hf hr
        obtain ⟨r15, r36, -⟩ := hr
        have e15 : ρ (.tmp 15) = .int .i64 z := r15
        clear r15
        have e36 : ρ (.tmp 36) = .int .i64 (min (IntKind.i64.wrap (IntKind.i64.wrap ((xbn : Int) + (xkn : Int)) + (xhn : Int))) 9000) := r36
        clear r36
        refine under_none rfl ?_
        exact soft_bin e15 e36 rfl rfl (add_any W _ _)
      case late =>
        intro p j o hj ho a W hsz h0 h1 hfr hou
        match p, hj with
        | 0, hj =>
          obtain rfl : 23 = j := Option.some.inj hj
          obtain rfl := Option.some.inj ho
          clear hj ho
          obtain ⟨hb, hhard⟩ := h0 rfl
          have e37 : a.eval (.tmp 37) = .int .i64 (IntKind.i64.wrap (z + min (IntKind.i64.wrap (IntKind.i64.wrap ((xbn : Int) + (xkn : Int)) + (xhn : Int))) 9000)) := hhard 37 22 rfl rfl
          clear h0 h1 hhard hfr hou
          refine late_assign (x := .tmp 37) rfl e37 ⟨_, rfl, ?_, hbd.trans (hb.mono (by simp))⟩
          simp [Act.put, Array.getD_eq_getD_getElem?, hsz]
        | q + 1, hj => cases hj
      case fin =>
        intro a w1 ha hP
        obtain ⟨e3, hw1⟩ := hP
        have e3 : a.tmps.getD 3 undef = .int .i64 (IntKind.i64.wrap (z + min (IntKind.i64.wrap (IntKind.i64.wrap ((xbn : Int) + (xkn : Int)) + (xhn : Int))) 9000)) := by simpa using e3
        simp only [List.foldl_cons, List.foldl_nil, e3] at ha
        clear e3
        generalize a.tmps.getD 15 undef = v15 at ha
        generalize a.tmps.getD 16 undef = v16 at ha
        generalize a.tmps.getD 17 undef = v17 at ha
        generalize a.tmps.getD 18 undef = v18 at ha
        generalize a.tmps.getD 19 undef = v19 at ha
        generalize a.tmps.getD 20 undef = v20 at ha
        generalize a.tmps.getD 21 undef = v21 at ha
        generalize a.tmps.getD 22 undef = v22 at ha
        generalize a.tmps.getD 23 undef = v23 at ha
        generalize a.tmps.getD 24 undef = v24 at ha
        generalize a.tmps.getD 25 undef = v25 at ha
        generalize a.tmps.getD 26 undef = v26 at ha
        generalize a.tmps.getD 27 undef = v27 at ha
        generalize a.tmps.getD 28 undef = v28 at ha
        generalize a.tmps.getD 29 undef = v29 at ha
        generalize a.tmps.getD 30 undef = v30 at ha
        generalize a.tmps.getD 31 undef = v31 at ha
        generalize a.tmps.getD 32 undef = v32 at ha
        generalize a.tmps.getD 33 undef = v33 at ha
        generalize a.tmps.getD 34 undef = v34 at ha
        generalize a.tmps.getD 35 undef = v35 at ha
        generalize a.tmps.getD 36 undef = v36 at ha
        generalize a.tmps.getD 37 undef = v37 at ha
        simp only [Act.put, List.setIfInBounds_toArray, List.set_cons_succ, List.set_cons_zero] at ha
        subst ha
        have hB1 := hB.trans (hw1.mono hB.size)
        generalize IntKind.i64.wrap (z + min (IntKind.i64.wrap (IntKind.i64.wrap ((xbn : Int) + (xkn : Int)) + (xhn : Int))) 9000) = z2
        go_wp2
        go_roundw
        case rel => exact ⟨z2, k + 1, rfl, by go_num, by omega, hB1⟩
        case measure => simp [RowKit.intOf]; omega
    · obtain ⟨b2, hb2⟩ : ∃ b, decide ((200 : Int) < (n : Int)) = b := ⟨_, rfl⟩
      have H2 := Lib.hid (OUT.out b2 hb2)
      by_cases hz9 : 9000 ≤ z
      · have t3 : decide ((9000 : Int) ≤ z) = true := by simpa using hz9
        have t2 : decide (z < 9000) = false := by simp; omega
        by_cases hkn : k < n
        · have t1 : decide ((k : Int) < (n : Int)) = true := by simpa using hkn
          go_wp2
          go_returns
          exact ⟨true, rfl, (fun h => by cases h), hB⟩
        · have t1 : decide ((k : Int) < (n : Int)) = false := by simp; omega
          go_wp2
          go_returns
          exact ⟨true, rfl, (fun h => by cases h), hB⟩
      · have hkn : ¬ k < n := fun h => hgo ⟨h, by omega⟩
        have t3 : decide ((9000 : Int) ≤ z) = false := by simp; omega
        have t1 : decide ((k : Int) < (n : Int)) = false := by simp; omega
        go_wp2
        go_returns
        exact ⟨b2, rfl, H2.out, hB⟩
end Go.Proofs.Ytldecmodhppjpaa

