/-
  Layer 12: frame.frames: an iterator that tells each frame's place and body; and rows of parts in memory. Nothing is assumed but that the bytes lie in memory.
-/
import Derived.Test.YtchfiekepjndeaaFrB
import Derived.RangeFuncBox
import Derived.RangeFuncLeaves
import Derived.RangeFuncCalls
import Derived.RangeFuncWrites
import Derived.Shelf.Abstract
import Derived.WalkKit
import Derived.OwnWalkIn
import Derived.TacticsInMore
import Derived.LoopNIn
import Derived.LoopIn
import Derived.Maps.AppendAt

namespace Go.Proofs.Ytchfiekepjndeaa
open Go.RowKit Go.Shelf
set_option maxRecDepth 100000
attribute [local go_sem] Oper.semAt_some

/-- a part, and the slice that its body is -/
abbrev PV := Fra.P × Value
/-- parts as cells -/
def flatP (L : List PV) : List Value := L.flatMap fun x => [.int .i64 (x.1.p : Int), .int .i64 (x.1.sz : Int), x.2]
theorem flatP_len (L : List PV) : (flatP L).length = L.length * 3 := by
  induction L with
  | nil => rfl
  | cons x r ih => simp only [flatP, List.flatMap_cons, List.length_append, List.length_cons, List.length_nil] at ih ⊢; omega
theorem flatP_snoc (L : List PV) (x : PV) : flatP (L ++ [x]) = flatP L ++ [.int .i64 (x.1.p : Int), .int .i64 (x.1.sz : Int), x.2] := by simp [flatP]
theorem own_typed {W W' : World} {B n size : Nat} {v : Value} {e : TypeId} {xs : List Value} (h : W.ownsRow B e size v n xs) (hk : ∀ (g : Nat) (cs : Array Value) (m : Nat × Nat), W.heap[g]? = some (.cells cs e m) → W'.heap[g]? = some (.cells cs e m)) : W'.ownsRow B e size v n xs := by
  refine ⟨h.1, ?_⟩
  rcases h.2 with hn | ⟨g, cap, cur, rfl, hb, hgg, rest⟩
  · exact .inl hn
  · exact .inr ⟨g, cap, cur, rfl, hb, hk g _ _ hgg, rest⟩
theorem own_base {w : World} {B B' n size : Nat} {e : TypeId} {v : Value} {xs : List Value} (h : w.ownsRow B e size v n xs) (hb : B' ≤ B) : w.ownsRow B' e size v n xs := by
  refine ⟨h.1, ?_⟩
  rcases h.2 with hn | ⟨g, cap, cur, rfl, h1, rest⟩
  · exact .inl hn
  · exact .inr ⟨g, cap, cur, rfl, Nat.le_trans hb h1, rest⟩
/-- a row of parts of one's own, whose bodies are one's own, each apart from the others -/
structure PRow (B : Nat) (W : World) (v : Value) (L : List PV) : Prop where
  row : W.ownsRow B 35 3 v L.length (flatP L)
  each : ∀ x ∈ L, 1 ≤ x.1.b.length ∧ W.ownsRow B 5 1 x.2 x.1.b.length (cells x.1.b)
  apart : L.Pairwise fun x y => x.2.ownBlock ≠ y.2.ownBlock
theorem PRow.nil (B : Nat) (W : World) : PRow B W (.slice none 0 0) [] := ⟨World.ownsRow_nil _ _ _ _, by simp, .nil⟩
theorem PRow.typed {B : Nat} {W W' : World} {v : Value} {L : List PV} (h : PRow B W v L) (hk : ∀ (g : Nat) (cs : Array Value) (t : TypeId) (m : Nat × Nat), (t = 35 ∨ t = 5) → W.heap[g]? = some (.cells cs t m) → W'.heap[g]? = some (.cells cs t m)) : PRow B W' v L :=
  ⟨own_typed h.row fun g cs m hg => hk g cs _ m (.inl rfl) hg, fun x hx => ⟨(h.each x hx).1, own_typed (h.each x hx).2 fun g cs m hg => hk g cs _ m (.inr rfl) hg⟩, h.apart⟩
theorem PRow.below {B : Nat} {W W' : World} {v : Value} {L : List PV} (h : PRow B W v L) (hb : Below W.heap.size W W') : PRow B W' v L :=
  h.typed fun g _ _ _ _ hg => (hb.block g (Array.getElem?_eq_some_iff.1 hg).1).trans hg
theorem PRow.base {B B' : Nat} {W : World} {v : Value} {L : List PV} (h : PRow B W v L) (hb : B' ≤ B) : PRow B' W v L :=
  ⟨own_base h.row hb, fun x hx => ⟨(h.each x hx).1, own_base (h.each x hx).2 hb⟩, h.apart⟩
theorem own_some {w : World} {B n size : Nat} {e : TypeId} {v : Value} {xs : List Value} (h : w.ownsRow B e size v n xs) (hn : 1 ≤ n) : ∃ g cap cur, v = .slice (some ⟨g, 0, none⟩) n cap ∧ B ≤ g ∧ w.heap[g]? = some (.cells cur e (0, 0)) := by
  rcases h.2 with ⟨_, h0⟩ | ⟨g, cap, cur, h1, h2, h3, _⟩
  · omega
  · exact ⟨g, cap, cur, h1, h2, h3⟩
theorem below_grownBy {X Y : World} (h : Below X.heap.size X Y) : X.grownBy Y none := ⟨h.os, h.tape, h.output, h.size, fun k hk _ => h.block k hk⟩
theorem boxed_from {β : Type} (n B : Nat) (t : TypeId) (f : β → Value) : OwnFrom n (fun s W => Boxed W B t (f s)) := fun s W W' row h hg hr => h.kept hg (fun e => by
  obtain ⟨_, o, ho, hc⟩ := hr B e.symm
  rw [show W.heap[B]? = _ from h] at ho; cases ho; cases hc)
/-- blocks of a type stay as they are -/
def KeepsTy (T : TypeId) (X Y : World) : Prop := X.heap.size ≤ Y.heap.size ∧ ∀ (g : Nat) (cs : Array Value) (m : Nat × Nat), X.heap[g]? = some (.cells cs T m) → Y.heap[g]? = some (.cells cs T m)
theorem KeepsTy.refl {T : TypeId} (X : World) : KeepsTy T X X := ⟨Nat.le_refl _, fun _ _ _ h => h⟩
theorem KeepsTy.trans {T : TypeId} {X Y Z : World} (h : KeepsTy T X Y) (k : KeepsTy T Y Z) : KeepsTy T X Z := ⟨Nat.le_trans h.1 k.1, fun g cs m hg => k.2 g cs m (h.2 g cs m hg)⟩
theorem KeepsTy.grown {T : TypeId} {X Y : World} {row : Option Nat} (h : X.grownBy Y row) (hr : ∀ r, row = some r → ∀ cs m, X.heap[r]? ≠ some (.cells cs T m)) : KeepsTy T X Y :=
  ⟨h.size, fun g cs m hg => (h.block g (Array.getElem?_eq_some_iff.1 hg).1 (fun e => hr g e.symm cs m hg)).trans hg⟩
/-- boxes of slices of bytes stay as they are -/
abbrev KeepsB := KeepsTy 22
theorem KeepsB.boxed {X Y : World} {B : Nat} {v : Value} (h : KeepsB X Y) (hb : Boxed X B 22 v) : Boxed Y B 22 v := h.2 _ _ _ hb
theorem slice12_lo (A : Option Addr) (n cap o : Nat) (W : World) (h1 : o ≤ n) (h2 : n ≤ cap) (hm : cap ≤ maxLen) : (Instr.sliceAt 22 (.slice A n cap) (some (.int .i64 (o : Int))) none none).run Try.prog W = .ok (.slice (if cap = o then A else A.map (·.add o)) (n - o) (cap - o)) W := by
  unfold maxLen at hm
  by_cases hca : cap = o
  · subst hca
    obtain rfl : n = cap := by omega
    rw [if_pos rfl]
    go_simp
  · rw [if_neg hca]
    go_simp

/-- a frame of the bytes at ad, whose body lies there -/
abbrev FrIt (w0 : World) (ad : Addr) (n : Nat) := {x : Fra.P // 1 ≤ x.b.length ∧ x.b.length ≤ 3600 ∧ x.p + x.sz ≤ n ∧ Lies w0 (some ((ad.add x.p).add (Plain.size x.b.length))) (cells x.b)}
/-- what is yielded of it -/
def frEnc (ad : Addr) (cap : Nat) (x : Fra.P) : Array Value := #[.int .i64 (x.p : Int), .slice (some ((ad.add x.p).add (Plain.size x.b.length))) x.b.length (cap - x.p - Plain.size x.b.length)]

theorem frIt_of (w0 : World) (ad : Addr) (n cap : Nat) (bs : List UInt8) (l : List Fra.P) (hn : bs.length = n) (hnc : n ≤ cap) (hA : Lies w0 (some ad) (cells bs)) (hp : Fra.Pre bs l) (hf : (Fra.first (bs.drop (Fra.tot l))).2 ≠ 0) :
    ∃ x : FrIt w0 ad n, x.1 = Fra.nxt bs (Fra.tot l) ∧ frEnc ad cap x.1 = #[.int .i64 (Fra.tot l : Int), bodyV (ad.add (Fra.tot l)) (Fra.first (bs.drop (Fra.tot l))).1 (Fra.first (bs.drop (Fra.tot l))).2 (cap - Fra.tot l)] := by
  have hb := Fra.first_back _ hf
  have hl := Fra.nxt_len bs (Fra.tot l) hf
  have hlen := hp.len
  obtain ⟨h1, h2, h3, h4, -⟩ := hb
  rw [List.length_drop] at h4
  refine ⟨⟨Fra.nxt bs (Fra.tot l), by omega, by omega, ?_, ?_⟩, rfl, ?_⟩
  · rw [Fra.nxt_sz bs _ hf]; show Fra.tot l + _ ≤ n; omega
  · rw [hl, ← h3]
    show Lies w0 (some ((ad.add (Fra.tot l)).add (Fra.first (bs.drop (Fra.tot l))).1)) (cells (((bs.drop (Fra.tot l)).drop (Fra.first (bs.drop (Fra.tot l))).1).take (Fra.first (bs.drop (Fra.tot l))).2))
    have q1 := hA.drop (k := Fra.tot l) (cap := cap) (by rw [cells_length]; omega)
    rw [if_neg (by omega), cells_drop] at q1
    have q2 := q1.drop (k := (Fra.first (bs.drop (Fra.tot l))).1) (cap := cap - Fra.tot l) (by rw [cells_length, List.length_drop]; omega)
    rw [if_neg (by omega), cells_drop] at q2
    have q3 := q2.take (Fra.first (bs.drop (Fra.tot l))).2
    rw [cells_take] at q3
    exact q3
  · show frEnc ad cap (Fra.nxt bs (Fra.tot l)) = _
    unfold frEnc bodyV
    rw [hl, ← h3]
    rfl

set_option maxHeartbeats 4000000 in
theorem frames1_in (n : Nat) (hn1 : 1 ≤ n) (l Bn : Nat) (A : Option Addr) (ad : Addr) (N cap : Nat) (bs : List UInt8) (w0 W : World) (J Jx : List (FrIt w0 ad N) → World → Prop) (hJ : AbidesFrom W.heap.size J)
    (hY : ∀ pre (x : FrIt w0 ad N) W1, J pre W1 → pre.length < N → YieldAt Fence.wide (n - 1) Try.prog l (frEnc ad cap x.1) W1 fun e W' =>
      (e = .returned (.bool true) ∧ J (pre ++ [x]) W' ∧ (Below w0.heap.size W1 W' ∧ KeepsB W1 W')) ∨ (e = .returned (.bool false) ∧ Jx (pre ++ [x]) W'))
    (hn : bs.length = N) (hN40 : N ≤ 1099511627776) (hnc : N ≤ cap) (hcm : cap ≤ maxLen) (hAd : A = some ad ∨ bs = []) (hBn : Boxed W Bn 22 (.slice A N cap)) (hA : Lies w0 A (cells bs)) (hW : Below w0.heap.size w0 W) (h0 : J [] W) :
    CallsIn Fence.wide n Try.prog 27 #[.func (.yield l) #[] #[], .pointer (some ⟨Bn, 0, none⟩)] W fun e W' => (∃ v, e = .returned v) ∧
      ((∃ ys, ys.map (·.1) = Fra.all bs ∧ J ys W') ∨ (∃ pre, Jx pre W')) := by
  have HJ := Lib.hid hJ
  have HY := Lib.hid hY
  have HW0 := Lib.hid h0
  have HBN := Lib.hid hBn
  have HN := Lib.hid hn
  have HA := Lib.hid hA
  have hf18 : Fence.wide.fn 28 := trivial
  clear hA hJ hY h0 hBn hn
  refine callsIn_of_wp Try.func27 rfl trivial ?_ rfl
  simp only [Try.ntmps27, List.size_toArray, List.length_cons, List.length_nil, Nat.reduceAdd, Nat.reduceSub, Array.replicate_succ, Array.replicate_zero, List.push_toArray, List.append_toArray, List.nil_append, List.cons_append]
  gi_wp2_with fail
  gi_loopw [3] (fun i wr => ∃ pre : List (FrIt w0 ad N), i = .int .i64 (Fra.tot (pre.map (·.1)) : Int) ∧ Fra.Pre bs (pre.map (·.1)) ∧ J pre wr ∧ Boxed wr Bn 22 (.slice A N cap) ∧ Below w0.heap.size w0 wr) (fun i _ => N - (intOf i).toNat)
  case atStart => exact ⟨[], rfl, .nil, HW0.out, HBN.out, hW⟩
  case round =>
    obtain ⟨pre, rfl, hp, hJk, hBx, hbr⟩ := hrel
    have hlen := hp.len
    have HJK := Lib.hid hJk
    have HP := Lib.hid hp
    have HBX := Lib.hid hBx
    have hc0 := hBx.cell
    have hpl : 2 * pre.length ≤ Fra.tot (pre.map (·.1)) := by simpa using hlen.1
    have hpn : Fra.tot (pre.map (·.1)) ≤ N := by have := HN.out; omega
    clear hJk hp hBx hlen
    have LD := HA.out.drop (k := Fra.tot (pre.map (·.1))) (cap := cap) (by rw [cells_length, HN.out]; exact hnc)
    rw [cells_drop] at LD
    have hsl := fun W => slice12_lo A N cap (Fra.tot (pre.map (·.1))) W hpn hnc hcm
    have hdl : (bs.drop (Fra.tot (pre.map (·.1)))).length = N - Fra.tot (pre.map (·.1)) := by rw [List.length_drop, HN.out]
    by_cases hf : (Fra.first (bs.drop (Fra.tot (pre.map (·.1))))).2 = 0
    · have HFN := Lib.hid (fun W2 (hL : Lies W2 (if cap = Fra.tot (pre.map (·.1)) then A else A.map (·.add (Fra.tot (pre.map (·.1))))) (cells (bs.drop (Fra.tot (pre.map (·.1)))))) => first_no _ (N - Fra.tot (pre.map (·.1))) (cap - Fra.tot (pre.map (·.1))) _ W2 hdl (by omega) hL hf)
      have HLD := Lib.hid (LD.below hbr)
      have HAL := Lib.hid (HP.out.all hf)
      clear LD hf hdl
      generalize (if cap = Fra.tot (pre.map (·.1)) then A else A.map (·.add (Fra.tot (pre.map (·.1))))) = AP at *
      generalize bs.drop (Fra.tot (pre.map (·.1))) = rest at *
      generalize Fra.tot (pre.map (·.1)) = p at *
      gi_wp2_with fail
      refine (callsIn_wide.2 (HFN.out _ HLD.out)).mono ?_
      rintro e w1 ⟨rfl, hb1⟩
      have HJ1 := Lib.hid (HJ.out _ _ _ none HJK.out (below_grownBy hb1) (fun r e => by cases e))
      gi_wp2
      all_goals refine ⟨fun f h => (by cases h), ?_⟩
      gi_wp2
      refine bodyPost_ret (results_none rfl _ _ _) rfl ?_
      exact ⟨⟨_, rfl⟩, .inl ⟨pre, HAL.out.symm, HJ1.out⟩⟩
    · have hne : bs ≠ [] := by
        rintro rfl
        rw [List.drop_nil] at hf
        exact hf rfl
      obtain rfl : A = some ad := hAd.resolve_right hne
      have hfb := Fra.first_back _ hf
      have hplt : ¬ cap = Fra.tot (pre.map (·.1)) := by have := hfb.2.2.2.1; have := hfb.1; omega
      rw [if_neg hplt] at LD hsl
      simp only [Option.map_some] at LD hsl
      obtain ⟨x, hx1, hx2⟩ := frIt_of w0 ad N cap bs (pre.map (·.1)) HN.out hnc HA.out HP.out hf
      have HS := Lib.hid (HP.out.snoc hf)
      rw [← hx1] at HS
      have hxs := Fra.nxt_sz bs (Fra.tot (pre.map (·.1))) hf
      rw [← hx1] at hxs
      have hts := Fra.tot_snoc (pre.map (·.1)) x.1
      rw [hxs] at hts
      obtain ⟨k, m, hkm⟩ : ∃ k m, Fra.first (bs.drop (Fra.tot (pre.map (·.1)))) = (k, m) := ⟨_, _, rfl⟩
      rw [hkm] at hx2 hts hfb hf
      simp only at hx2 hts hfb hf
      have HFY := Lib.hid (fun W2 (hL : Lies W2 (some (ad.add (Fra.tot (pre.map (·.1))))) (cells (bs.drop (Fra.tot (pre.map (·.1)))))) => first_yes (ad.add (Fra.tot (pre.map (·.1)))) (N - Fra.tot (pre.map (·.1))) (cap - Fra.tot (pre.map (·.1))) k m _ W2 hdl (by omega) (by omega) hL hkm hf)
      have HLD := Lib.hid (LD.below hbr)
      have h4N := hfb.2.2.2.1
      rw [hdl] at h4N
      have hlN : pre.length < N := by have h1 := hfb.1; omega
      have HYK := Lib.hid (fun (u : World) (h : J pre u) => HY.out _ x u h hlN)
      rw [hx2] at HYK
      have HTS := Lib.hid hts
      have hk1 := hfb.1
      have hk2 := hfb.2.1
      have hk3 := hfb.2.2.2.1
      have HX1 := Lib.hid hx1
      rw [hdl] at hk3
      have hmap : (pre ++ [x]).map (·.1) = pre.map (·.1) ++ [x.1] := by simp
      clear LD hf hdl hxs hx1 hx2 hts hfb hkm hne hplt
      have hpx : Fra.tot (pre.map (·.1)) ≤ 140737488355328 := by omega
      have hpq : Fra.tot (pre.map (·.1)) + (k + m) ≤ N := by clear hk3; omega
      have hNx : N ≤ 140737488355328 := by omega
      generalize hvv : bodyV (ad.add (Fra.tot (pre.map (·.1)))) k m (cap - Fra.tot (pre.map (·.1))) = bv at *
      clear hvv
      generalize bs.drop (Fra.tot (pre.map (·.1))) = rest at *
      generalize Fra.tot (pre.map (·.1)) = p at *
      obtain ⟨q, hq⟩ : ∃ q, k + m = q := ⟨_, rfl⟩
      rw [hq] at HFY HTS hpq
      have hq1 : 1 ≤ q := by omega
      have dq : ((q : Int) == 0) = false := by rw [beq_eq_false_iff_ne]; omega
      clear hq
      gi_wp2_with fail
      refine (callsIn_wide.2 (HFY.out _ HLD.out)).mono ?_
      rintro e w1 ⟨rfl, hb1⟩
      have HJ1 := Lib.hid (HJ.out _ _ _ none HJK.out (below_grownBy hb1) (fun r e => by cases e))
      have HB1 := Lib.hid (show KeepsB wr w1 from KeepsTy.grown (below_grownBy hb1) (fun r e => by cases e))
      have HBL := Lib.hid (hbr.trans (hb1.mono hbr.size))
      gi_wp2
      obtain ⟨fn, tmps, assign, body, hy, hR⟩ := HYK.out _ HJ1.out
      rw [hy]
      gi_wp2
      refine hR.mono ?_
      rintro e W4 (⟨rfl, hJ4, hk4, hkB⟩ | ⟨rfl, hJx4⟩)
      · have HJ4 := Lib.hid hJ4
        have HK4 := Lib.hid hk4
        have HKB := Lib.hid hkB
        clear hJ4 hk4 hkB
        gi_wp2
        go_roundw
        case rel => exact ⟨pre ++ [x], by rw [hmap, HTS.out]; go_num, by rw [hmap]; exact HS.out, HJ4.out, KeepsB.boxed HKB.out (KeepsB.boxed HB1.out HBX.out), HBL.out.trans HK4.out⟩
        case measure => first | omega | (simp [intOf]; omega)
      · have HJX := Lib.hid hJx4
        clear hJx4
        gi_wp2
        refine bodyPost_ret (results_none rfl _ _ _) rfl ?_
        exact ⟨⟨_, rfl⟩, .inr ⟨_, HJX.out⟩⟩

set_option maxHeartbeats 1000000 in
theorem frames_in (F : Fence) (n : Nat) (h23 : F.fn 18) (hro : F.round = none) (A : Option Addr) (m cap : Nat) (w : World) :
    CallsIn F n Try.prog 18 #[.slice A m cap] w fun e w' => e = .returned (.func (.func 27) #[] #[.pointer (some ⟨w.heap.size, 0, none⟩)]) ∧ w' = w.alloc (.cells #[.slice A m cap] 22) := by
  refine callsIn_of_wp Try.func18 rfl h23 ?_ hro
  simp only [Try.ntmps18, List.size_toArray, List.length_cons, List.length_nil, Nat.reduceAdd, Nat.reduceSub, Array.replicate_succ, Array.replicate_zero, List.push_toArray, List.append_toArray, List.nil_append, List.cons_append]
  gi_wp2
  go_ret
  exact ⟨rfl, rfl⟩
theorem frames_stops (n : Nat) (hn : 1 ≤ n) (Bn : Nat) (A : Option Addr) (ad : Addr) (m cap : Nat) (bs : List UInt8) (w0 w : World) (hml : bs.length = m) (hN40 : m ≤ 1099511627776) (hnc : m ≤ cap) (hcm : cap ≤ maxLen) (hAd : A = some ad ∨ bs = []) (hBn : Boxed w Bn 22 (.slice A m cap)) (hA : Lies w0 A (cells bs)) (hW : Below w0.heap.size w0 w) :
    SeqStopsK Fence.wide n Try.prog 27 #[.pointer (some ⟨Bn, 0, none⟩)] (fun x : FrIt w0 ad m => frEnc ad cap x.1) (fun X Y => Below w0.heap.size X Y ∧ KeepsB X Y) (fun ys => ys.map (·.1) = Fra.all bs) (fun _ => True) m w := fun l J Jx W hb hJ _ hY h0 =>
  (frames1_in n hn l Bn A ad m cap bs w0 W J Jx hJ hY hml hN40 hnc hcm hAd ((hb.block _ hBn.lt).trans hBn) hA (hW.trans (hb.mono hW.size)) h0).mono fun _ _ ⟨he, h⟩ => ⟨he, h.imp id fun ⟨pre, hp⟩ => ⟨pre, trivial, hp⟩⟩
end Go.Proofs.Ytchfiekepjndeaa
