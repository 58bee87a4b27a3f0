/-
  Layer 5: trace.services and trace.sortedServices: an iterator that tells each service once, and all of them, sorted. The library's sorting is met by the shelf's contract. Nothing is assumed but that the spans lie in memory.
-/
import Derived.Test.YtmmkmhphnhanfaaGreatDoorTrA
import Derived.Test.YtmmkmhphnhanfaaGreatDoorLay
import Derived.RangeFuncBox
import Derived.RangeFuncLeaves
import Derived.RangeFuncCalls
import Derived.Shelf.Abstract
import Derived.Shelf.SortM.Plain
import Derived.WalkKit
import Derived.OwnWalkIn
import Derived.TacticsInMore
import Derived.LoopNIn
import Derived.LoopIn
import Derived.Maps.OwnIn
import Derived.Maps.AppendAt

namespace Go.Proofs.YtmmkmhphnhanfaaGreatDoor
open Go.RowKit Go.Shelf Go.Maps Go.WideMaps
set_option maxRecDepth 100000
attribute [local go_sem] Oper.semAt_some

def svKeys (l : List (List UInt8)) : List Lit := l.map fun s => .string s
def svSet (l : List (List UInt8)) : DataW Unit := setOf (.agg []) (svKeys l)
theorem svKeys_key (l : List (List UInt8)) : ∀ x ∈ svKeys l, WideAt.IsKeyLit x := by
  intro x hx
  obtain ⟨y, _, rfl⟩ := List.mem_map.1 hx
  trivial
theorem svSet_snoc (l : List (List UInt8)) (x : List UInt8) : svSet (l ++ [x]) = (svSet l).put (.string x) (.agg []) := by
  unfold svSet svKeys
  rw [List.map_append, List.map_singleton, setOf_snoc]
theorem svSet_has (l : List (List UInt8)) (s : List UInt8) : has (svSet l) (.string s) = decide (s ∈ l) := by
  rw [Bool.eq_iff_iff, decide_eq_true_eq]
  unfold svSet
  rw [has_setOf _ _ _ (svKeys_key l), List.any_eq_true]
  constructor
  · rintro ⟨x, hx, h⟩
    obtain ⟨y, hy, rfl⟩ := List.mem_map.1 hx
    have := (WideAt.sameKey_iff (b := .string s) trivial).1 h
    injection this with h2
    rw [← h2]; exact hy
  · intro h
    exact ⟨_, List.mem_map.2 ⟨s, h, rfl⟩, WideAt.sameKey_self (a := .string s) trivial⟩
theorem ownsMap_walks {H : Type} {P : Program} {k : TypeId} {R : Value → Option (DataW H × List MemPlace)} {w w' : World} {b n : Nat} {D : DataW H} (h : w.ownsMap P k R b n D) (d : KeepsWalks w w') : w'.ownsMap P k R b n D := by
  obtain ⟨es, clock, hb, r⟩ := h
  exact ⟨es, clock, d.same b _ hb rfl, r⟩
theorem keyedS : Keyed Tryz.prog 9 := string_keyed Tryz.underlying9
theorem seen_take (ls : List Plain.Sp) (k : Nat) (hk : k < ls.length) : Plain.seen (ls.take (k + 1)) = if ls[k].sv ∈ Plain.seen (ls.take k) then Plain.seen (ls.take k) else Plain.seen (ls.take k) ++ [ls[k].sv] := by
  rw [List.take_succ_eq_append_getElem hk, Plain.seen_snoc]

set_option maxHeartbeats 4000000 in
theorem serv1_in (F : Fence) (n : Nat) (h81 : F.fn 81) (hro : F.round = none) (hn : 1 ≤ n) (l Bn : Nat) (A : Option Addr) (m cap : Nat) (ls : List Plain.Sp) (J Jx : List (List UInt8) → World → Prop) (w0 W : World) (hJ : AbidesFrom W.heap.size J)
    (hY : ∀ pre x W1, J pre W1 → pre.length < m → YieldAt F (n - 1) Tryz.prog l #[.string (str x)] W1 fun e W' =>
      (e = .returned (.bool true) ∧ J (pre ++ [x]) W' ∧ (Below w0.heap.size W1 W' ∧ KeepsWalks W1 W')) ∨ (e = .returned (.bool false) ∧ Jx (pre ++ [x]) W'))
    (hml : ls.length = m) (hm : m ≤ 64) (hBn : W.cell? ⟨Bn, 0, none⟩ = some (.slice A m cap)) (hA : Lies w0 A (flat ls)) (hS : Fine ls) (hW : Below w0.heap.size w0 W) (h0 : J [] W) :
    CallsIn F n Tryz.prog 81 #[.func (.yield l) #[] #[], .pointer (some ⟨Bn, 0, none⟩)] W fun e W' => (∃ v, e = .returned v) ∧
      ((∃ ys, ys = Plain.seen ls ∧ J ys W') ∨ (∃ pre, Jx pre W')) := by
  have hmm := @run_makeMap Tryz.prog
  have HML := Lib.hid hml
  have HA := Lib.hid hA
  have HS := Lib.hid hS
  have HJ := Lib.hid hJ
  have HY := Lib.hid hY
  have HW0 := Lib.hid h0
  clear hml hA hS hJ hY h0
  have hBn' : (W.alloc (.map #[] 0)).cell? ⟨Bn, 0, none⟩ = some (.slice A m cap) := by
    have hlt : Bn < W.heap.size := by
      rcases Nat.lt_or_ge Bn W.heap.size with h | h
      · exact h
      · simp [World.cell?, Array.getElem?_eq_none h] at hBn
    rw [World.cell?_alloc_lt W _ _ hlt]; exact hBn
  refine callsIn_of_wp Tryz.func81 rfl h81 ?_ hro
  simp only [Tryz.ntmps81, List.size_toArray, List.length_cons, List.length_nil, Nat.reduceAdd, Nat.reduceSub, Array.replicate_succ, Array.replicate_zero, List.push_toArray, List.append_toArray, List.nil_append, List.cons_append]
  gi_wp2
  gi_loopw [11] (fun i wr => ∃ k : Nat, i = .int .i64 k ∧ k ≤ m ∧ J (Plain.seen (ls.take k)) wr ∧ wr.ownsMap Tryz.prog 9 unitElem W.heap.size k (svSet (Plain.seen (ls.take k))) ∧ Below w0.heap.size w0 wr ∧ W.heap.size < wr.heap.size) (fun i _ => m - (intOf i).toNat)
  case atStart =>
    exact ⟨0, rfl, Nat.zero_le _, HJ.out _ _ _ none HW0.out (World.grownBy_alloc W _ none) (fun r e => by cases e), World.ownsMap_made _ _ _ _, hW.alloc hW.size _, by simp⟩
  case round =>
    obtain ⟨k, rfl, hk, hJk, hown, hbr, hws⟩ := hrel
    have HJK := Lib.hid hJk
    have HO := Lib.hid hown
    clear hJk hown
    have hse := Plain.seen_len (ls.take k)
    have hsz := hbr.size
    by_cases hlt : k < m
    · have hkl : k < ls.length := by rw [HML.out]; exact hlt
      rw [List.length_take] at hse
      obtain ⟨ad, rfl, hadb, hc⟩ := at_span HA.out k hkl
      obtain ⟨x0, x1, x2, x3, x4, x5, x6⟩ := hc wr hbr
      obtain ⟨hxv, hxn⟩ := HS.out ls[k] (List.getElem_mem hkl)
      have HT := Lib.hid (seen_take ls k hkl)
      obtain ⟨M, hM⟩ : ∃ M, decide (ls[k].sv ∈ Plain.seen (ls.take k)) = M := ⟨_, rfl⟩
      have HM := Lib.hid (show (M = true → ls[k].sv ∈ Plain.seen (ls.take k)) ∧ (M = false → ls[k].sv ∉ Plain.seen (ls.take k)) from ⟨fun h => of_decide_eq_true (hM.trans h), fun h => of_decide_eq_false (hM.trans h)⟩)
      have HH := Lib.hid (show has (svSet (Plain.seen (ls.take k))) (.string ls[k].sv) = M by rw [svSet_has, hM])
      have HYK := Lib.hid (fun (u : World) (h : J (Plain.seen (ls.take k)) u) => HY.out _ ls[k].sv u h (by omega))
      have hkey : keyOf Tryz.prog 9 (.string (str ls[k].sv)) = some (.string ls[k].sv) := by
        have := keyOf_string_mk (s := str ls[k].sv) Tryz.underlying9 (by rw [str_size]; exact hxv)
        simpa [str] using this
      clear hc hM hxv hxn
      generalize ls[k] = x at *
      obtain ⟨xt, xi, xp, xs, xd, xv, xn⟩ := x
      simp only at *
      generalize str xv = XV at *
      generalize str xn = XN at *
      have bx := Blk.new wr #[.int .i64 xt, .int .i64 xi, .int .i64 xp, .int .i64 xs, .int .i64 xd, .string XV, .string XN] 40
      have z5 := bx.cell 5
      have bx2 := (Kept.of ((Below.refl (wr.alloc (.cells #[.int .i64 xt, .int .i64 xi, .int .i64 xp, .int .i64 xs, .int .i64 xd, .string XV, .string XN] 40)).heap.size (wr.alloc (.cells #[.int .i64 xt, .int .i64 xi, .int .i64 xp, .int .i64 xs, .int .i64 xd, .string XV, .string XN] 40))).alloc (Nat.le_refl _) (.cells #[] 57)) []).blk bx (by simp)
      have z52 := bx2.cell 5
      have HO1 := Lib.hid (HO.out.alloc (.cells #[.int .i64 xt, .int .i64 xi, .int .i64 xp, .int .i64 xs, .int .i64 xd, .string XV, .string XN] 40))
      have HO2 := Lib.hid (HO1.out.alloc (.cells #[] 57))
      have HJ2 := Lib.hid (HJ.out _ _ _ none (HJ.out _ _ _ none HJK.out (World.grownBy_alloc wr (.cells #[.int .i64 xt, .int .i64 xi, .int .i64 xp, .int .i64 xs, .int .i64 xd, .string XV, .string XN] 40) none) (fun r e => by cases e)) (World.grownBy_alloc _ (.cells #[] 57) none) (fun r e => by cases e))
      have HB2 : Below w0.heap.size w0 ((wr.alloc (.cells #[.int .i64 xt, .int .i64 xi, .int .i64 xp, .int .i64 xs, .int .i64 xd, .string XV, .string XN] 40)).alloc (.cells #[] 57)) := (hbr.alloc hbr.size _).alloc (by simp; omega) _
      rcases M with _ | _
      · gi_wp2_with (first
          | (gi_at_lookup; refine wpListIn_lookup_own_unit _ rfl _ _ 127 rfl 9 57 keyedS Tryz.underlying127 (zeroUnit _) W.heap.size k _ rfl HO1.out _ _ rfl hkey ?_; rw [HH.out])
          | (gi_at_mapUpdate; refine wpListIn_mapUpdate_own _ rfl _ _ _ 127 rfl 9 57 keyedS Tryz.underlying127 unitElem W.heap.size k _ rfl HO2.out (by unfold maxLen; omega) _ _ _ rfl rfl hkey _ [] unitElem_mk ?_; intro w3 hown3 hgrow3; have z53 := hgrow3.cell z52 (by simp; omega)))
        have HO3 := Lib.hid hown3
        have hB3 := HB2.grown hgrow3 HB2.size (fun j e => by cases e; exact hW.size)
        have hJ3 := HJ.out _ _ _ _ HJ2.out hgrow3 (fun r e => by
          cases e
          obtain ⟨es, c, hb, _⟩ := HO2.out
          exact ⟨Nat.le_refl _, _, hb, rfl⟩)
        have hs3 := hgrow3.size
        obtain ⟨fn, tmps, assign, body, hy, hR⟩ := HYK.out w3 hJ3
        clear hown3 hgrow3 hJ3
        rw [hy]
        gi_wp2
        refine hR.mono ?_
        rintro e W4 (⟨rfl, hJ4, hk4, hw4⟩ | ⟨rfl, hJx4⟩)
        · have HJ4 := Lib.hid hJ4
          have HO4 := Lib.hid (ownsMap_walks HO3.out hw4)
          have hs4 := hw4.size
          clear hJ4
          gi_wp2
          go_roundw
          case rel =>
            have hs : Plain.seen (ls.take (k + 1)) = Plain.seen (ls.take k) ++ [xv] := by rw [HT.out, if_neg (HM.out.2 (by trivial))]
            refine ⟨k + 1, by go_num, by omega, ?_, ?_, hB3.trans hk4, by simp at hs3; omega⟩
            · rw [hs]; exact HJ4.out
            · rw [hs, svSet_snoc]; exact HO4.out
          case measure => simp [intOf]; omega
        · have HJX := Lib.hid hJx4
          clear hJx4
          gi_wp2
          refine bodyPost_ret (results_none rfl _ _ _) rfl ?_
          exact ⟨⟨_, rfl⟩, .inr ⟨_, HJX.out⟩⟩
      · gi_wp2_with (gi_at_lookup; refine wpListIn_lookup_own_unit _ rfl _ _ 127 rfl 9 57 keyedS Tryz.underlying127 (zeroUnit _) W.heap.size k _ rfl HO1.out _ _ rfl hkey ?_; rw [HH.out])
        go_roundw
        case rel =>
          have hs : Plain.seen (ls.take (k + 1)) = Plain.seen (ls.take k) := by rw [HT.out, if_pos (HM.out.1 (by trivial))]
          refine ⟨k + 1, by go_num, by omega, ?_, ?_, HB2, by simp; omega⟩
          · rw [hs]; exact HJ2.out
          · rw [hs]; exact HO2.out.mono (Nat.le_succ _)
        case measure => simp [intOf]; omega
    · obtain rfl : k = m := by omega
      have hall : ls.take k = ls := List.take_of_length_le (by rw [HML.out]; omega)
      gi_wp2
      go_end0
      exact ⟨⟨_, rfl⟩, .inl ⟨_, by rw [hall], HJK.out⟩⟩
end Go.Proofs.YtmmkmhphnhanfaaGreatDoor

namespace Go.Proofs.YtmmkmhphnhanfaaGreatDoor
open Go.RowKit Go.Shelf Go.Sort
set_option maxRecDepth 100000

theorem putRow_grown (w : World) (blk off m : Nat) (dk : Array (List UInt8)) (os : Array Obj) : w.grownBy (grow (putRow encStr (Sort.ahead w m) blk off dk) os) (some blk) := by
  unfold putRow mapBlock
  refine ⟨rfl, rfl, rfl, ?_, fun k hk hne => ?_⟩
  · rw [size_grow]; simp [Sort.ahead]
  · rw [heap_grow_old _ _ (by simpa [Sort.ahead] using hk)]
    simp only [Sort.ahead, Array.getElem?_modify]
    rw [if_neg (fun e => hne (by rw [e]))]
theorem sortStr_any (g cap n : Nat) (ss : List (List UInt8)) (w : World) (hn : ss.length = n) (hg : g < w.heap.size) (hc : ∀ j (h : j < ss.length), w.cell? ⟨g, j, none⟩ = some (.string (str ss[j])) ∧ w.frozen? ⟨g, j, none⟩ = false) (hsz : n ≤ 1000000) :
    Calls Tryz.prog 56 #[.slice (some ⟨g, 0, none⟩) n cap] w fun e w' => e = .returned (.tuple #[]) ∧ Lies w' (some ⟨g, 0, none⟩) (strs (ss.mergeSort fun x y => decide (x ≤ y))) ∧ w.grownBy w' (some g) := by
  subst hn
  have hH : Holds encStr w g 0 ss.toArray := by
    intro j hj
    have hj' : j < ss.length := by simpa using hj
    have := hc j hj'
    rw [Nat.zero_add]
    simpa [hj', encStr, str] using this
  have hcon := AnyM.slices_Sort_string Tryz.sortS g 0 cap ss w hH hg (by omega)
  refine Calls.mono (show Calls Tryz.prog 56 _ _ _ from hcon) ?_
  rintro e w' ⟨rfl, q, os, rfl⟩
  refine ⟨rfl, ?_, putRow_grown w g 0 q _ os⟩
  generalize hd : ss.mergeSort (fun x y => decide (x ≤ y)) = d
  have hdl : d.length = ss.length := by rw [← hd]; exact List.length_mergeSort _
  have h2 : Holds encStr (grow (putRow encStr (Sort.ahead w q) g 0 d.toArray) os) g 0 d.toArray :=
    holds_grow encStr _ os g 0 _ (by simpa [Sort.ahead] using hg) (holds_putRow encStr (Sort.ahead w q) g 0 ss.toArray d.toArray hH (by simpa using hdl))
  refine .inr ⟨_, rfl, by rw [size_grow]; simp [Sort.ahead]; omega, ?_⟩
  intro j u hu
  have hj : j < d.length := by
    rcases Nat.lt_or_ge j d.length with h | h
    · exact h
    · rw [List.getElem?_eq_none (by rw [strs_length]; exact h)] at hu; cases hu
  have h3 := (h2 j (by simpa using hj)).1
  have e2 : (⟨g, 0, none⟩ : Addr).add j = ⟨g, j, none⟩ := by unfold Addr.add; split <;> simp_all
  rw [e2]
  rw [Nat.zero_add] at h3
  rw [h3]
  simpa [hj, strs, encStr, str] using hu
end Go.Proofs.YtmmkmhphnhanfaaGreatDoor

namespace Go.Proofs.YtmmkmhphnhanfaaGreatDoor
open Go.RowKit Go.Shelf
set_option maxRecDepth 100000
attribute [local go_sem] Oper.semAt_some

theorem infoStr : (Tryz.prog.info? 9).map (fun i => (i.zero, i.size, i.bytes)) = some (some (.string ⟨#[]⟩), 1, 16) := by kernel_rfl
/-- a slice of texts that was handed back -/
def GivesT (w w' : World) (ts : List (List UInt8)) (v : Value) : Prop := ∃ A cap, v = .slice A ts.length cap ∧ ts.length ≤ cap ∧ cap ≤ maxLen ∧ Lies w' A (strs ts) ∧ Below w.heap.size w w'

set_option maxHeartbeats 1000000 in
theorem serv_in (F : Fence) (n : Nat) (h55 : F.fn 55) (hro : F.round = none) (A : Option Addr) (m cap : Nat) (w : World) :
    CallsIn F n Tryz.prog 55 #[.slice A m cap] w fun e w' => e = .returned (.func (.func 81) #[] #[.pointer (some ⟨w.heap.size, 0, none⟩)]) ∧ w' = w.alloc (.cells #[.slice A m cap] 22) := by
  refine callsIn_of_wp Tryz.func55 rfl h55 ?_ hro
  simp only [Tryz.ntmps55, List.size_toArray, List.length_cons, List.length_nil, Nat.reduceAdd, Nat.reduceSub, Array.replicate_succ, Array.replicate_zero, List.push_toArray, List.append_toArray, List.nil_append, List.cons_append]
  gi_wp2
  go_ret
  exact ⟨rfl, rfl⟩

theorem serv_stops (F : Fence) (n : Nat) (h81 : F.fn 81) (hro : F.round = none) (hn : 1 ≤ n) (Bn : Nat) (A : Option Addr) (m cap : Nat) (ls : List Plain.Sp) (w0 w : World) (hml : ls.length = m) (hm : m ≤ 64) (hBn : w.cell? ⟨Bn, 0, none⟩ = some (.slice A m cap)) (hlt : Bn < w.heap.size) (hA : Lies w0 A (flat ls)) (hS : Fine ls) (hW : Below w0.heap.size w0 w) :
    SeqStopsK F n Tryz.prog 81 #[.pointer (some ⟨Bn, 0, none⟩)] (fun x : List UInt8 => #[Value.string (str x)]) (fun X Y => Below w0.heap.size X Y ∧ KeepsWalks X Y) (fun ys => ys = Plain.seen ls) (fun _ => True) m w := fun l J Jx W hb hJ _ hY h0 =>
  (serv1_in F n h81 hro hn l Bn A m cap ls J Jx w0 W hJ hY hml hm ((hb.cell (p := ⟨Bn, 0, none⟩) hlt).trans hBn) hA hS (hW.trans (hb.mono hW.size)) h0).mono fun _ _ ⟨he, h⟩ => ⟨he, h.imp id fun ⟨pre, hp⟩ => ⟨pre, trivial, hp⟩⟩

theorem strs_one (ss : List (List UInt8)) : ∀ u ∈ strs ss, u.oneCell' = true := by
  intro u hu
  obtain ⟨s, _, rfl⟩ := List.mem_map.1 hu
  rfl
theorem strs_snoc (ss : List (List UInt8)) (s : List UInt8) : strs (ss ++ [s]) = strs ss ++ [.string (str s)] := by simp [strs]

set_option maxHeartbeats 4000000 in
theorem sortedServ_any (A : Option Addr) (m cap : Nat) (ls : List Plain.Sp) (w : World) (hml : ls.length = m) (h1m : 1 ≤ m) (hm : m ≤ 64) (hA : Lies w A (flat ls)) (hS : Fine ls) :
    Calls Tryz.prog 38 #[.slice A m cap] w fun e w' => ∃ v, e = .returned v ∧ GivesT w w' (Plain.svs ls) v := by
  obtain ⟨i0, hi, hz0, hz1, hz2⟩ := info_parts infoStr
  refine (callsIn_wide (n := 3)).1 ?_
  have hf55 : Fence.wide.fn 55 := trivial
  have hf56 : Fence.wide.fn 56 := trivial
  refine callsIn_of_wp_marks Tryz.func38 rfl trivial ?_ rfl
  simp only [Tryz.ntmps38, List.size_toArray, List.length_cons, List.length_nil, Nat.reduceAdd, Nat.reduceSub, Array.replicate_succ, Array.replicate_zero, List.push_toArray, List.append_toArray, List.nil_append, List.cons_append]
  gi_wp2_with (gi_at_call 55; refine (serv_in Fence.wide _ trivial rfl A m cap _).mono ?_; rintro e w' ⟨rfl, rfl⟩)
  have bO := Boxed.new w 33 (.slice none 0 0)
  have bN := Boxed.new (w.alloc (.cells #[.slice none 0 0] 33)) 22 (.slice A m cap)
  rw [World.size_alloc] at bN
  have hB0 : Below w.heap.size w ((w.alloc (.cells #[.slice none 0 0] 33)).alloc (.cells #[.slice A m cap] 22)) := ((Below.refl _ w).alloc (Nat.le_refl _) _).alloc (by simp) _
  refine wpIn_rangeFunc_ownG rfl (by omega) (gf := 81) (lb := #[.pointer (some ⟨w.heap.size + 1, 0, none⟩)]) rfl trivial (enters_of Tryz.func81 (by kernel_rfl) rfl)
    (serv_stops Fence.wide _ trivial rfl (by omega) (w.heap.size + 1) A m cap ls w _ hml hm bN.cell bN.lt hA hS hB0) (fun h k => ⟨h.1.trans k.1, h.2.trans k.2⟩) (fun W l o o' h1 h2 h3 h4 => ⟨belowK_b (w := (w.alloc (.cells #[.slice none 0 0] 33)).alloc (.cells #[.slice A m cap] 22)) (by simp; omega) W l o o' h1 h2 h3 h4, KeepsWalks.putObj _ h2 h4⟩) (Below.refl _ _) (fun _ => rfl)
    (fun pre W => (∃ v, Boxed W w.heap.size 33 v ∧ W.ownsRow w.heap.size 9 1 v pre.length (strs pre) ∧ True) ∧ Below w.heap.size w W)
    (fun _ _ _ => False)
    (OwnFrom.and (Own.from (holdsRow_own w.heap.size w.heap.size 33 9 1 (fun pre : List (List UInt8) => pre.length) (fun pre => strs pre) (fun _ _ => True)) _) (ownFrom_below (Nat.le_refl _) (by simp; omega)))
    (fun _ _ _ _ _ hs _ _ => hs)
    ⟨⟨_, bO.alloc _, World.ownsRow_nil _ _ _ _, trivial⟩, hB0⟩
    (fun x => { tmps := #[.slice A m cap, undef, .slice none 0 0, .pointer (some ⟨w.heap.size, 0, none⟩), .string (str x), .slice A m cap, .func (.func 81) #[] #[.pointer (some ⟨w.heap.size + 1, 0, none⟩)], .string (str x), undef, undef, undef, undef, undef, undef, undef], defers := [] }) ?assign ?body ?done ?stop
  case assign =>
    intro l x W K hK
    gi_wp2
    exact hK
  case body =>
    rintro l pre x W ⟨⟨v, hv, hrow, -⟩, hB⟩ hlt
    have hc := hv.cell
    have hp64 : pre.length < 64 := by omega
    gi_wp2_with (gi_at_builtin; refine wpListIn_append_own _ rfl _ _ 33 rfl w.heap.size 9 i0 (.string ⟨#[]⟩) 1 16 Tryz.underlying33 hi hz0 hz1 hz2 rfl (by decide) _ _ _ rfl (hrow.alloc _) ⟨W.heap.size, 0, none⟩ 1 1 [.string (str x)] rfl rfl (cell_one_new _ _ _) (by simp [Value.oneCell']) (by unfold maxLen; omega) (by omega) (by have := hB.size; simp; omega) ?_; intro v' w1 hown' hgrow _; obtain ⟨g', cap', rfl⟩ := ownsRow_succ hown'; obtain ⟨hv1, hv2, hr2, hk2, hb2⟩ := hv.appended (by decide) hrow hB.size (Nat.le_refl _) hown' hgrow; have hc1 := hv1.cell; have hf1 := hv1.frozen)
    exact ⟨hk2.from _, ⟨hb2, hk2.walks⟩, ⟨_, hv2, by rw [strs_snoc, List.length_append]; exact hr2, trivial⟩, hB.trans hb2⟩
  case done =>
    rintro D ys W hD rfl ⟨⟨v, hv, hrow, -⟩, hB⟩ hK
    have hne : Plain.seen ls ≠ [] := by
      intro e
      obtain ⟨x, r, rfl⟩ := List.exists_cons_of_length_pos (show 0 < ls.length by omega)
      have := (Plain.seen_mem (x :: r) x.sv).2 ⟨x, by simp, rfl⟩
      rw [e] at this; cases this
    have hsl := Plain.seen_len ls
    have hc0 := hv.cell
    have hnr := hv.not_row (by decide) hrow
    rcases hrow.2 with ⟨-, h0⟩ | ⟨g, cap1, cur, rfl, hbg, hgh, hl1, hm1, hcs, htk⟩
    · exact absurd (List.eq_nil_of_length_eq_zero h0) hne
    have hgw : w.heap.size < g := by
      have : w.heap.size ≠ g := fun e => hnr (by rw [e]; rfl)
      omega
    have hg1 : g < W.heap.size := (hrow.lt g rfl).2
    have hDg : some D ≠ some g := by
      intro e
      have e' : D = g := by injection e
      subst e'
      rw [hK] at hgh; cases hgh
    have HSO := Lib.hid (sortStr_any g cap1 (Plain.seen ls).length (Plain.seen ls) W rfl hg1 (fun j hj => by
      have hc := hrow.cells (g := g) rfl j (.string (str (Plain.seen ls)[j])) (by simp [strs, hj])
      have e2 : (⟨g, 0, none⟩ : Addr).add j = ⟨g, j, none⟩ := by unfold Addr.add; split <;> simp_all
      rw [e2] at hc
      exact ⟨hc, by simp [World.frozen?, hgh]⟩) (by omega))
    have HSV := Lib.hid (show Plain.svs ls = (Plain.seen ls).mergeSort fun x y => decide (x ≤ y) from rfl)
    have hlen : (Plain.svs ls).length = (Plain.seen ls).length := by rw [HSV.out]; exact List.length_mergeSort _
    rw [← HSV.out] at HSO
    generalize (Plain.seen ls).length = sn at *
    clear hrow hcs htk hA hS hne
    gi_wp2_with (gi_at_call 56; refine (callsIn_wide.2 HSO.out).mono ?_; rintro e w2 ⟨rfl, hL2, hgr2⟩; have hc2 := hgr2.cell hc0 (by simp; omega))
    have hK2 : w2.heap[D]? = some (.deferred (some [])) := (hgr2.block D (Array.getElem?_eq_some_iff.1 hK).1 hDg).trans hK
    have hB2 := hB.grown hgr2 hB.size (fun j e => by cases e; exact hbg)
    refine ⟨by simp, .inl ⟨_, _, rfl, run_takeDeferred hK2, ?_⟩⟩
    refine ⟨_, results_tmp rfl _ _ _, .slice (some ⟨g, 0, none⟩) sn cap1, rfl, some ⟨g, 0, none⟩, cap1, by rw [hlen], by rw [hlen]; exact hl1, hm1, ?_, ?_⟩
    · rcases hL2 with h | ⟨ad, e, hb, hcell⟩
      · exact .inl h
      · injection e with e
        subst e
        refine .inr ⟨_, rfl, by simpa using hb, fun j u hu => ?_⟩
        refine (grownBy_putObj' w2 D (.deferred none)).cell (hcell j u hu) ?_
        rw [addr_block]
        exact fun e => hDg e.symm
    · exact hB2.trans (belowK_b (w := w) (Nat.le_refl _) w2 D _ _ (by simp at hD; omega) hK2 rfl rfl)
  case stop =>
    rintro D c pre W _ _ h _
    exact h.elim
end Go.Proofs.YtmmkmhphnhanfaaGreatDoor
